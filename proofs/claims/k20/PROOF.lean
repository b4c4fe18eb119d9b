import PyProof.Rows.All
import Wide.All
import OpenK.AllK
import Wide.FinOn
import HandS.ForMost
import HandS.ForExc
import HandS.Wide
import HandS.Flow
import HandS.IsInst
import HandS.ExcInit
import HandS.ExcField
import HandS.ExcIs
import HandS.TryMany
import HandS.CallLocal
import HandS.RaiseMore
import HandS.CallSlots
import KE.KExcIs
import PyProof.ReprRoads
import PyProof.ReprText
import HandS.Evl
import HandS.Walk
import HandS.Style
import PyProof.StrBlock2
import PyProof.StrLawsRepr
import PyProof.ReprLen
import KE.GoesEnum
import HandS.Iter
import HandS.TupMul
import HandS.ListItems
import HandS.OwnIter
import HandS.More
import PyProof.InstSpecial
import HandS.Defaults
import HandS.DictComp
import HandS.Zip
import KE.KIntText
import PyProof.StrLawsTight
import PyProof.StrLawsChain
import HandS.StrMore
import HandS.Replace
import HandS.Head0
import HandS.Head1
import HandS.Head2
import HandS.HeadHook1
import HandS.HeadHook2
import KE.KStateDown
import HandS.HeadHook3
import HandS.Lambda
import HandS.HeadNt
import HandS.MakeKwOnly
import HandS.Dict
import KE.KDictPairs
import HandS.Sort
import KE.SortCalls
import KE.SortKeyed
import PyProof.Rows.RowHeap
import HandS.TupSets
import KE.KDictKeyed
import KE.KeyNested
import HandS.SetBool
import HandS.DictTup
import HandS.Set
import HandS.Comp
import HandS.Deep
import HandS.Strs
import KE.KDictWalk
import HandS.TupAny
import OpenK.KMore
import HandS.ExcOwn
import HandS.Nested
import HandS.SortKw
import KE.SortKeyHeap
import KE.DataMinKey
import PyProof.SeqI3
import HandS.Conv
import HandS.Steps
import PySem.Challenge.RW_liveclaims_k20_group_totals
set_option Elab.async false
set_option linter.all false
set_option maxRecDepth 100000
set_option maxHeartbeats 4000000
namespace Lc
open PySem PySem.Spec PyProof.Rows L2
/-! ## A try with clauses of both forms, «except X:» and «except X as n:» -/
structure Cl where
  c : Value
  slot : Option Nat
  ts : Addr → Value → Option Addr → TS
def putS : Option Nat → Option V → L2.St → L2.St
  | none, _, σ => σ
  | some i, v, σ => σ.set i v
def endS (q : Option Nat) (D : Ends) : Ends := ⟨fun σ H => D.nx (putS q none σ) H, D.rt, fun σ H => D.bk (putS q none σ) H, fun σ H => D.ct (putS q none σ) H⟩
def wCl (K : PySem.W.Frag) (Wout : WX) (D : Ends) : List Cl → WX
  | [] => Wout
  | q :: r => fun cls d σ H => ∃ b, PySem.W.exmOne K cls q.c = some b ∧ (b = true → ∀ a, H a = none → q.ts a cls d (endS q.slot D) (putS q.slot (some (.ref a)) σ) H) ∧
      (b = false → wCl K Wout D r cls d σ H)
abbrev SuiteOk (X : Cx) (st : List Stmt) (ts : Addr → Value → Option Addr → TS) : Prop :=
  ∀ (a : Addr) (ob : Obj) (cls : Value) (d : Option Addr) (pn : List (Addr × Obj)), Zc cls d ob → (∃ vs, ob.data = .fields vs) → PSs (X.suite a ((a, ob) :: pn)) st (ts a cls d)
inductive ClsOk (X : Cx) : List ExceptHandler → List Cl → Prop
  | nil : ClsOk X [] []
  | bare {x : Str} {q : Cl} {st : Stmt} {sts : List Stmt} {p1 p2 : Pos} {hds : List ExceptHandler} {l : List Cl} (hc : Names X x q.c) (hq : q.slot = none) (su : SuiteOk X (st :: sts) q.ts) (r : ClsOk X hds l) :
      ClsOk X (.ExceptHandler (some (.Name x p1)) none (st :: sts) p2 :: hds) (q :: l)
  | named {x n : Str} {q : Cl} {i : Nat} {st : Stmt} {sts : List Stmt} {p1 p2 : Pos} {hds : List ExceptHandler} {l : List Cl} (hc : Names X x q.c) (hq : q.slot = some i) (hN : X.N.Nodup) (hi : X.N[i]? = some n) (hn : X.env.kindOf n = some .local)
      (su : SuiteOk X (st :: sts) q.ts) (r : ClsOk X hds l) : ClsOk X (.ExceptHandler (some (.Name x p1)) (some n) (st :: sts) p2 :: hds) (q :: l)
section
variable {X : Cx}
theorem clauses_go {Wout : WX} {D : Ends} {pins : List (Addr × Obj)} {σ : L2.St} {H : Hp} {cls : Value} {d : Option Addr} {a : Addr} {B : Heap} {sI s' : Shared} {h3 : Heap}
    (hs : X.stack = X.env :: X.outer) (hf : X.env.frame = some X.env.locals) (tk : Takes X Wout) (J : Inv X pins σ H sI)
    (nb : ∀ b o, sI.heap.get? b = some o → b ∉ frs X.stack → B.get? b = some o) (na : H a = none) (os : s'.os = sI.os) (ag : AllBare s'.gens)
    (up : sI.heap.UpToSlots h3) (fl : HandSPX.FlyingZ B (X.env :: X.outer) a (Zc cls d) h3) :
    ∀ {hds : List ExceptHandler} {l : List Cl}, ClsOk X hds l → wCl X.K Wout D l cls d σ H → wpAny (model X.prog X.w) X.A (handleBy (.ref a) X.env hds) (SP X pins D) X.xe { s' with heap := h3 } := by
  have ok := J.ok
  have land : ∀ {h4 : Heap}, HandSPX.FlyingZ B (X.env :: X.outer) a (Zc cls d) h4 → sI.heap.UpToSlots h4 → Inv X pins σ H { s' with heap := h4 } ∧ ∃ ob vs, Zc cls d ob ∧ ob.data = .fields vs ∧ h4.get? a = some ob ∧
      Inv (X.suite a ((a, ob) :: (X.pn ++ pins))) [] σ H { s' with heap := h4 } := by
    intro h4 f4 u4
    have J4 : Inv X pins σ H { s' with heap := h4 } := J.landed nb f4.1 u4 os ag
    obtain ⟨ob, vs, hob, hz, hd⟩ := f4.there
    have nfr : a ∉ frs (X.env :: X.outer) := fun hm => by
      obtain ⟨_, ox, ex, nf⟩ := f4.2.2.1.mem hm
      rw [hob] at ex
      cases ex
      exact nf _ hd
    have nL : a ≠ X.env.locals := fun z => nfr (List.mem_filterMap.mpr ⟨X.env, List.mem_cons_self, by rw [hf, z]⟩)
    have nF : a ∉ X.fs := fun hm => by
      obtain ⟨en, hen, qq⟩ := List.mem_filterMap.mp hm
      exact nfr (List.mem_filterMap.mpr ⟨en, List.mem_cons_of_mem _ hen, qq⟩)
    exact ⟨J4, ob, vs, hz, hd, hob, J4.suite hob hd na nL nF⟩
  obtain ⟨J3, o3, vs3, hz3, hd3, ho3, S3⟩ := land fl up
  have ty : PySem.W.Looks (model X.prog X.w) h3 (typeOf (.ref a)) cls := fun _ _ _ _ kk qq => wpAny_typeOf_ref (kk _ _ ho3) (by rw [hz3.1]; exact qq)
  have tst : ∀ {x : Str} {c : Value} {p1 : Pos} {Q : Value → Shared → Prop} {E : Value → Shared → Prop}, Names X x c → Q c { s' with heap := h3 } →
      wpAny (model X.prog X.w) (X.A.mark (some (.ref a))) (eval (.Name x p1) X.env) Q E { s' with heap := h3 } := by
    intro x c p1 Q E hc hq
    rcases hc with ⟨hg, hdb, hm | ⟨hm, hv, hne⟩⟩
    · exact ld_glob (X := X.suite a ((a, o3) :: (X.pn ++ pins))) S3 hg hm hq hdb
    · exact ld_blt (X := X.suite a ((a, o3) :: (X.pn ++ pins))) S3 hg hm hv hq hne hdb
  intro hds l hk
  induction hk with
  | nil =>
    intro wi
    refine wpAny_handleBy_nil ?_
    obtain ⟨_, _, _, ox, vx, T, _, _, hox, _, hdx, h1, _⟩ := id fl
    have out : wpAny (model X.prog X.w) X.A (setFlight (.ref a) X.env.frame) (fun _ s4 => wpAny (model X.prog X.w) X.A (throw (.ref a) : Sem Flow) (SP X pins D) X.xe s4) X.xe { s' with heap := h3 } := by
      rw [hf]
      exact HandSPX.setFlight_upZ fl fun h4 f4 u4 => wpAny_throw (tk _ _ ⟨a, B, sI, pins, σ, H, cls, d, rfl, J, nb, up.trans u4, .inr (.inr (by rw [hs]; exact f4)), na, os, ag, wi⟩)
    unfold PySem.passOn
    refine wpAny_bind (wpAny_field hox hdx h1 ?_)
    rw [if_neg (by simp : ¬ ((Value.ref T == Value.none) = true))]
    first
      | exact wpAny_bind out
      | exact wpAny_bind (wpAny_pure (wpAny_bind out))
  | @bare x q st sts p1 p2 hds2 l2 hc hq su r ih =>
    intro wi
    obtain ⟨b, hb, yes, no⟩ := wi
    refine wpAny_handleBy_cons (codeAny_handlers_test (tst hc ((PySem.W.exm_one (M := model X.prog X.w) J3.kIn ty hb).here ?_))) (by intro z; cases z)
    cases b with
    | false => exact ih (no rfl)
    | true =>
      refine codeAny_handlers_suite (HandSPX.lands_againZ fl fun h4 f4 u4 => ?_)
      obtain ⟨J4, o4, vs4, hz4, hd4, ho4, S4⟩ := land f4 (up.trans u4)
      have yy := yes rfl a na
      rw [hq] at yy
      refine wpAny_mono ((su a o4 cls d (X.pn ++ pins) hz4 ⟨_, hd4⟩).run [] _ _ H _ S4 yy) (fun f s6 hsp => ?_) (fun _ _ z => z.elim)
      cases f with
      | ret u =>
        obtain ⟨v6, σ6, H6, S6, r6, q6⟩ := hsp
        exact ⟨v6, σ6, H6, S6.unsuite ok, r6, q6⟩
      | next => obtain ⟨σ6, H6, S6, q6⟩ := hsp; exact ⟨σ6, H6, S6.unsuite ok, q6⟩
      | brk => obtain ⟨σ6, H6, S6, q6⟩ := hsp; exact ⟨σ6, H6, S6.unsuite ok, q6⟩
      | cont => obtain ⟨σ6, H6, S6, q6⟩ := hsp; exact ⟨σ6, H6, S6.unsuite ok, q6⟩
  | @named x n q i st sts p1 p2 hds2 l2 hc hq hN hi hn su r ih =>
    intro wi
    obtain ⟨b, hb, yes, no⟩ := wi
    refine wpAny_handleBy_cons (codeAny_handlers_test (tst hc ((PySem.W.exm_one (M := model X.prog X.w) J3.kIn ty hb).here ?_))) (by intro z; cases z)
    cases b with
    | false => exact ih (no rfl)
    | true =>
      refine codeAny_handlers_suite_as (HandSPX.lands_againZ fl fun h4 f4 u4 => ?_)
      obtain ⟨J4, o4, vs4, hz4, hd4, ho4, S4⟩ := land f4 (up.trans u4)
      have yy := yes rfl a na
      rw [hq] at yy
      refine store_ok (X := X.suite a ((a, o4) :: (X.pn ++ pins))) (v := .ref a) S4 hN hi (.inl hn) rfl (fun s5 S5 => ?_) (.inr hn)
      refine wpAny_mono ((su a o4 cls d (X.pn ++ pins) hz4 ⟨_, hd4⟩).run [] s5 _ H _ S5 yy) (fun f s6 hsp => ?_) (fun _ _ z => z.elim)
      have fin : ∀ {σ6 : L2.St} {H6 : Hp} {Q : Shared → Prop}, Inv (X.suite a ((a, o4) :: (X.pn ++ pins))) [] σ6 H6 s6 → (∀ s7, Inv X pins (σ6.set i none) H6 s7 → Q s7) →
          wpAny (model X.prog X.w) X.A (do bindName X.env n .none; unbindBehindTheSuite X.env n p2) (fun _ s7 => Q s7) X.xe s6 := fun S6 k => gone_ok (S6.unsuite ok) hN hi hn k
      cases f with
      | ret u =>
        obtain ⟨v6, σ6, H6, S6, r6, q6⟩ := hsp
        exact fin S6 fun s7 J7 => ⟨_, _, _, J7, r6, q6⟩
      | next => obtain ⟨σ6, H6, S6, q6⟩ := hsp; exact fin S6 fun s7 J7 => ⟨_, _, J7, q6⟩
      | brk => obtain ⟨σ6, H6, S6, q6⟩ := hsp; exact fin S6 fun s7 J7 => ⟨_, _, J7, q6⟩
      | cont => obtain ⟨σ6, H6, S6, q6⟩ := hsp; exact fin S6 fun s7 J7 => ⟨_, _, J7, q6⟩
theorem ps_tryL {body : List Stmt} {h₀ : ExceptHandler} {hds : List ExceptHandler} {l : List Cl} {pos : Pos} {tb : WX → TS} {Wout : WX} (hs : X.stack = X.env :: X.outer) (hf : X.env.frame = some X.env.locals) (tk : Takes X Wout)
    (hb : ∀ (W : WX) (pn : List (Addr × Obj)) (xe : Value → Shared → Prop), Takes (X.tr pn xe) W → PassesOwn (model X.prog X.w) X.A X.env xe → PSs (X.tr pn xe) body (tb W)) (hh : ClsOk X (h₀ :: hds) l) :
    PS X (.Try body (h₀ :: hds) [] [] pos) (fun D σ H => tb (wCl X.K Wout D l) D σ H) := by
  refine ⟨fun pins s σ H D I h => ?_⟩
  have ok := I.ok
  have fr : X.A.frames = some (X.env :: X.outer) := ok.frames.trans (congrArg some hs)
  refine wpAny_Try_except (wpAny_mono ((hb (wCl X.K Wout D l) (X.pn ++ pins) (fun e s₁ => wpAny (model X.prog X.w) X.A (noteFrame e X.env) (fun _ s₂ => wpAny (model X.prog X.w) X.A (setFlight e none)
    (fun _ s₃ => wpAny (model X.prog X.w) X.A (handleBy e X.env (h₀ :: hds)) (SP X pins D) X.xe s₃) X.xe s₂) X.xe s₁) (fun u s' xx => ?_) PassesOwn.looking).run [] s σ H D (I.toTry _) h) (fun f s1 hsp => ?_) (fun _ _ he => he))
  · obtain ⟨a, B, sI, _, σ1, H1, cls, d, rfl, J', nb, up, sky, na, os, ag, wi⟩ := xx
    rw [hs] at sky
    exact Sky.land Zc.steady fr hf sky fun h3 f3 u3 => clauses_go hs hf tk (J'.ofTry ok) nb na os ag (up.trans u3) f3 hh wi
  · cases f with
    | ret u =>
      obtain ⟨v1, σ1, H1, J1, r1, q1⟩ := hsp
      exact ⟨v1, σ1, H1, J1.ofTry ok, r1, q1⟩
    | next => obtain ⟨σ1, H1, J1, q1⟩ := hsp; exact wpAny_execs_nil ⟨σ1, H1, J1.ofTry ok, q1⟩
    | brk => obtain ⟨σ1, H1, J1, q1⟩ := hsp; exact ⟨σ1, H1, J1.ofTry ok, q1⟩
    | cont => obtain ⟨σ1, H1, J1, q1⟩ := hsp; exact ⟨σ1, H1, J1.ofTry ok, q1⟩
end
/-! ## isinstance of the caught error, whether it has a dict or not -/
structure XisC (K : PySem.W.Frag) (C : Addr) : Prop where
  hc : (PySem.W.clsIn K C).isSome = true
  ga : PySem.W.findIn K (.ref C) "__getattribute__" = some (some (.builtin "BaseException.__getattribute__"))
  gt : PySem.W.findIn K (.ref C) "__getattr__" = some none
  sb : PySem.W.subIn K (.ref C) (.type "BaseException") = some true
  cl : PySem.W.findIn K (.ref C) "__class__" = some (some (.builtin "object.__class__"))
  sp : PySem.W.specialIn K (.builtin "object.__class__") "__get__" = some (some (.builtin "getset_descriptor.__get__"))
  tk : PySem.W.takesIn K (.builtin "object.__class__") = some true
  mo : PySem.W.mroIn K C (.type "object") = some true
def rIsX (K : PySem.W.Frag) (cls : Value) (d : Option Addr) (C a : Addr) : List V → Hp → VK → Prop := fun xs H Q => cls = .ref C ∧ ∃ (c : V) (cv : Value) (b : Bool), xs = [.ref a, c] ∧ ClsV c cv ∧ (∀ dd, d = some dd → ∃ fs, H dd = some (.xd fs)) ∧
  PySem.W.kitOne K (.ref C) cv = some b ∧ Q (.bl b) H
section
variable {X : Cx}
theorem call_isX {a C : Addr} {ob : Obj} {cls : Value} {d : Option Addr} {pn : List (Addr × Obj)} (T : XisC X.K C) (hz : Zc cls d ob) (hf : ∃ vs, ob.data = .fields vs) : CallR (X.suite a ((a, ob) :: pn)) (.builtin "isinstance") (rIsX X.K cls d C a) := by
  intro pins s σ H xs us Q I r h
  obtain ⟨ec, c, cv, b, rfl, hcv, hd, e, q⟩ := h
  obtain ⟨u1, u2, rfl, r1, r2⟩ := vals2 r
  have e2 := hcv.eq r2
  subst e2 ec
  obtain rfl : u1 = Value.ref a := r1
  obtain ⟨vs, hv⟩ := hf
  obtain ⟨hget, _⟩ := I.pin (a, ob) (List.mem_append_left _ List.mem_cons_self)
  have nc : PySem.W.notCls ob = true := by unfold PySem.W.notCls; rw [hv]
  have key : ∃ od, PySem.W.InstAt s.heap a ob C od := by
    cases d with
    | none => exact ⟨none, hget, hz.1, nc, by rw [hz.2]; trivial⟩
    | some dd =>
      obtain ⟨fs, hfs⟩ := hd dd rfl
      obtain ⟨mA, ⟨o, _, _, ho, _⟩, _⟩ := (show ObjOk X.prog X.w H s.heap dd (.xd fs) from I.hok dd _ hfs)
      exact ⟨some o, hget, hz.1, nc, by rw [hz.2]; exact ho⟩
  obtain ⟨od, J⟩ := key
  exact PySem.W.kia_one (PySem.W.kitx_exc T.hc T.ga T.gt T.sb T.cl T.sp T.tk T.mo) I.kIn J e (fun z => nomatch z) fun tk => ⟨.bl b, H, I.kept (t' := tk) fun _ _ z => z, rfl, q⟩
/-! ## f(e, ..), f a local name that holds a def which may raise -/
def tCallLS (i : Nat) (f : Addr) (sp : Sp) (E : L2.St → XK) (t : TA) : TE := fun σ H Q => σ[i]? = some (some (.ref f)) ∧ t σ H fun vs H1 => sp vs H1 Q (E σ)
theorem pe_callLS {CX : CXT} {k i : Nat} {f : Addr} {fd : FuncData} {ps : List Str} {sp : Sp} {E : L2.St → XK} {x : Str} {p pos : Pos} {e : Expr} {es : List Expr} {t : TA}
    (F : FnOk X.prog X.w X.K X.mg X.base CX k f fd ps sp) (hr : Room k X.A) (hN : X.N[i]? = some x) (hv : Vis X.env.scope x) (hk : PySem.W.keepIn X.K (.ref f) = true) (hb : Binds X.K fd ps []) (hx : ∀ σ, PassesAt CX X σ (E σ)) (ha : PA X (e :: es) t)
    (hdb : (x == ("__debug__" : Str)) = false := by decide) (hcd : (x == ("__classdict__" : Str)) = false := by decide)
    (he : starEach (e :: es) X.env = (false, eval e X.env) :: starEach es X.env := by rfl) (hpl : (backTo pos (starEach es X.env)).any (·.1) = false := by rfl) : PE X (.Call (.Name x p) (e :: es) [] pos) (tCallLS i f sp E t) := by
  refine ⟨fun pins s σ H Q I ⟨hs, ht⟩ => wpAny_Call_Name_kw (thn ((pe_var (pos := p) hN hv hdb hcd).run pins s σ H (fun v H1 => v = .ref f ∧ H1 = H) I ⟨.ref f, hs, rfl, rfl⟩) fun u s1 ⟨v, H1, I1, r1, e1, e2⟩ => ?_)⟩
  subst e1 e2
  obtain rfl : u = Value.ref f := r1
  exact PySem.W.callWith_K (h₀ := X.base) I.ok.mod.kin hk (thn (ha.run pos pins s1 σ _ _ I1 ht) fun us s2 ⟨vs, H2, I2, r, q⟩ => ⟨I2.kIn, run_fnS F hr hb (hx σ) I2 r q⟩) he hpl
/-! ## C(), an own error class without an __init__ -/
theorem pmk_own0 {C : Addr} {bmB : List Value} {B newId initId : String} {x : Str} {p pos : Pos} (F : ExcBaseFacts B newId initId bmB) (q : PySem.W.excIn X.K C bmB newId = true) (gC : X.mg x = some (.ref C)) (kC : PySem.W.keepIn X.K (.ref C) = true)
    (r : Raises X (.ref C)) (hg : Gl X x) (hdb : (x == ("__debug__" : Str)) = false := by decide) : PMk X (.Call (.Name x p) [] [] pos) (fun _ H Q => Q (.ref C) none H) := by
  intro pins s σ H Q I h
  refine wpAny_Call_Name_kw (ld_glob I hg gC (PySem.W.callWith_K0 I.kIn kC ?_) hdb)
  obtain ⟨_, _, _, _, _, _, _, _, _, _, _, _, _, _, _, _, _, hC, hN, hni, T⟩ := exc_obj I.kIn q
  exact wpAny_call_exc_subT F T hC hN hni (fun h' e hm => mk_of I hm r h (I.hok.gone hm.new)) (by show 0 ≤ sizeLine; omega)
/-! ## // by any great number but 0 -/
theorem op_fdivZ : OpR X (binaryOp .FloorDiv) (rI (fun _ j => j ≠ 0 ∧ j.natAbs.log2 < 9000) fun i j => .int (i.fdiv j)) := opI fun _ _ _ _ _ _ _ hc q => floordiv_int hc.1 q (.inl (PyProof.noPylong_of_log2 hc.2))
/-! ## repr of data -/
def rReprD (K : PySem.W.Frag) : List V → Hp → VK → Prop := fun xs H Q => ∃ (a : Addr) (d : PyData), xs = [.ref a] ∧ Dp K H (.ref a) d ∧ d.showable = true ∧ d.hasDict = false ∧ d.depth ≤ 60 ∧ d.shown.length ≤ sizeLine ∧ Q (.str d.shown) H
theorem call_reprD (hu : X.A.units + 64 < cLine) (hg : X.A.guards = some []) : CallR X (.builtin "repr") (rReprD X.K) := by
  intro pins s σ H xs us Q I r h
  obtain ⟨a, d, rfl, hd, hs, hn, hde, hl, q⟩ := h
  obtain ⟨u, rfl, ru⟩ := vals1 r
  obtain rfl : u = Value.ref a := ru
  obtain ⟨as, rd⟩ := Dp.reads I d _ _ hd rfl
  exact repr_of_reads' rd hs (fun z => by rw [hn] at z; cases z) hg (by omega) (fun _ _ e => e) (fun h' u tk hk => ⟨.str d.shown, H, I.kept (t' := tk) hk, ⟨u, rfl⟩, q⟩) hl
end
end Lc
set_option Elab.async false
set_option linter.all false
set_option maxRecDepth 100000
set_option maxHeartbeats 4000000
namespace Lc
open PySem PySem.Spec PyProof.Rows L2
/-! ## Promises of defs that are called where no repr is under way -/
structure FnG (P : Program) (w : World) (K : PySem.W.Frag) (mg : Str → Option Value) (base : Heap) (k : Nat) (f : Addr) (fd : FuncData) (ps : List Str) (sp : Sp) : Prop where
  len : ∀ vs H Q E, sp vs H Q E → vs.length = ps.length
  run : ∀ (A : Around) (outer : List Env) (s : Shared) (H : Hp) (args : Args) (us : List Value) (vs : List V) (Q : VK) (E : XK), A.guards = some [] → Room k A → Env0 P w K mg base A outer s H → BindsTo s fd args (ps.zip us) → Vals vs us → sp vs H Q E →
    codeAny (model P w) A (.call (.ref f) args) (CR CX0 outer P w H s Q E) s
section
variable {P : Program} {w : World} {K : PySem.W.Frag} {mg : Str → Option Value} {base : Heap}
theorem Fun.okG {x qual : Str} {st : Stmt} {f : Addr} {fd : FuncData} {N ps : List Str} {k : Nat} {sp : Sp} (F : Fun K x qual st f fd) (S : FnScope N ps (defScope st)) (len : ∀ vs H Q E, sp vs H Q E → vs.length = ps.length)
    (go : ∀ (cdv : Value) (A : Around) (outer : List Env) (s : Shared) (H : Hp) (vs : List V) (Q : VK) (E : XK), A.guards = some [] → Room k (A.deeper (envOfC qual (defScope st) s.heap.objs.size f cdv)) → sp vs H Q E →
      ∃ t, PSs (cxOf CX0 P w K mg base N qual (defScope st) f cdv A outer s H E).nox (defBody st) t ∧ t { nx := fun _ H' => Q .non H', rt := Q } (start N vs) H) : FnG P w K mg base (k + 1) f fd ps sp := by
  obtain ⟨oc, od, kV, doc, pm, an, cdv, ct, osl, rfl, lk, hcd⟩ := F.ex
  refine ⟨len, fun A outer s H args us vs Q E hg hr e0 hb r hsp => ?_⟩
  have up : ∀ b o, base.get? b = some o → s.heap.get? b = some o := fun b o z => (e0.bs b o z).1
  have KX := e0.mod.kin.keeps up
  refine codeAny_call_function hr.depth (KX _ _ lk) rfl S.co S.gen rfl (PySem.W.codeRec_of KX hcd) (hb _ _ _ _ ?_)
  refine wpAny_newFunctionEnv_cells S.kind (fun y hy => ?_) fun env he s1 x => ?_
  · rcases S.par y.1 (List.of_mem_zip (a := y.1) (b := y.2) hy).1 with z | z
    · exact .inl z
    · exact .inr ⟨z, PySem.W.cellsFrom_some _ _ _ (.inl z)⟩
  subst he
  obtain ⟨t, ht, hq⟩ := go cdv A outer s H vs Q E hg (hr.deeper _) hsp
  have I : Inv (cxOf CX0 P w K mg base N qual (defScope st) f cdv A outer s H E) [] (start N vs) H s1 := inv_start S hr.hd e0 (len _ _ _ _ hsp) r x
  refine ⟨(e0.mod.nolimit.keeps up).keeps x.toInCall.keep, codeAny_func (wpAny_mono (ht.nox.run [] s1 (start N vs) H _ I hq) (fun fl s' hs => ?_) fun _ _ z => z)⟩
  cases fl with
  | ret u => obtain ⟨v, _, H', J, rv, q⟩ := hs; exact ⟨v, H', J.os, J.bare, J.base, J.hok, rv, q⟩
  | next => obtain ⟨_, H', J, q⟩ := hs; exact ⟨V.non, H', J.os, J.bare, J.base, J.hok, rfl, q⟩
  | brk => obtain ⟨_, _, _, q⟩ := hs; exact q.elim
  | cont => obtain ⟨_, _, _, q⟩ := hs; exact q.elim
end
section
variable {X : Cx} {k : Nat} {f : Addr} {fd : FuncData} {ps : List Str} {sp : Sp} {x : Str} {p pos : Pos} {e : Expr} {es : List Expr} {t : TA}
/-- f(e, ..), f kept under FnG -/
theorem pe_callG (F : FnG X.prog X.w X.K X.mg X.base k f fd ps sp) (gg : X.A.guards = some []) (hr : Room k X.A) (hg : Gl X x) (hm : X.mg x = some (.ref f)) (hk : PySem.W.keepIn X.K (.ref f) = true) (hb : Binds X.K fd ps [])
    (ha : PA X (e :: es) t) (hdb : (x == ("__debug__" : Str)) = false := by decide) (he : starEach (e :: es) X.env = (false, eval e X.env) :: starEach es X.env := by rfl) (hpl : (backTo pos (starEach es X.env)).any (·.1) = false := by rfl) :
    PE X (.Call (.Name x p) (e :: es) [] pos) (tCall sp [] E0 t) := by
  refine ⟨fun pins s σ H Q I h => wpAny_Call_Name_kw (ld_glob I hg hm ?_ hdb)⟩
  refine PySem.W.callWith_K (h₀ := X.base) I.ok.mod.kin hk (thn (ha.run pos pins s σ H _ I h) fun us s1 ⟨vs, H1, I1, r, q⟩ => ⟨I1.kIn, ?_⟩) he hpl
  replace q : sp vs H1 Q E0 := by
    have z : sp (vs ++ []) H1 Q E0 := q
    rw [List.append_nil] at z
    exact z
  have hl : us.length = ps.length := by rw [← r.length]; exact F.len _ _ _ _ q
  have b := hb s1 us I1.kIn (by rw [List.append_nil]; exact hl)
  rw [List.append_nil] at b
  refine wpAny_call (codeAny_mono (F.run X.A X.stack s1 H1 ⟨us, []⟩ us vs Q E0 gg hr I1.env0 b r q) fun rr s' hq => ?_)
  cases rr with
  | error er => exact False.elim hq
  | ok fl =>
    cases fl with
    | ret u => exact I1.after hq
    | next => exact False.elim hq
    | brk => exact False.elim hq
    | cont => exact False.elim hq
end
/-! ## The law itself -/
section
variable {P : Program} {w : World} {K : PySem.W.Frag} {mg mb : Str → Option Value} {k : Nat} {fa a : Addr} {fd : FuncData} {x : Str} {sp : Sp} {s : Shared} {vs : List Value} {ns : List Int}
theorem env_of {H : Hp} (KX : K.In s.heap) (hns : s.heap.Ns mainGlobals mg) (hb : s.heap.Ns builtinsNs mb) (hbb : ∀ x : Str, x ≠ "__name__" → mb x = bootBuiltins x) (hlim : s.heap.NoLimit) (hg : s.gens = #[])
    (ha : s.heap.get? a = some { cls := .type "list", data := .seq vs.toArray }) (hok : HOk P w H s.heap) (one : ∀ b, b ≠ a → H b = none) (nk : H a = none ∨ K.lookup a = none) :
    K.In (hidT s.heap H) ∧ (hidT s.heap H).Ns mainGlobals mg ∧ Env0 P w K mg (hidT s.heap H) callerA [] s H := by
  have keepN : ∀ {b : Addr} {m : Str → Option Value}, s.heap.Ns b m → (hidT s.heap H).Ns b m := by
    rintro b m ⟨o, es, ep, e, d, r⟩
    have nb : b ≠ a := fun z => by
      rw [z, ha] at e
      cases e
      exact nomatch (show Data.seq vs.toArray _ = Data.dict es ep from d)
    exact ⟨o, es, ep, hidT_get e (one b nb), d, r⟩
  have kin : K.In (hidT s.heap H) := fun b o e => hidT_get (KX b o e) (by
    by_cases z : b = a
    · rcases nk with q | q
      · rw [z]; exact q
      · rw [z, q] at e; cases e
    · exact one b z)
  obtain ⟨mc, l1, l2⟩ := hlim
  exact ⟨kin, keepN hns, rfl, ⟨kin, keepN hns, ⟨mb, keepN hb, hbb⟩, ⟨mc, keepN l1, l2⟩⟩, fun b o e => of_hidT e, Nat.le_of_eq (hidT_size _ _), trivial, fun b z => absurd (show b ∈ ([] : List Addr) from z) (by simp), hok, .of_eq hg⟩
theorem law_callG (KX : K.In s.heap) (hns : s.heap.Ns mainGlobals mg) (hb : s.heap.Ns builtinsNs mb) (hbb : ∀ x : Str, x ≠ "__name__" → mb x = bootBuiltins x) (hlim : s.heap.NoLimit) (hg : s.gens = #[])
    (ha : s.heap.get? a = some { cls := .type "list", data := .seq vs.toArray }) (hi : IntsAre vs ns) (hl : ns.length ≤ sizeLine) (hr : Room k callerA)
    (F : ∀ base : Heap, K.In base → base.Ns mainGlobals mg → FnG P w K mg base k fa fd [x] sp) (hbind : ∀ (s : Shared) (u : Value), BindsTo s fd ⟨[u], []⟩ [(x, u)])
    (hsp : ∀ H : Hp, SqL K H a (ns.map V.int) → sp [.ref a] H (fun v _ => v = .bl true) fun _ _ _ => False) :
    codeAny (model P w) callerA (.call (.ref fa) ⟨[.ref a], []⟩) (fun r s' => r = .ok (.ret (.bool true)) ∧ OldK s.heap s'.heap ∧ s'.os = s.os ∧ AllBare s'.gens) s := by
  have rv := vals_ints hi
  have go : ∀ H : Hp, SqL K H a (ns.map V.int) → HOk P w H s.heap → (∀ b, b ≠ a → H b = none) → (H a = none ∨ K.lookup a = none) → (∀ o, H a = some o → ∃ ob u, o = .frz ob u) →
      codeAny (model P w) callerA (.call (.ref fa) ⟨[.ref a], []⟩) (fun r s' => r = .ok (.ret (.bool true)) ∧ OldK s.heap s'.heap ∧ s'.os = s.os ∧ AllBare s'.gens) s := by
    intro H hS hok one nk fz
    obtain ⟨k1, k2, e0⟩ := env_of KX hns hb hbb hlim hg ha hok one nk
    refine codeAny_mono ((F _ k1 k2).run callerA [] s H ⟨[.ref a], []⟩ [.ref a] [.ref a] _ _ rfl hr e0 (hbind s (.ref a)) (.cons rfl .nil) (hsp H hS)) fun r s' h => ?_
    cases r with
    | error _ => exact False.elim h
    | ok fl =>
      cases fl with
      | next => exact False.elim h
      | brk => exact False.elim h
      | cont => exact False.elim h
      | ret u =>
        obtain ⟨v, H', os, bare, un, hok', ru, ev⟩ := h
        subst ev
        obtain rfl : u = Value.bool true := ru
        refine ⟨rfl, OldK.of_keep fun b o e => ?_, os, bare⟩
        cases q : H b with
        | none => exact un.keep b o e q (fun z => absurd (show b ∈ ([] : List Addr) from z) (by simp)) (by simp)
        | some oo =>
          have zb : b = a := Classical.byContradiction fun z => by rw [one b z] at q; cases q
          subst zb
          obtain ⟨ob, u, rfl⟩ := fz oo q
          obtain ⟨e1, _⟩ := hok b _ q
          obtain ⟨e2, _⟩ := hok' b _ (un.frzs b ob u q)
          rw [e] at e1
          cases e1
          exact e2
  cases hk : K.lookup a with
  | some o =>
    have e := KX a o hk
    rw [ha] at e
    cases e
    exact go (fun _ => none) (.inr ⟨_, vs.toArray, _, hk, rfl, rfl, rfl, by rw [List.size_toArray, hi.length]; exact hl, by simpa using rv⟩) (fun b u z => nomatch z) (fun _ _ => rfl) (.inl rfl) (fun o z => nomatch z)
  | none =>
    let ob : Obj := { cls := .type "list", data := .seq vs.toArray }
    refine go (upd (fun _ => none) a (.frz ob (.lst (ns.map V.int)))) (.inl (.inr ⟨ob, upd_same⟩)) (fun b u z => ?_) (fun b z => upd_ne z) (.inr hk) (fun o z => ?_)
    · by_cases q : b = a
      · subst q
        rw [upd_same] at z
        cases z
        exact ⟨ha, by rw [List.length_map]; exact hl, vs, _, rv, ha⟩
      · rw [upd_ne q] at z
        cases z
    · rw [upd_same] at z
      cases z
      exact ⟨_, _, rfl⟩
end
theorem walk_G {l : PySem.W.OpenLaw} {n k : Nat} {q : Program} {loose : List Str} {XP : (Str → Option Value) → Heap → Prop} {YP : World → Heap → Prop} {d : DefRec} {K : Params → PySem.W.Frag} {sp : PySem.W.Frag → Sp} {x : Str}
    (hn : l.most = some n) (hn2 : n ≤ sizeLine) (hdf : d.params.defaults = []) (hr : Room k callerA) (hY : ∀ (w : World) (h : Heap), YP w h → (K w.params).In h)
    (F : ∀ (w : World) (mg : Str → Option Value) (fa : Addr) (h : Heap), (K w.params).In h → h.Ns mainGlobals mg → mg d.name = some (.ref fa) →
      ∃ fd : FuncData, (∀ (s : Shared) (u : Value), BindsTo s fd ⟨[u], []⟩ [(x, u)]) ∧ ∀ base : Heap, (K w.params).In base → base.Ns mainGlobals mg → FnG l.prog w (K w.params) mg base k fa fd [x] (sp (K w.params)))
    (hsp : ∀ (K : PySem.W.Frag) (H : Hp) (a : Addr) (ns : List Int), ns.length ≤ n → SqL K H a (ns.map V.int) → sp K [.ref a] H (fun v _ => v = .bl true) fun _ _ _ => False) :
    PySem.W.WalkO q loose XP YP l.row.toRowW d [] (fun f vs => PySem.call f vs) := by
  refine Att.attach_call hn hdf fun w _ s mg mb fa _ _ _ _ a vs ns G Y _ _ _ hmg hobj hints hlen hg => ?_
  obtain ⟨fd, hb, hF⟩ := F w mg fa _ (hY w _ Y) G.T.g hmg
  exact law_callG (hY w _ Y) G.T.g G.T.b G.T.builtins G.T.nolimit hg hobj hints (Nat.le_trans hlen hn2) hr hF hb fun H hS => hsp _ H a ns hlen hS
end Lc
set_option maxRecDepth 100000
set_option maxHeartbeats 4000000
set_option linter.all false
namespace Lc
/-! ## Greatest common divisors and lowest terms -/
def gd (a b : Int) : Int := (Int.gcd a b : Int)
theorem gd_nonneg (a b : Int) : 0 ≤ gd a b := Int.natCast_nonneg _
theorem gd_pos {a b : Int} (h : b ≠ 0) : 0 < gd a b := by
  have : 0 < Int.gcd a b := Int.gcd_pos_of_ne_zero_right a h
  unfold gd
  omega
theorem gd_zero {a : Int} (h : 0 ≤ a) : gd a 0 = a := by
  unfold gd
  rw [Int.gcd_zero_right]
  omega
theorem gd_step {a b : Int} (ha : 0 ≤ a) (hb : 0 < b) : gd b (a % b) = gd a b := by
  unfold gd Int.gcd
  have e1 : (a % b).natAbs = a.natAbs % b.natAbs := by
    have h0 : 0 ≤ a % b := Int.emod_nonneg a (by omega)
    have : ((a % b).natAbs : Int) = ((a.natAbs % b.natAbs : Nat) : Int) := by
      rw [Int.natCast_emod, Int.natAbs_of_nonneg h0, Int.natAbs_of_nonneg ha, Int.natAbs_of_nonneg (by omega : 0 ≤ b)]
    exact Int.ofNat.inj this
  rw [e1, Nat.gcd_comm b.natAbs, ← Nat.gcd_rec, Nat.gcd_comm]
theorem gd_abs (a b : Int) : gd (if a < 0 then -a else a) b = gd a b := by
  unfold gd
  split
  · rw [Int.neg_gcd]
  · rfl
theorem gd_abs2 (a b : Int) : gd a (if b < 0 then -b else b) = gd a b := by
  unfold gd
  split
  · rw [Int.gcd_neg]
  · rfl
theorem gd_dvd1 (a b : Int) : gd a b ∣ a := Int.gcd_dvd_left a b
theorem gd_dvd2 (a b : Int) : gd a b ∣ b := Int.gcd_dvd_right a b
theorem gd_natAbs_le {a b : Int} (h : b ≠ 0) : (gd a b).natAbs ≤ b.natAbs := by
  have h1 : Int.gcd a b ≤ b.natAbs := Nat.le_of_dvd (by omega) (Int.gcd_dvd_natAbs_right a b)
  unfold gd
  rw [Int.natAbs_natCast]
  exact h1
def lowN (n d : Int) : Int := n / gd n d
def lowD (n d : Int) : Int := d / gd n d
structure Rt (n d : Int) : Prop where
  pos : 0 < d
  cop : gd n d = 1
theorem low_mul {n d : Int} (h : d ≠ 0) : lowN n d * gd n d = n ∧ lowD n d * gd n d = d := ⟨Int.ediv_mul_cancel (gd_dvd1 n d), Int.ediv_mul_cancel (gd_dvd2 n d)⟩
theorem lowD_pos {n d : Int} (h : 0 < d) : 0 < lowD n d := Int.ediv_pos_of_pos_of_dvd h (gd_nonneg n d) (gd_dvd2 n d)
theorem low_rt {n d : Int} (h : 0 < d) : Rt (lowN n d) (lowD n d) := by
  refine ⟨lowD_pos h, ?_⟩
  have hg : 0 < Int.gcd n d := Int.gcd_pos_of_ne_zero_right n (by omega)
  unfold lowN lowD gd
  rw [Int.gcd_ediv_gcd_ediv_gcd hg]
  rfl
theorem dvd_cop {k m n : Int} (h : k ∣ n * m) (g : Int.gcd m k = 1) : k ∣ n := by
  have h1 : k.natAbs ∣ m.natAbs * n.natAbs := by
    rw [← Int.natAbs_mul, Int.mul_comm]
    exact Int.natAbs_dvd_natAbs.mpr h
  have c : Nat.Coprime k.natAbs m.natAbs := by
    show Nat.gcd k.natAbs m.natAbs = 1
    rw [Nat.gcd_comm]
    exact g
  exact Int.natAbs_dvd_natAbs.mp (c.dvd_of_dvd_mul_left h1)
/-- lowest terms are one pair alone -/
theorem rt_unique {a b c d : Int} (h1 : Rt a b) (h2 : Rt c d) (e : a * d = c * b) : a = c ∧ b = d := by
  have g1 : Int.gcd a b = 1 := by have := h1.cop; unfold gd at this; omega
  have g2 : Int.gcd c d = 1 := by have := h2.cop; unfold gd at this; omega
  have db : b ∣ d := by
    have : b ∣ d * a := ⟨c, by rw [Int.mul_comm d a, e, Int.mul_comm]⟩
    exact dvd_cop this g1
  have dd : d ∣ b := by
    have : d ∣ b * c := ⟨a, by rw [Int.mul_comm b c, ← e, Int.mul_comm]⟩
    exact dvd_cop this g2
  have hb := h1.pos
  have hd := h2.pos
  have ebd : b = d := Int.le_antisymm (Int.le_of_dvd hd db) (Int.le_of_dvd hb dd)
  subst ebd
  exact ⟨Int.eq_of_mul_eq_mul_right (by omega) e, rfl⟩
theorem low_is {n d a b : Int} (hd : 0 < d) (h : Rt a b) (e : n * b = a * d) : lowN n d = a ∧ lowD n d = b := by
  have m := low_mul (n := n) (d := d) (by omega)
  have g := gd_pos (a := n) (b := d) (by omega)
  refine rt_unique (low_rt hd) h ?_
  have e2 : (lowN n d * b) * gd n d = (a * lowD n d) * gd n d := by
    rw [Int.mul_right_comm, m.1, Int.mul_assoc, m.2, e]
  exact Int.eq_of_mul_eq_mul_right (by omega) e2
theorem fdiv_neg_dvd {a g : Int} (hg : 0 < g) (h : g ∣ a) : a.fdiv (-g) = (-a) / g := by
  obtain ⟨m, rfl⟩ := h
  have e1 : g * m = (-g) * (-m) := by rw [Int.neg_mul_neg]
  have e2 : -(g * m) = g * (-m) := by rw [Int.mul_neg]
  rw [e2, Int.mul_ediv_cancel_left _ (by omega), e1, Int.mul_fdiv_cancel_left _ (by omega)]
/-- the sums and products of the law -/
theorem sub_add {an ad bn bd p q : Int} (had : 0 < ad) (hbd : 0 < bd) (hq : 0 < q) (h : p * (ad * bd) = (an * bd + bn * ad) * q) : (p * bd - bn * q) * ad = an * (q * bd) := by
  have e1 : (p * bd - bn * q) * ad = p * (ad * bd) - bn * q * ad := by
    rw [Int.sub_mul, Int.mul_assoc p bd ad, Int.mul_comm bd ad]
  have e2 : (an * bd + bn * ad) * q = an * (q * bd) + bn * q * ad := by
    rw [Int.add_mul, Int.mul_assoc an bd q, Int.mul_comm bd q, Int.mul_assoc bn ad q, Int.mul_comm ad q, Int.mul_assoc bn q ad]
  rw [e1, h, e2]
  omega
theorem mul_div {an ad bn bd p q : Int} (h : p * (ad * bn) = (an * bd) * q) (hbn : bn ≠ 0) : (p * bn) * ad = an * (q * bd) := by
  rw [Int.mul_assoc p bn ad, Int.mul_comm bn ad, h, Int.mul_assoc an bd q, Int.mul_comm bd q]
end Lc
namespace Lc
theorem low_le {n d : Int} (h : d ≠ 0) : (lowN n d).natAbs ≤ n.natAbs ∧ (lowD n d).natAbs ≤ d.natAbs := by
  have m := low_mul (n := n) (d := d) h
  have g := gd_pos (a := n) (b := d) h
  have e1 : n.natAbs = (lowN n d).natAbs * (gd n d).natAbs := by rw [← Int.natAbs_mul, m.1]
  have e2 : d.natAbs = (lowD n d).natAbs * (gd n d).natAbs := by rw [← Int.natAbs_mul, m.2]
  have gp : 0 < (gd n d).natAbs := by omega
  exact ⟨by rw [e1]; exact Nat.le_mul_of_pos_right _ gp, by rw [e2]; exact Nat.le_mul_of_pos_right _ gp⟩
theorem rt_one (n : Int) : Rt n 1 := ⟨by decide, by unfold gd; rw [Int.gcd_one]; rfl⟩
theorem rt_inv {d : Int} (h : 0 < d) : Rt 1 d := ⟨h, by unfold gd; rw [Int.one_gcd]; rfl⟩
theorem rt_ninv {d : Int} (h : 0 < d) : Rt (-1) d := ⟨h, by unfold gd; rw [Int.neg_gcd, Int.one_gcd]; rfl⟩
end Lc
set_option Elab.async false
set_option linter.all false
set_option maxRecDepth 100000
set_option maxHeartbeats 4000000
namespace Lc
open PySem PySem.Spec PyProof.Rows L2
/-! ## Kinds of values -/
inductive TyN (H : Hp) : V → String → Prop
  | non : TyN H .non "NoneType"
  | bl (b : Bool) : TyN H (.bl b) "bool"
  | int (i : Int) : TyN H (.int i) "int"
  | str (x : Str) : TyN H (.str x) "str"
  | tup {a : Addr} {xs : List V} (e : H a = some (.tup xs)) : TyN H (.ref a) "tuple"
  | lst {a : Addr} {xs : List V} (e : H a = some (.lst xs)) : TyN H (.ref a) "list"
  | dct {a : Addr} {kvs : List (Key × V)} (e : H a = some (.dK kvs)) : TyN H (.ref a) "dict"
theorem TyN.x {K : PySem.W.Frag} {H : Hp} {v : V} {t : String} (h : TyN H v t) : TyX K H v (.type t) := by
  cases h with
  | non => exact .base .non
  | bl b => exact .base (.bl b)
  | int i => exact .base (.int i)
  | str x => exact .base (.str x)
  | tup e => exact .base (.tup e)
  | lst e => exact .base (.lst e)
  | dct e => exact .base (.dK e)
theorem TyN.same {H H' : Hp} {v : V} {t : String} (h : TyN H v t) (s : Same H H') : TyN H' v t := by
  cases h with
  | non => exact .non
  | bl b => exact .bl b
  | int i => exact .int i
  | str x => exact .str x
  | tup e => exact .tup (s _ _ e)
  | lst e => exact .lst (s _ _ e)
  | dct e => exact .dct (s _ _ e)
theorem TyN.isInt {H : Hp} {v : V} {t : String} (h : TyN H v t) (e : t = "int") : ∃ i, v = .int i := by
  cases h <;> first | exact ⟨_, rfl⟩ | exact absurd e (by decide)
theorem TyN.isStr {H : Hp} {v : V} {t : String} (h : TyN H v t) (e : t = "str") : ∃ x, v = .str x := by
  cases h <;> first | exact ⟨_, rfl⟩ | exact absurd e (by decide)
theorem TyN.isTup {H : Hp} {v : V} {t : String} (h : TyN H v t) (e : t = "tuple") : ∃ a xs, v = .ref a ∧ H a = some (.tup xs) := by
  cases h <;> first | exact ⟨_, _, rfl, by assumption⟩ | exact absurd e (by decide)
def tyNames : List String := ["NoneType", "bool", "int", "str", "tuple", "list", "dict"]
theorem TyN.mem {H : Hp} {v : V} {t : String} (h : TyN H v t) : t ∈ tyNames := by
  cases h <;> simp [tyNames]
theorem kit_int {K : PySem.W.Frag} {t : String} (h : t ∈ tyNames) : PySem.W.kitOne K (.type t) (.type "int") = some (t == "int" || t == "bool") := by
  have : ∀ t ∈ tyNames, kitB t "int" = some (t == "int" || t == "bool") := by decide +kernel
  exact kit_ty (this t h)
theorem kit_bool {K : PySem.W.Frag} {t : String} (h : t ∈ tyNames) : PySem.W.kitOne K (.type t) (.type "bool") = some (t == "bool") := by
  have : ∀ t ∈ tyNames, kitB t "bool" = some (t == "bool") := by decide +kernel
  exact kit_ty (this t h)
theorem kit_tuple {K : PySem.W.Frag} {t : String} (h : t ∈ tyNames) : PySem.W.kitOne K (.type t) (.type "tuple") = some (t == "tuple") := by
  have : ∀ t ∈ tyNames, kitB t "tuple" = some (t == "tuple") := by decide +kernel
  exact kit_ty (this t h)
theorem kit_str {K : PySem.W.Frag} {t : String} (h : t ∈ tyNames) : PySem.W.kitOne K (.type t) (.type "str") = some (t == "str") := by
  have : ∀ t ∈ tyNames, kitB t "str" = some (t == "str") := by decide +kernel
  exact kit_ty (this t h)
/-! ## What is a rational -/
def ratB : V → V → Bool
  | .int n, .int d => decide (0 < d) && decide (gd n d = 1)
  | _, _ => false
inductive Rk (H : Hp) : V → Bool → Prop
  | other {v : V} {t : String} (h : TyN H v t) (n : t ≠ "tuple") : Rk H v false
  | len {a : Addr} {xs : List V} (e : H a = some (.tup xs)) (n : xs.length ≠ 2) : Rk H (.ref a) false
  | pair {a : Addr} {x y : V} {tx ty : String} (e : H a = some (.tup [x, y])) (hx : TyN H x tx) (hy : TyN H y ty) : Rk H (.ref a) (ratB x y)
theorem Rk.same {H H' : Hp} {v : V} {b : Bool} (h : Rk H v b) (s : Same H H') : Rk H' v b := by
  cases h with
  | other h n => exact .other (h.same s) n
  | len e n => exact .len (s _ _ e) n
  | pair e hx hy => exact .pair (s _ _ e) (hx.same s) (hy.same s)
theorem Rk.of {H : Hp} {a : Addr} {n d : Int} (e : H a = some (.tup [.int n, .int d])) (r : Rt n d) : Rk H (.ref a) true := by
  have z : ratB (.int n) (.int d) = true := by
    show (decide (0 < d) && decide (gd n d = 1)) = true
    rw [decide_eq_true r.pos, decide_eq_true r.cop]
    rfl
  rw [← z]
  exact .pair e (.int n) (.int d)
/-! ## repr -/
inductive Shw (K : PySem.W.Frag) (H : Hp) : V → Str → Prop
  | data {v : V} {d : PyData} (h : Dp K H v d) (h1 : d.showable = true) (h2 : d.hasDict = false) (h3 : d.depth ≤ 60) (h4 : d.shown.length ≤ sizeLine) : Shw K H v d.shown
  | empty {a : Addr} (e : H a = some (.dK [])) : Shw K H (.ref a) (PyData.dict []).shown
def rReprV (K : PySem.W.Frag) : List V → Hp → VK → Prop := fun xs H Q => ∃ (v : V) (z : Str), xs = [v] ∧ Shw K H v z ∧ Q (.str z) H
theorem call_reprV {X : Cx} (hg : X.A.guards = some []) (hu : X.A.units + 64 < cLine) : CallR X (.builtin "repr") (rReprV X.K) := by
  intro pins s σ H xs us Q I r h
  obtain ⟨v, z, rfl, hd, q⟩ := h
  obtain ⟨u, rfl, ru⟩ := vals1 r
  cases hd with
  | @data _ d hd h1 h2 h3 h4 =>
    obtain ⟨as, rd⟩ := Dp.reads I d _ _ hd ru
    cases hd with
    | non =>
      obtain rfl : u = Value.none := ru
      exact P.repr_of_none ⟨.str _, H, I.tok _, ⟨_, rfl⟩, q⟩
    | bl b =>
      obtain rfl : u = Value.bool b := ru
      exact P.repr_of_bool ⟨.str _, H, I.tok _, ⟨_, rfl⟩, q⟩
    | int i =>
      obtain ⟨t, rfl⟩ := (show ∃ t, u = Value.int i t from ru)
      exact P.repr_of_int (of_decide_eq_true (by simpa [PyData.showable] using h1)) ⟨.str _, H, I.tok _, ⟨_, rfl⟩, q⟩
    | str x =>
      obtain ⟨t, rfl⟩ := (show ∃ t, u = Value.str x t from ru)
      exact P.repr_of_str ⟨.str _, H, I.tok _, ⟨_, rfl⟩, q⟩ h4
    | @lst a xs ds e1 e2 =>
      obtain rfl : u = Value.ref a := ru
      exact repr_of_reads' rd h1 (PyData.noDict_hsm h2) hg (by omega) (fun _ _ e => e) (fun h' u tk hk => ⟨.str _, H, I.kept (t' := tk) hk, ⟨u, rfl⟩, q⟩) h4
    | @tup a xs ds e1 e2 =>
      obtain rfl : u = Value.ref a := ru
      exact repr_of_reads' rd h1 (PyData.noDict_hsm h2) hg (by omega) (fun _ _ e => e) (fun h' u tk hk => ⟨.str _, H, I.kept (t' := tk) hk, ⟨u, rfl⟩, q⟩) h4
  | @empty a e =>
    obtain rfl : u = Value.ref a := ru
    obtain ⟨_, ns, vs, kv, o, es, ep, h1, h2, h3, h4⟩ := (show ObjOk X.prog X.w H s.heap a (.dK []) from I.hok a _ e)
    cases kv
    have es0 : es.toList = [] := by
      obtain ⟨_, hp, _⟩ := h4
      generalize es.toList = l at hp
      cases hp
      rfl
    have rd : Reads s.heap (.ref a) (.dict []) (a :: [] ++ []) := Reads.dict h1 h2.1 h3 (by rw [es0]; exact .nil) (by rw [es0]; exact .nil)
    exact repr_of_reads' rd (by decide) (fun _ hm => by
      have : sysModules = a := by simpa using hm
      rw [this] at ns
      simp at ns) hg (by show X.A.units + (PyData.depth (.dict []) + 1) < cLine; have : PyData.depth (.dict []) ≤ 60 := by decide +kernel
                         omega) (fun _ _ e => e) (fun h' u tk hk => ⟨.str _, H, I.kept (t' := tk) hk, ⟨u, rfl⟩, q⟩) (by decide +kernel)
theorem dp_same {K : PySem.W.Frag} {H H' : Hp} (s : Same H H') : ∀ {v : V} {d : PyData}, Dp K H v d → Dp K H' v d := by
  have sq : ∀ {a xs}, SqT K H a xs → SqT K H' a xs := by
    intro a xs h
    rcases h with (h | ⟨o, h⟩) | h
    · exact .inl (.inl (s _ _ h))
    · exact .inl (.inr ⟨o, s _ _ h⟩)
    · exact .inr h
  intro v d h
  induction h using Dp.rec (motive_2 := fun vs ds _ => DpAll K H' vs ds) with
  | non => exact .non
  | bl b => exact .bl b
  | int i => exact .int i
  | str x => exact .str x
  | lst h1 _ ih => exact .lst (s.seq h1) ih
  | tup h1 _ ih => exact .tup (sq h1) ih
  | nil => exact .nil
  | cons _ _ i1 i2 => exact .cons i1 i2
theorem Shw.same {K : PySem.W.Frag} {H H' : Hp} (s : Same H H') {v : V} {z : Str} (h : Shw K H v z) : Shw K H' v z := by
  cases h with
  | data h h1 h2 h3 h4 => exact .data (dp_same s h) h1 h2 h3 h4
  | empty e => exact .empty (s _ _ e)
theorem Same.upd {H : Hp} {p : Addr} {o : HO} (h : H p = none) : Same H (upd H p o) := fun b u e => by rw [upd_ne (ne_of_none e h)]; exact e
end Lc
set_option Elab.async false
set_option linter.all false
set_option maxRecDepth 100000
set_option maxHeartbeats 4000000
namespace Lc
open PySem PySem.Spec PyProof.Rows L2
/-! ## The law's tape -/
def Tape (H : Hp) (t : Addr) : Prop := ∃ (l : Addr) (ns : List Int) (pos rest mix : Int), H t = some (.lst [.ref l, .int pos, .int rest, .int mix]) ∧ H l = some (.lst (ns.map V.int)) ∧ 0 ≤ pos ∧ 0 ≤ rest ∧ 0 ≤ mix ∧ mix < 2147483647
/-- all but what stands at t is as it was -/
def SameB (t : Addr) (H H' : Hp) : Prop := ∀ b o, b ≠ t → H b = some o → H' b = some o
theorem SameB.refl (t : Addr) (H : Hp) : SameB t H H := fun _ _ _ e => e
theorem SameB.trans {t : Addr} {H H1 H2 : Hp} (a : SameB t H H1) (b : SameB t H1 H2) : SameB t H H2 := fun c o n e => b c o n (a c o n e)
theorem Same.b {H H' : Hp} (t : Addr) (s : Same H H') : SameB t H H' := fun b o _ e => s b o e
theorem SameB.upd {t : Addr} {H : Hp} {o : HO} : SameB t H (upd H t o) := fun b u n e => by rw [upd_ne n]; exact e
theorem tape_ne {l t : Addr} {H : Hp} {ns : List Int} {vs : List V} (h1 : H t = some (.lst (.ref l :: vs))) (h2 : H l = some (.lst (ns.map V.int))) : l ≠ t := by
  refine ne_of h2 h1 fun z => ?_
  cases ns with
  | nil => injection z with z; cases z
  | cons n ns => injection z with z; injection z with z; cases z
theorem Tape.same {H H' : Hp} {t : Addr} (h : Tape H t) (s : Same H H') : Tape H' t := by
  obtain ⟨l, ns, pos, rest, mix, h1, h2, h3⟩ := h
  exact ⟨l, ns, pos, rest, mix, s _ _ h1, s _ _ h2, h3⟩
theorem cut_ints (ns : List Int) (lo hi : Option Int) : ∃ ms : List Int, cutV (ns.map V.int) lo hi = ms.map V.int := by
  unfold cutV
  rw [← List.map_drop, ← List.map_take]
  exact ⟨_, rfl⟩
def spTape (K : PySem.W.Frag) : Sp := fun vs H Q _ => ∃ (a : Addr) (ns : List Int), vs = [.ref a] ∧ SqL K H a (ns.map V.int) ∧ ∀ (t : Addr) (H' : Hp), Same H H' → H t = none → Tape H' t → Q (.ref t) H'
def spDraw : Sp := fun vs H Q _ => ∃ (t : Addr) (many : Int), vs = [.ref t, .int many] ∧ Tape H t ∧ 0 < many ∧ many.natAbs < 2 ^ 4000 ∧ ∀ (k : Int) (H' : Hp), 0 ≤ k → k < many → Tape H' t → SameB t H H' → Q (.int k) H'
def New2' (H : Hp) (Q : VK) (n d : Int) : Prop := ∀ p, H p = none → Q (.ref p) (upd H p (.tup [.int n, .int d]))
def spLowest : Sp := fun vs H Q _ => ∃ n d : Int, vs = [.int n, .int d] ∧ 0 < d ∧ d.natAbs < 2 ^ 4000 ∧ New2' H Q (lowN n d) (lowD n d)
def spRational : Sp := fun vs H Q _ => ∃ (t : Addr) (b : Bool), vs = [.ref t, .bl b] ∧ Tape H t ∧ ∀ (p : Addr) (n d : Int) (H' : Hp), Rt n d → n.natAbs < 2 ^ 140 → d.natAbs < 2 ^ 140 → H' p = some (.tup [.int n, .int d]) → H p = none → Tape H' t → SameB t H H' → Q (.ref p) H'
theorem log_lt' {n : Int} (h : n.natAbs < 2 ^ 4000) : n.natAbs.log2 < 9000 := by
  by_cases z : n.natAbs = 0
  · rw [z]
    decide
  · exact Nat.lt_of_lt_of_le ((Nat.log2_lt z).mpr h) (by decide)
end Lc
namespace Lc
open PySem PySem.Spec PyProof.Rows L2
theorem SameB.free {t p : Addr} {H H' : Hp} (s : SameB t H H') (h : Tape H' t) (e : H' p = none) : H p = none := by
  cases q : H p with
  | none => rfl
  | some o =>
    by_cases z : p = t
    · subst z
      obtain ⟨_, _, _, _, _, h1, _⟩ := h
      rw [h1] at e
      cases e
    · rw [s p o z q] at e
      cases e
theorem Tape.ne {t p : Addr} {H : Hp} (h : Tape H t) (e : H p = none) : p ≠ t := by
  intro z
  subst z
  obtain ⟨_, _, _, _, _, h1, _⟩ := h
  rw [h1] at e
  cases e
theorem Tape.neT {t p : Addr} {H : Hp} {xs : List V} (h : Tape H t) (e : H p = some (.tup xs)) : p ≠ t := by
  intro z
  subst z
  obtain ⟨_, _, _, _, _, h1, _⟩ := h
  rw [h1] at e
  cases e
theorem p18 : (10 : Int) ^ (18 : Int).toNat = 1000000000000000000 := by decide
theorem p40 : (10 : Int) ^ (40 : Int).toNat = 10000000000000000000000000000000000000000 := by decide
end Lc
namespace Lc
open PySem PySem.Spec PyProof.Rows L2
/-- the tape, its list at l -/
def TapeL (l : Addr) (H : Hp) (t : Addr) : Prop := ∃ (ns : List Int) (pos rest mix : Int), H t = some (.lst [.ref l, .int pos, .int rest, .int mix]) ∧ H l = some (.lst (ns.map V.int)) ∧ 0 ≤ pos ∧ 0 ≤ rest ∧ 0 ≤ mix ∧ mix < 2147483647
theorem TapeL.tape {l : Addr} {H : Hp} {t : Addr} (h : TapeL l H t) : Tape H t := ⟨l, h⟩
theorem TapeL.same {l : Addr} {H H' : Hp} {t : Addr} (h : TapeL l H t) (s : Same H H') : TapeL l H' t := by
  obtain ⟨ns, pos, rest, mix, h1, h2, h3⟩ := h
  exact ⟨ns, pos, rest, mix, s _ _ h1, s _ _ h2, h3⟩
theorem TapeL.list {l : Addr} {H : Hp} {t : Addr} (h : TapeL l H t) : ∃ xs, H l = some (.lst xs) := by
  obtain ⟨ns, pos, rest, mix, h1, h2, h3⟩ := h
  exact ⟨_, h2⟩
/-- another object is written -/
theorem TapeL.upd {l : Addr} {H : Hp} {t a : Addr} {o : HO} (h : TapeL l H t) (n1 : a ≠ t) (n2 : a ≠ l) : TapeL l (upd H a o) t := by
  obtain ⟨ns, pos, rest, mix, h1, h2, h3⟩ := h
  exact ⟨ns, pos, rest, mix, by rw [upd_ne (Ne.symm n1)]; exact h1, by rw [upd_ne (Ne.symm n2)]; exact h2, h3⟩
def spDrawL : Sp := fun vs H Q _ => ∃ (t l : Addr) (many : Int), vs = [.ref t, .int many] ∧ TapeL l H t ∧ 0 < many ∧ many.natAbs < 2 ^ 4000 ∧ ∀ (k : Int) (H' : Hp), 0 ≤ k → k < many → TapeL l H' t → SameB t H H' → Q (.int k) H'
theorem fn_weak {P : Program} {w : World} {K : PySem.W.Frag} {mg : Str → Option Value} {base : Heap} {CX : CXT} {k : Nat} {f : Addr} {fd : FuncData} {ps : List Str} {sp sp' : Sp} (h : ∀ vs H Q E, sp vs H Q E → sp' vs H Q E) (F : FnOk P w K mg base CX k f fd ps sp') : FnOk P w K mg base CX k f fd ps sp :=
  ⟨fun vs H Q E z => F.len vs H Q E (h vs H Q E z), fun A outer s H args us vs Q E a b c d z => F.run A outer s H args us vs Q E a b c d (h vs H Q E z)⟩
theorem draw_weak {vs : List V} {H : Hp} {Q : VK} {E : XK} (h : spDraw vs H Q E) : spDrawL vs H Q E := by
  obtain ⟨t, m, e, ⟨l, hT⟩, h1, h2, k⟩ := h
  exact ⟨t, l, m, e, hT, h1, h2, fun k1 H' a b c d => k k1 H' a b c.tape d⟩
end Lc
set_option Elab.async false
set_option linter.all false
set_option maxRecDepth 100000
set_option maxHeartbeats 4000000
namespace Lc
open PySem PySem.Spec PyProof.Rows L2
/-- names of built-ins that no text binds -/
structure Bt (mg : Str → Option Value) : Prop where
  isi : mg "isinstance" = none
  int : mg "int" = none
  bool : mg "bool" = none
  str : mg "str" = none
  tuple : mg "tuple" = none
  list : mg "list" = none
  dict : mg "dict" = none
  len : mg "len" = none
  abs : mg "abs" = none
  min : mg "min" = none
  all : mg "all" = none
  repr : mg "repr" = none
  range : mg "range" = none
  enum : mg "enumerate" = none
  ve : mg "ValueError" = none
  zd : mg "ZeroDivisionError" = none
  ie : mg "IndexError" = none
  oe : mg "OverflowError" = none
def btNames : List Str := ["isinstance", "int", "bool", "str", "tuple", "list", "dict", "len", "abs", "min", "all", "repr", "range", "enumerate", "ValueError", "ZeroDivisionError", "IndexError", "OverflowError"]
/-! ## x is True, x any value -/
def rIsBA : R2 := fun x y H Q => ∃ b : Bool, y = .bl b ∧ Q (.bl (decide (x = .bl b))) H
theorem op_isBA {X : Cx} : OpR X (compareOp .Is) rIsBA := by
  intro pins s σ H x y v u Q I rx ry h
  obtain ⟨b, rfl, q⟩ := h
  cases (show u = Value.bool b from ry)
  have key : plainIs v (.bool b) = true ∧ (v == Value.bool b) = decide (x = .bl b) := by
    cases x with
    | non => cases (show v = Value.none from rx); exact ⟨rfl, by cases b <;> rfl⟩
    | bl c => cases (show v = Value.bool c from rx); exact ⟨rfl, by cases b <;> cases c <;> rfl⟩
    | int i => obtain ⟨t, rfl⟩ := (show ∃ t, v = Value.int i t from rx); exact ⟨rfl, by cases b <;> rfl⟩
    | str i => obtain ⟨t, rfl⟩ := (show ∃ t, v = Value.str i t from rx); exact ⟨rfl, by cases b <;> rfl⟩
    | byt i => obtain ⟨t, rfl⟩ := (show ∃ t, v = Value.bytes i t from rx); exact ⟨rfl, by cases b <;> rfl⟩
    | flt i => obtain ⟨t, rfl⟩ := (show ∃ t, v = Value.float i t from rx); exact ⟨rfl, by cases b <;> rfl⟩
    | ref a => cases (show v = Value.ref a from rx); exact ⟨rfl, by cases b <;> rfl⟩
    | ty n => cases (show v = Value.type n from rx); exact ⟨rfl, by cases b <;> rfl⟩
  refine wpAny_is_plain key.1 ?_
  rw [key.2]
  exact ⟨.bl _, H, I, rfl, q⟩
/-! ## Texts of few signs -/
structure Sh (n : Nat) (x : Str) : Prop where
  len : x.cps.toList.length ≤ n
  ok : ∀ c ∈ x.cps.toList, c < 1114112
theorem Sh.mono {n m : Nat} {x : Str} (h : Sh n x) (l : n ≤ m) : Sh m x := ⟨Nat.le_trans h.len l, h.ok⟩
theorem Sh.line {n : Nat} {x : Str} (h : Sh n x) (l : n ≤ 1000) : x.length ≤ sizeLine := by
  have : x.length = x.cps.toList.length := by show x.cps.size = _; simp
  rw [this]
  exact Nat.le_trans h.len (Nat.le_trans l (by decide))
theorem sh_app {n m : Nat} {x y : Str} (h : Sh n x) (g : Sh m y) : Sh (n + m) (x ++ y) := by
  have e : (x ++ y).cps.toList = x.cps.toList ++ y.cps.toList := by
    show (x.cps ++ y.cps).toList = _
    simp
  refine ⟨?_, fun c hc => ?_⟩
  · rw [e, List.length_append]
    exact Nat.add_le_add h.len g.len
  · rw [e] at hc
    rcases List.mem_append.mp hc with hc | hc
    · exact h.ok c hc
    · exact g.ok c hc
theorem sh_one {c : Nat} (h : c < 1114112) : Sh 1 ⟨#[c]⟩ := ⟨Nat.le_refl _, fun d hd => by
  have : d = c := by simpa using hd
  rw [this]
  exact h⟩
theorem sh_sub {n : Nat} {x : Str} {l : List Nat} (h : Sh n x) (s : l.Sublist x.cps.toList) : Sh n ⟨l.toArray⟩ := by
  refine ⟨?_, fun c hc => ?_⟩
  · show l.toArray.toList.length ≤ n
    exact Nat.le_trans s.length_le h.len
  · exact h.ok c (s.subset (by simpa using hc))
theorem sh_cut {n : Nat} {x : Str} (lo hi : Option Int) (h : Sh n x) : Sh n (cutS x lo hi) := sh_sub h ((List.take_sublist _ _).trans (List.drop_sublist _ _))
theorem foldl_app : ∀ (l : List (Array Nat)) (a : Array Nat), (l.foldl (· ++ ·) a).toList = a.toList ++ (l.map Array.toList).flatten
  | [], a => by simp
  | b :: l, a => by
    show ((l.foldl (· ++ ·) (a ++ b))).toList = _
    rw [foldl_app l (a ++ b)]
    simp [List.append_assoc]
theorem sh_mul {x : Str} {n k : Nat} {i : Int} (h : Sh n x) (hi : i.toNat ≤ k) (hn : n ≤ 1) : Sh k (Txt.mul x i) := by
  unfold Txt.mul
  by_cases h1 : i < 1
  · rw [if_pos h1]
    exact ⟨Nat.zero_le _, fun c hc => by cases (by simpa [Str.empty] using hc : c ∈ ([] : List Nat))⟩
  · rw [if_neg h1]
    by_cases h2 : (i == 1 || x.length == 0) = true
    · rw [if_pos h2]
      exact h.mono (by omega)
    · rw [if_neg h2]
      have e : ((List.replicate i.toNat x.cps).foldl (· ++ ·) #[]).toList = (List.replicate i.toNat x.cps.toList).flatten := by
        rw [foldl_app]
        simp
      refine ⟨?_, fun c hc => ?_⟩
      · show ((List.replicate i.toNat x.cps).foldl (· ++ ·) #[]).toList.length ≤ k
        rw [e, List.length_flatten]
        have : ((List.replicate i.toNat x.cps.toList).map List.length).sum ≤ i.toNat * 1 := by
          have key : ∀ m : Nat, ((List.replicate m x.cps.toList).map List.length).sum ≤ m * 1 := by
            intro m
            induction m with
            | zero => simp
            | succ m ih =>
              rw [List.replicate_succ, List.map_cons, List.sum_cons]
              have := Nat.le_trans h.len hn
              omega
          exact key _
        omega
      · have hc : c ∈ ((List.replicate i.toNat x.cps).foldl (· ++ ·) #[]).toList := hc
        rw [e] at hc
        obtain ⟨l, hl, hcl⟩ := List.mem_flatten.mp hc
        rw [List.eq_of_mem_replicate hl] at hcl
        exact h.ok c hcl
theorem mul_ok {x : Str} {i : Int} (h : x.cps.size ≤ 1) (h2 : i < 1000) (h3 : -1000 < i) : MulOk x i := by
  have hx : x.length ≤ 1 := h
  refine ⟨by simp; omega, fun h1 _ => ?_, fun h1 _ => ?_⟩
  · have : (2 ^ 63 - 1 : Int) / i ≥ 1 := by
      have : (1 : Int) * i ≤ 2 ^ 63 - 1 := by omega
      exact (Int.le_ediv_iff_mul_le (by omega)).mpr this
    omega
  · unfold Builtin.Str.tooLong
    have : x.length * i.toNat ≤ 1000 := by
      have : x.length * i.toNat ≤ 1 * i.toNat := Nat.mul_le_mul_right _ hx
      omega
    have : ¬ (x.length * i.toNat > sizeLine) := by
      have : (1000 : Nat) ≤ sizeLine := by decide
      omega
    simpa using this
def rMulS : R2 := fun x y H Q => ∃ (z : Str) (i : Int), x = .str z ∧ y = .int i ∧ MulOk z i ∧ Q (.str (Txt.mul z i)) H
theorem op_mulS {X : Cx} : OpR X (binaryOp .Mult) rMulS := by
  intro pins s σ H x y v u Q I rx ry h
  obtain ⟨z, i, rfl, rfl, ok, q⟩ := h
  obtain ⟨t, rfl⟩ := (show ∃ t, v = Value.str z t from rx)
  obtain ⟨t2, rfl⟩ := (show ∃ t, u = Value.int i t from ry)
  exact SB.mul ok fun t' k => ⟨.str _, H, I.tok _, ⟨_, rfl⟩, q⟩
theorem glued_sh : ∀ (ys : List Str), (∀ y ∈ ys, Sh 1 y) → Sh ys.length (Str.join Str.empty ys)
  | [], _ => ⟨Nat.le_refl _, fun c hc => by cases (by simpa [Str.join, Str.empty] using hc : c ∈ ([] : List Nat))⟩
  | [x], h => h x List.mem_cons_self
  | x :: y :: r, h => by
    have ih := glued_sh (y :: r) fun z hz => h z (List.mem_cons_of_mem _ hz)
    have e : Str.join Str.empty (x :: y :: r) = x ++ Str.empty ++ Str.join Str.empty (y :: r) := rfl
    rw [e]
    have s0 : Sh 0 Str.empty := ⟨Nat.le_refl _, fun c hc => by cases (by simpa [Str.empty] using hc : c ∈ ([] : List Nat))⟩
    exact (sh_app (sh_app (h x List.mem_cons_self) s0) ih).mono (by simp; omega)
/-! ## repr of a short text, of a bounded number -/
theorem shw_text {K : PySem.W.Frag} {H : Hp} {n : Nat} {x : Str} (h : Sh n x) (l : n ≤ 1000) : Shw K H (.str x) (PyData.str x).shown := by
  refine .data (.str x) rfl rfl (by simp [PyData.depth]) ?_
  show (reprText x).length ≤ sizeLine
  have := StrLaws.reprText_len x (fun c hc => Nat.lt_trans (h.ok c hc) (by decide))
  have e : x.length = x.cps.toList.length := by show x.cps.size = _; simp
  have := h.len
  have : (10002 : Nat) ≤ sizeLine := by decide
  omega
theorem num_len {i : Int} (h : i.natAbs < 2 ^ 1000) : (PyData.int i).showable = true ∧ (PyData.int i).shown.length ≤ 1921 := by
  have l : i.natAbs.log2 < 1920 := by
    by_cases z : i.natAbs = 0
    · rw [z]
      decide
    · exact Nat.lt_of_lt_of_le ((Nat.log2_lt z).mpr h) (by decide)
  exact ⟨decide_eq_true l, int_text_len_1921 l⟩
end Lc
namespace Lc
open PySem PySem.Spec PyProof.Rows L2
/-! ## Names -/
def letters : Str := "abcdefghijklmnopqrstuvwxyz"
def signs : Str := "abcdefghijklmnopqrstuvwxyz0123456789"
def inS (c : Nat) : Bool := decide (c ∈ signs.cps.toList)
def inL (c : Nat) : Bool := decide (c ∈ letters.cps.toList)
def nameL : List Nat → Bool
  | [] => false
  | c :: r => decide ((c :: r).length ≤ 12) && (inL c && (c :: r).all inS)
def nameB : V → Bool
  | .str x => nameL x.cps.toList
  | _ => false
abbrev rInS : R2 := fun x y H Q => ∃ (c : Nat) (z : Str), x = .str ⟨#[c]⟩ ∧ y = .str z ∧ Q (.bl (decide (c ∈ z.cps.toList))) H
def spName : Sp := fun vs H Q _ => ∃ (v : V) (t : String), vs = [v] ∧ TyN H v t ∧ (∀ x, v = .str x → x.length ≤ sizeLine) ∧ ∀ H', Same H H' → Q (.bl (nameB v)) H'
def spLName : Sp := fun vs H Q _ => ∃ t : Addr, vs = [.ref t] ∧ Tape H t ∧ ∀ (x : Str) (H' : Hp), Sh 12 x → Tape H' t → SameB t H H' → Q (.str x) H'
theorem lenL (x : Str) : x.length = x.cps.toList.length := by show x.cps.size = _; simp
theorem nil_of {x : Str} (h : x.cps.toList = []) : x = ⟨#[]⟩ := by
  obtain ⟨⟨l⟩⟩ := x
  have : l = [] := h
  rw [this]
theorem dec_empty (x : Str) : decide (V.str x = V.str "") = decide (x.cps.toList = []) := by
  rw [Bool.eq_iff_iff, decide_eq_true_iff, decide_eq_true_iff]
  constructor
  · intro h
    injection h with h
    rw [h]
    rfl
  · intro h
    rw [nil_of h]
    rfl
theorem name_nil {x : Str} (h : x.cps.toList = []) : nameB (.str x) = false := by
  show nameL x.cps.toList = false
  rw [h]
  rfl
theorem name_long {x : Str} (h : ¬ x.cps.toList.length ≤ 12) : nameB (.str x) = false := by
  show nameL x.cps.toList = false
  cases e : x.cps.toList with
  | nil => rfl
  | cons c r =>
    rw [e] at h
    show (decide ((c :: r).length ≤ 12) && _) = false
    rw [decide_eq_false h]
    rfl
theorem name_is {x : Str} {c : Nat} {r : List Nat} (e : x.cps.toList = c :: r) (h : x.cps.toList.length ≤ 12) : nameB (.str x) = (inL c && (c :: r).all inS) := by
  show nameL x.cps.toList = _
  rw [e] at h ⊢
  show (decide ((c :: r).length ≤ 12) && _) = _
  rw [decide_eq_true h]
  rfl
/-- the list of a comprehension over a text's signs, as it grows -/
theorem grow {x : Str} {i : Nat} {c : Nat} (h : x.cps[i]? = some c) (p : Nat → Bool) : (x.cps.toList.take i).map (fun c => V.bl (p c)) ++ [V.bl (p c)] = (x.cps.toList.take (i + 1)).map fun c => V.bl (p c) := by
  have h2 : x.cps.toList[i]? = some c := by rw [Array.getElem?_toList]; exact h
  rw [List.take_succ, h2, List.map_append]
  rfl
end Lc
namespace Lc
open PySem PySem.Spec PyProof.Rows L2
theorem cut26 : cutS signs none (some 26) = letters := by decide +kernel
theorem signs_ok : ∀ c ∈ signs.cps.toList, c < 1114112 := by decide +kernel
theorem signs_len : signs.cps.toList.length = 36 := by decide +kernel
theorem at_text {l : List Nat} {i : Int} (h0 : 0 ≤ i) (h1 : i < (l.length : Int)) : ∃ c, atI l i = some c ∧ c ∈ l := by
  obtain ⟨n, rfl⟩ : ∃ n : Nat, i = (n : Int) := ⟨i.toNat, by omega⟩
  have h : n < l.length := by omega
  exact ⟨l[n], atI_nat (List.getElem?_eq_getElem h), List.getElem_mem h⟩
theorem big1000 {z : Int} (h1 : 0 ≤ z) (h2 : z ≤ 1000) : z.natAbs < 2 ^ 4000 := by
  have e : (2 : Nat) ^ 10 = 1024 := by decide
  exact Nat.lt_of_lt_of_le (show z.natAbs < 2 ^ 10 by omega) (Nat.pow_le_pow_right (by decide) (by decide))
theorem sh_a : Sh 1 (PySem.Str.ofString "a") := ⟨by decide +kernel, by decide +kernel⟩
theorem a_size : (PySem.Str.ofString "a").cps.size ≤ 1 := by decide +kernel
theorem sh_len {n : Nat} {x : Str} (h : Sh n x) : x.length ≤ n := by rw [lenL]; exact h.len
end Lc
namespace Lc
open PySem PySem.Spec PyProof.Rows L2
theorem join_sh (ys : List Str) (h : ∀ y ∈ ys, Sh 1 y) : Sh ys.length (Txt.join (PySem.Str.ofString "") ys) := by
  have e : Txt.join (PySem.Str.ofString "") ys = Str.join Str.empty ys := by
    exact (StrLaws.glued_eq_join (PySem.Str.ofString "") ys).trans rfl
  rw [e]
  exact glued_sh ys h
end Lc
set_option Elab.async false
set_option linter.all false
set_option maxRecDepth 100000
set_option maxHeartbeats 4000000
namespace Lc
open PySem PySem.Spec PyProof.Rows L2
/-! ## Flat values and what they are shown as -/
structure Fl (v : V) (d : PyData) (s : String) : Prop where
  dp : ∀ (K : PySem.W.Frag) (H : Hp), Dp K H v d
  ty : ∀ H : Hp, TyN H v s
  sh : d.showable = true
  nd : d.hasDict = false
  dz : d.depth = 0
  ln : d.shown.length ≤ 20000
theorem fl_non : Fl .non .none "NoneType" := ⟨fun _ _ => .non, fun _ => .non, rfl, rfl, rfl, by decide +kernel⟩
theorem fl_bl (b : Bool) : Fl (.bl b) (.bool b) "bool" := ⟨fun _ _ => .bl b, fun _ => .bl b, rfl, rfl, rfl, by cases b <;> decide +kernel⟩
theorem fl_int {i : Int} (h : i.natAbs < 2 ^ 1000) : Fl (.int i) (.int i) "int" := ⟨fun _ _ => .int i, fun _ => .int i, (num_len h).1, rfl, rfl, Nat.le_trans (num_len h).2 (by decide)⟩
theorem fl_str {x : Str} {n : Nat} (h : Sh n x) (l : n ≤ 1930) : Fl (.str x) (.str x) "str" := by
  refine ⟨fun _ _ => .str x, fun _ => .str x, rfl, rfl, rfl, ?_⟩
  show (reprText x).length ≤ 20000
  have := StrLaws.reprText_len x (fun c hc => Nat.lt_trans (h.ok c hc) (by decide))
  have e := lenL x
  have := h.len
  omega
theorem sh_string (s : String) : ∀ c ∈ (PySem.Str.ofString s).cps.toList, c < 1114112 := by
  intro c hc
  rw [Str.ofString_eq_toList] at hc
  have hc : c ∈ s.toList.map Char.toNat := by simpa using hc
  obtain ⟨ch, _, rfl⟩ := List.mem_map.mp hc
  have := ch.valid
  rcases this with h | ⟨_, h⟩
  · exact Nat.lt_trans h (by decide)
  · exact h
theorem sh_num {i : Int} (h : i.natAbs < 2 ^ 1000) : Sh 1921 (PySem.Str.ofString (toString i)) := ⟨by rw [← lenL]; exact (num_len h).2, sh_string _⟩
/-! ## Things: is it a number within the limit, how is it shown -/
def lim : Int := 10000000000000000000000000000000000000000
def limB : V → V → Bool
  | .int n, .int d => decide ((if n < 0 then -n else n) ≤ lim) && decide (d ≤ lim)
  | _, _ => false
def numB (x y : V) : Bool := ratB x y && limB x y
inductive Thing (H : Hp) : V → Bool → Prop
  | other {v : V} {t : String} (h : TyN H v t) (n : t ≠ "tuple") (l : ∀ x, v = .str x → x.length ≤ sizeLine) : Thing H v false
  | len {a : Addr} {xs : List V} (e : H a = some (.tup xs)) (n : xs.length ≠ 2) : Thing H (.ref a) false
  | pair {a : Addr} {x y : V} {tx ty : String} (e : H a = some (.tup [x, y])) (hx : TyN H x tx) (hy : TyN H y ty) : Thing H (.ref a) (numB x y)
theorem Thing.same {H H' : Hp} {v : V} {b : Bool} (h : Thing H v b) (s : Same H H') : Thing H' v b := by
  cases h with
  | other h n l => exact .other (h.same s) n l
  | len e n => exact .len (s _ _ e) n
  | pair e hx hy => exact .pair (s _ _ e) (hx.same s) (hy.same s)
theorem Thing.ty {H : Hp} {v : V} {b : Bool} (h : Thing H v b) : ∃ t, TyN H v t ∧ ∀ x, v = .str x → x.length ≤ sizeLine := by
  cases h with
  | other h n l => exact ⟨_, h, l⟩
  | len e n => exact ⟨_, .tup e, fun x z => nomatch z⟩
  | pair e hx hy => exact ⟨_, .tup e, fun x z => nomatch z⟩
/-- whatever is done to the tape at t -/
def Thg (K : PySem.W.Frag) (t : Addr) (H : Hp) (v : V) : Prop := ∃ (b : Bool) (z : Str), ∀ H', SameB t H H' → Thing H' v b ∧ Shw K H' v z
theorem thg_flat {K : PySem.W.Frag} {t : Addr} {H : Hp} {v : V} {d : PyData} {s : String} (h : Fl v d s) (n : s ≠ "tuple") (l : ∀ x, v = .str x → x.length ≤ sizeLine) : Thg K t H v :=
  ⟨false, d.shown, fun H' _ => ⟨.other (h.ty H') n l, .data (h.dp K H') h.sh h.nd (by rw [h.dz]; decide) (Nat.le_trans h.ln (by decide))⟩⟩
/-- the items of a display -/
inductive Fls : List V → List PyData → Prop
  | nil : Fls [] []
  | cons {v : V} {d : PyData} {s : String} {vs : List V} {ds : List PyData} (h : Fl v d s) (r : Fls vs ds) : Fls (v :: vs) (d :: ds)
theorem Fls.dps {K : PySem.W.Frag} {H : Hp} : ∀ {vs : List V} {ds : List PyData}, Fls vs ds → DpAll K H vs ds
  | _, _, .nil => .nil
  | _, _, .cons h r => .cons (h.dp K H) r.dps
theorem Fls.facts : ∀ {vs : List V} {ds : List PyData}, Fls vs ds → PyData.showableAll ds = true ∧ PyData.hasDictAll ds = false ∧ PyData.depthAll ds = 0 ∧ ((PyData.shownAll ds).map (·.length)).sum ≤ 20000 * ds.length ∧ (PyData.shownAll ds).length = ds.length ∧ ds.length = vs.length
  | _, _, .nil => ⟨rfl, rfl, rfl, by simp [PyData.shownAll], rfl, rfl⟩
  | _, _, .cons (d := d) (ds := ds) h r => by
    obtain ⟨h1, h2, h3, h4, h5, h6⟩ := r.facts
    refine ⟨?_, ?_, ?_, ?_, ?_, ?_⟩
    · simp [PyData.showableAll, h.sh, h1]
    · simp [PyData.hasDictAll, h.nd, h2]
    · simp [PyData.depthAll, h.dz, h3]
    · simp only [PyData.shownAll, List.map_cons, List.sum_cons, List.length_cons]
      have := h.ln
      omega
    · simp [PyData.shownAll, h5]
    · simp [h6]
theorem shw_tup {K : PySem.W.Frag} {H : Hp} {a : Addr} {vs : List V} {ds : List PyData} (e : H a = some (.tup vs)) (h : Fls vs ds) (l : vs.length ≤ 100) : Shw K H (.ref a) (PyData.tuple ds).shown := by
  obtain ⟨h1, h2, h3, h4, h5, h6⟩ := h.facts
  refine .data (.tup (SqT.of e) h.dps) (by simpa [PyData.showable] using h1) (by simpa [PyData.hasDict] using h2) (by simp [PyData.depth, h3]) ?_
  have := tupleText_len_le (PyData.shownAll ds)
  have s : (3000000 : Nat) ≤ sizeLine := by decide
  simp only [PyData.shown]
  omega
theorem shw_lst {K : PySem.W.Frag} {H : Hp} {a : Addr} {vs : List V} {ds : List PyData} (e : H a = some (.lst vs)) (h : Fls vs ds) (l : vs.length ≤ 100) : Shw K H (.ref a) (PyData.list ds).shown := by
  obtain ⟨h1, h2, h3, h4, h5, h6⟩ := h.facts
  refine .data (.lst (SqL.of e) h.dps) (by simpa [PyData.showable] using h1) (by simpa [PyData.hasDict] using h2) (by simp [PyData.depth, h3]) ?_
  have := listText_len_le (PyData.shownAll ds)
  have s : (3000000 : Nat) ≤ sizeLine := by decide
  simp only [PyData.shown]
  omega
theorem thg_tup {K : PySem.W.Frag} {t a : Addr} {H : Hp} {vs : List V} {ds : List PyData} (n : a ≠ t) (e : H a = some (.tup vs)) (h : Fls vs ds) (l : vs.length ≤ 100) : Thg K t H (.ref a) := by
  by_cases z : vs.length = 2
  · match vs, h, z with
    | [x, y], .cons h1 (.cons h2 .nil), _ => exact ⟨numB x y, _, fun H' s => ⟨.pair (s _ _ n e) (h1.ty H') (h2.ty H'), shw_tup (s _ _ n e) (.cons h1 (.cons h2 .nil)) (by show 2 ≤ 100; decide)⟩⟩
  · exact ⟨false, _, fun H' s => ⟨.len (s _ _ n e) z, shw_tup (s _ _ n e) h l⟩⟩
theorem thg_lst {K : PySem.W.Frag} {t a : Addr} {H : Hp} {vs : List V} {ds : List PyData} (n : a ≠ t) (e : H a = some (.lst vs)) (h : Fls vs ds) (l : vs.length ≤ 100) : Thg K t H (.ref a) :=
  ⟨false, _, fun H' s => ⟨.other (.lst (s _ _ n e)) (by decide) (fun x z => nomatch z), shw_lst (s _ _ n e) h l⟩⟩
theorem thg_dct {K : PySem.W.Frag} {t a : Addr} {H : Hp} (n : a ≠ t) (e : H a = some (.dK [])) : Thg K t H (.ref a) :=
  ⟨false, _, fun H' s => ⟨.other (.dct (s _ _ n e)) (by decide) (fun x z => nomatch z), .empty (s _ _ n e)⟩⟩
theorem Thg.sameB {K : PySem.W.Frag} {t : Addr} {H H' : Hp} {v : V} (h : Thg K t H v) (s : SameB t H H') : Thg K t H' v := by
  obtain ⟨b, z, k⟩ := h
  exact ⟨b, z, fun H2 s2 => k H2 (s.trans s2)⟩
theorem thg_str {K : PySem.W.Frag} {t : Addr} {H : Hp} {n : Nat} {x : Str} (h : Sh n x) (l : n ≤ 1930) : Thg K t H (.str x) :=
  thg_flat (fl_str h l) (by decide) fun y e => by
    injection e with e
    subst e
    rw [lenL]
    exact Nat.le_trans h.len (Nat.le_trans l (by decide))
end Lc
namespace Lc
open PySem PySem.Spec PyProof.Rows L2
theorem ratB_ints {x y : V} (h : ratB x y = true) : ∃ n d : Int, x = .int n ∧ y = .int d ∧ 0 < d ∧ gd n d = 1 := by
  cases x with
  | int n =>
    cases y with
    | int d =>
      have h' : (decide (0 < d) && decide (gd n d = 1)) = true := h
      obtain ⟨h1, h2⟩ := Bool.and_eq_true_iff.mp h'
      exact ⟨n, d, rfl, rfl, of_decide_eq_true h1, of_decide_eq_true h2⟩
    | _ => cases h
  | _ => cases y <;> cases h
end Lc
namespace Lc
open PySem PySem.Spec PyProof.Rows L2
/-! ## A word behind an expression: what follows is shown once -/
def tMid (te : TE) : TE := fun σ H Q => ∃ M : V → Hp → Prop, te σ H M ∧ ∀ v H', M v H' → Q v H'
theorem pe_mid {X : Cx} {e : Expr} {te : TE} (h : PE X e te) : PE X e (tMid te) := by
  refine ⟨fun pins s σ H Q I hq => ?_⟩
  obtain ⟨M, h1, h2⟩ := hq
  exact thn (h.run pins s σ H M I h1) fun u s1 ⟨v, H1, I1, r, q⟩ => ⟨v, H1, I1, r, h2 v H1 q⟩
end Lc
set_option Elab.async false
set_option linter.all false
set_option maxRecDepth 100000
set_option maxHeartbeats 4000000
namespace Lc
open PySem PySem.Spec PyProof.Rows L2
/-! ## enumerate(v), v whatever begins; for .., .. in enumerate(tuple) -/
def itB (h : Heap) (o : Obj) : Heap := (h.push o).push { cls := .type "enumerate", data := .fields #[.none, .bool false, .ref h.objs.size, rawInt 0, .none, .none] }
theorem meets_enum1 {v : Value} {o : Obj} {H : Heap → Prop} (B : Begins v o H) :
    Meets (Builtin.«enumerate.__new__» ⟨[.type "enumerate", v], []⟩) (fun _ R s => H s.heap ∧ R (.ok (.ret (.ref (s.heap.push o).objs.size))) { s with heap := itB s.heap o }) :=
  .of_wp fun prog w A R s h => by
    obtain ⟨hp, g, d, tk, os⟩ := s
    obtain ⟨h1, h⟩ := h
    have hsub := sub_enumerate
    have it1 : ∀ {A' : Around} {E : Value → Shared → Prop} {Q : Value → Shared → Prop}, Q (.ref hp.objs.size) ⟨hp.push o, g, d, tk, os⟩ → wpAny (model prog w) A' (pyIter v) Q E ⟨hp, g, d, tk, os⟩ := fun q => B.iter prog w _ _ ⟨hp, g, d, tk, os⟩ _ h1 q
    wp_walk using it1
    refine wpAny_stack_any fun st => wpAny_pure ?_
    split
    · rename_i c _ _ _ _ _
      cases (c == Value.type "enumerate") <;> (wp_walk using it1; exact ⟨_, rfl, h⟩)
    · wp_walk using it1
      exact ⟨_, rfl, h⟩
theorem call_enum1 {prog : Program} {w : World} {A : Around} {E : Value → Shared → Prop} {s : Shared} {v : Value} {o : Obj} {H : Heap → Prop} {Q : Value → Shared → Prop} (B : Begins v o H) (h1 : H s.heap)
    (h : IsEnum (itB s.heap o) (s.heap.objs.size + 1) s.heap.objs.size 0 .none → (itB s.heap o).get? s.heap.objs.size = some o → (∀ b u, s.heap.get? b = some u → (itB s.heap o).get? b = some u) → Q (.ref (s.heap.objs.size + 1)) { s with heap := itB s.heap o }) :
    wpAny (model prog w) A (call (.type "enumerate") [v]) Q E s := by
  have sz : (s.heap.push o).objs.size = s.heap.objs.size + 1 := Heap.size_push ..
  have en : IsEnum (itB s.heap o) (s.heap.objs.size + 1) s.heap.objs.size 0 .none := by
    have z := Heap.get?_push_size (s.heap.push o) (o := { cls := .type "enumerate", data := .fields #[.none, .bool false, .ref s.heap.objs.size, rawInt 0, .none, .none] }) rfl
    rw [sz] at z
    exact z
  refine callType_new F.called_enumerate (by decide) (F.typeCall_enumerate_1 _) (F.newCall_enumerate_1 _) (fun obj => F.args_object_init_2 obj _) F.entry_enumerate_new (meets_enum1 B) ⟨h1, ?_⟩
  show _ ∧ _
  rw [sz]
  exact ⟨⟨_, en, rfl⟩, h en (Heap.get?_push_of_some _ (Heap.get?_push_size _ B.free)) fun b u e => Heap.get?_push_of_some _ (Heap.get?_push_of_some _ e)⟩
/-- the tuple at a, each item in a new pair with its number -/
def IteT (K : PySem.W.Frag) (a : Addr) : It where
  go := fun i H => ∃ (xs : List V) (x : V), SqT K H a xs ∧ xs[i]? = some x
  yld := fun i H v H' => ∃ (q : Addr) (x : V), v = .ref q ∧ H q = none ∧ H' = upd H q (.tup [.int (i : Nat), x]) ∧ ∀ xs, SqT K H a xs → xs[i]? = some x
  stop := fun i H => ∃ xs : List V, SqT K H a xs ∧ xs.length = i
structure EnT (e it a : Addr) (i : Nat) (h : Heap) : Prop where
  en : ∃ old, IsEnum h e it ((i : Nat) : Int) old
  ti : h.IsTupleIter it a i
  n1 : e ≠ it
  n2 : a ≠ it
  n3 : a ≠ e
theorem turn_enT {P : Program} {w : World} {K : PySem.W.Frag} {elts : List Expr} {kk : Nat} {tpos : Pos} (a e it : Addr) : Turn P w K (.Tuple elts kk tpos) (IteT K a) [e, it] e (EnT e it a) where
  mem := List.mem_cons_self
  obj := fun i h st b hb => by
    rcases List.mem_cons.mp hb with rfl | hb
    · obtain ⟨old, he⟩ := st.en
      exact ⟨_, he, fun v q => nomatch q⟩
    · obtain rfl := List.mem_singleton.mp hb
      obtain ⟨o, ho, _, hd⟩ := st.ti
      exact ⟨o, ho, fun v q => by rw [hd] at q; cases q⟩
  keep := fun i h h' st k => by
    obtain ⟨old, he⟩ := st.en
    obtain ⟨o, ho, r⟩ := st.ti
    exact ⟨⟨old, k e List.mem_cons_self _ he⟩, ⟨o, k it (by simp) o ho, r⟩, st.n1, st.n2, st.n3⟩
  item := by
    intro X hP hw hK hc i pins s σ H E I hf st hg
    subst hP hw hK
    obtain ⟨xs, x, hq, hx⟩ := hg
    obtain ⟨its, rv, tp, _⟩ := I.tuple hq
    obtain ⟨u, hu, ru⟩ := rv.get hx
    obtain ⟨old, he⟩ := st.en
    have hu' : its.toArray[i]? = some u := by simpa using hu
    have li : i < its.toArray.size := (Array.getElem?_eq_some_iff.mp hu').1
    refine wpAny_pyNext_enum_itemD (Draws.tuple (A := X.A.in1) (I.ok.hd hc) it a st.n2 its.toArray) he ⟨st.ti, tp⟩ li st.n1 (by simp [st.n1, Ne.symm st.n3]) fun y h' tk hy ho hs hT hz hk => ?_
    obtain rfl : u = y := Option.some.inj (hu'.symm.trans hy)
    have le : e < s.heap.objs.size := Heap.lt_size he
    have lt : it < s.heap.objs.size := by obtain ⟨_, q, _⟩ := st.ti; exact Heap.lt_size q
    refine ⟨_, rfl, wpAny_letOwnedTupleGo_enum (s := { s with heap := h', toks := tk + 1 }) ho fun h2 he2 sb => ?_⟩
    have pair : h2.get? s.heap.objs.size = some { cls := .type "tuple", data := .seq #[.int i tk, u] } := (sb.2 _ (Nat.ne_of_gt le)).trans hT
    have I2 : Inv X pins σ (upd H s.heap.objs.size (.tup [.int (i : Nat), x])) { s with heap := h2, toks := tk + 1 } := by
      refine I.turnedNew (ch := [e, it]) (fun b ob hb q => ?_) hf (Nat.le_refl _) ⟨by show 2 ≤ sizeLine; decide, [.int i tk, u], .cons ⟨_, rfl⟩ (.cons ru .nil), ⟨_, pair, rfl, _, rfl⟩⟩
      have nb : b ≠ e ∧ b ≠ it := by simpa using hb
      exact (sb.2 b nb.1).trans (hk b ob nb.1 nb.2 q)
    refine ⟨.ref s.heap.objs.size, _, I2, rfl, ⟨_, x, rfl, I.hok.fresh (Nat.le_refl _), rfl, fun ys hy => by rw [I.tuple_inj hy hq]; exact hx⟩, ⟨⟨u, ?_⟩, ?_, st.n1, st.n2, st.n3⟩, fun b hb => ?_⟩
    · rw [show ((i + 1 : Nat) : Int) = (i : Int) + 1 by omega]
      exact he2
    · obtain ⟨o, q, r⟩ := hs.1
      exact ⟨o, (sb.2 it (Ne.symm st.n1)).trans q, r⟩
    · have lb : b < s.heap.objs.size := by
        rcases List.mem_cons.mp hb with rfl | hb
        · exact le
        · rw [List.mem_singleton.mp hb]; exact lt
      rw [upd_ne (Nat.ne_of_lt lb)]
      exact (hf b hb).1
  done := by
    intro X hP hw hK hc i pins s σ H E I hf st hg
    subst hP hw hK
    obtain ⟨xs, hq, hx⟩ := hg
    obtain ⟨its, rv, tp, _⟩ := I.tuple hq
    obtain ⟨old, he⟩ := st.en
    have hl : i = its.toArray.size := by rw [List.size_toArray, ← rv.length]; exact hx.symm
    obtain ⟨f0, f1, _, f3, f4, f5⟩ := hf it (by simp)
    subst hl
    exact wpAny_pyNext_enum_endD (Draws.tuple (A := X.A.in1) (I.ok.hd hc) it a st.n2 its.toArray) he ⟨st.ti, tp⟩ fun h' eb => ⟨rfl, I.turned (t' := s.toks) (fun b o hb q => eb b o hb q) f0 f1 f3 f4 f5⟩
  self := fun A i s Q E st h => by
    obtain ⟨old, he⟩ := st.en
    exact wpAny_pyIter_enum he h
def iEnT (K : PySem.W.Frag) (ta : TA) : TI := fun σ H R => ta σ H fun vs H1 => ∃ a xs, vs = [.ref a] ∧ SqT K H1 a xs ∧ R (IteT K a) H1
theorem pi_enT {X : Cx} {e : Expr} {ta : TA} {p pos tpos : Pos} {elts : List Expr} {kk : Nat} (hg : Gl X "enumerate") (hm : X.mg "enumerate" = none) (ha : PA X [e] ta) (hs : starEach [e] X.env = [(false, eval e X.env)] := by rfl) :
    PI X (.Tuple elts kk tpos) (.Call (.Name "enumerate" p) [e] [] pos) (iEnT X.K ta) := by
  refine ⟨fun pins s σ H R I h => Call_ (ld_blt I hg hm boot_enumerate (PyProof.Rows.callWith_type1 (thn (ha.run pos pins s σ H _ I h) fun us s1 ⟨vs, H1, I1, r1, q1⟩ => ?_) hs rfl))⟩
  obtain ⟨a, xs, rfl, hq, q⟩ := q1
  obtain ⟨u, rfl, ru⟩ := vals1 r1
  cases ru
  obtain ⟨its, rv, tp, _⟩ := I1.tuple hq
  have la : a < s1.heap.objs.size := by obtain ⟨_, z, _⟩ := tp; exact Heap.lt_size z
  refine call_enum1 (begins_tuple a its.toArray) tp fun en ito kp => wpAny_pyIter_enum en ?_
  refine ⟨_, [s1.heap.objs.size + 1, s1.heap.objs.size], _, _, H1, rfl, I1.kept (t' := s1.toks) kp, turn_enT a (s1.heap.objs.size + 1) s1.heap.objs.size, ⟨⟨.none, en⟩, ⟨_, ito, rfl, rfl⟩, Nat.succ_ne_self _, Nat.ne_of_lt la, Nat.ne_of_lt (Nat.lt_succ_of_lt la)⟩, fun b hb => ?_, q⟩
  have le : s1.heap.objs.size ≤ b := by
    rcases List.mem_cons.mp hb with rfl | hb
    · exact Nat.le_add_right _ _
    · rw [List.mem_singleton.mp hb]; exact Nat.le_refl _
  exact I1.fpOk le (I1.hok.fresh le)
theorem walk_enT {K : PySem.W.Frag} {a : Addr} {xs : List V} : Walk (IteT K a) xs.length (fun H => SqT K H a xs) (YPair (fun i => some (.int (i : Nat))) (fun i => xs[i]?)) := by
  refine ⟨fun i _ hi q => ⟨xs, xs[i], q, by simp [hi]⟩, fun _ q => ⟨xs, q, rfl⟩, fun i H v H' _ q y => ?_⟩
  obtain ⟨c, x, h1, h2, h3, h4⟩ := y
  exact ⟨c, .int (i : Nat), x, h1, h2, h3, rfl, h4 xs q⟩
end Lc
set_option Elab.async false
set_option linter.all false
set_option maxRecDepth 100000
set_option maxHeartbeats 4000000
namespace Lc
open PySem PySem.Spec PyProof.Rows L2
/-! ## Deep data that stands in the abstract heap -/
mutual
inductive Dh (H : Hp) : V → PyData → Prop
  | non : Dh H .non .none
  | bl (b : Bool) : Dh H (.bl b) (.bool b)
  | int (i : Int) : Dh H (.int i) (.int i)
  | str (x : Str) : Dh H (.str x) (.str x)
  | tup {a : Addr} {xs : List V} {ds : List PyData} (e : H a = some (.tup xs)) (h : DhAll H xs ds) : Dh H (.ref a) (.tuple ds)
  | lst {a : Addr} {xs : List V} {ds : List PyData} (e : H a = some (.lst xs)) (h : DhAll H xs ds) : Dh H (.ref a) (.list ds)
  | dct {a : Addr} (e : H a = some (.dK [])) : Dh H (.ref a) (.dict [])
inductive DhAll (H : Hp) : List V → List PyData → Prop
  | nil : DhAll H [] []
  | cons {v : V} {vs : List V} {d : PyData} {ds : List PyData} (h : Dh H v d) (r : DhAll H vs ds) : DhAll H (v :: vs) (d :: ds)
end
mutual
theorem Dh.same {H H' : Hp} (s : Same H H') : ∀ {v : V} {d : PyData}, Dh H v d → Dh H' v d
  | _, _, .non => .non
  | _, _, .bl b => .bl b
  | _, _, .int i => .int i
  | _, _, .str x => .str x
  | _, _, .tup e h => .tup (s _ _ e) (DhAll.same s h)
  | _, _, .lst e h => .lst (s _ _ e) (DhAll.same s h)
  | _, _, .dct e => .dct (s _ _ e)
theorem DhAll.same {H H' : Hp} (s : Same H H') : ∀ {vs : List V} {ds : List PyData}, DhAll H vs ds → DhAll H' vs ds
  | _, _, .nil => .nil
  | _, _, .cons h r => .cons (Dh.same s h) (DhAll.same s r)
end
def tyD : PyData → String
  | .none => "NoneType"
  | .bool _ => "bool"
  | .int _ => "int"
  | .str _ => "str"
  | .tuple _ => "tuple"
  | .list _ => "list"
  | .dict _ => "dict"
theorem Dh.ty {H : Hp} {v : V} {d : PyData} (h : Dh H v d) : TyN H v (tyD d) := by
  cases h with
  | non => exact .non
  | bl b => exact .bl b
  | int i => exact .int i
  | str x => exact .str x
  | tup e _ => exact .tup e
  | lst e _ => exact .lst e
  | dct e => exact .dct e
theorem DhAll.len {H : Hp} {vs : List V} {ds : List PyData} (h : DhAll H vs ds) : vs.length = ds.length := by
  match h with
  | .nil => rfl
  | .cons _ r => rw [List.length_cons, List.length_cons, DhAll.len r]
theorem DhAll.get {H : Hp} : ∀ {vs : List V} {ds : List PyData}, DhAll H vs ds → ∀ (i : Nat) (v : V), vs[i]? = some v → ∃ d, ds[i]? = some d ∧ Dh H v d
  | _, _, .nil, i, v, e => by simp at e
  | _, _, .cons h r, 0, v, e => by
    obtain rfl := Option.some.inj e
    exact ⟨_, rfl, h⟩
  | _, _, .cons h r, i + 1, v, e => by
    obtain ⟨d, e1, e2⟩ := DhAll.get r i v (by simpa using e)
    exact ⟨d, by simpa using e1, e2⟩
theorem DhAll.append {H : Hp} : ∀ {vs : List V} {ds : List PyData} {us : List V} {es : List PyData}, DhAll H vs ds → DhAll H us es → DhAll H (vs ++ us) (ds ++ es)
  | _, _, _, _, .nil, r => r
  | _, _, _, _, .cons h t, r => .cons h (DhAll.append t r)
mutual
theorem Dh.dp {K : PySem.W.Frag} {H : Hp} : ∀ {v : V} {d : PyData}, Dh H v d → d.hasDict = false → Dp K H v d
  | _, _, .non, _ => .non
  | _, _, .bl b, _ => .bl b
  | _, _, .int i, _ => .int i
  | _, _, .str x, _ => .str x
  | _, _, .tup e h, n => .tup (SqT.of e) (DhAll.dp h (by simpa [PyData.hasDict] using n))
  | _, _, .lst e h, n => .lst (SqL.of e) (DhAll.dp h (by simpa [PyData.hasDict] using n))
  | _, _, .dct e, n => by simp [PyData.hasDict] at n
theorem DhAll.dp {K : PySem.W.Frag} {H : Hp} : ∀ {vs : List V} {ds : List PyData}, DhAll H vs ds → PyData.hasDictAll ds = false → DpAll K H vs ds
  | _, _, .nil, _ => .nil
  | _, _, .cons h r, n => by
    rw [PyData.hasDictAll, Bool.or_eq_false_iff] at n
    exact .cons (Dh.dp h n.1) (DhAll.dp r n.2)
end
theorem Dh.shw {K : PySem.W.Frag} {H : Hp} {v : V} {d : PyData} (h : Dh H v d) (h1 : d.showable = true) (h2 : d.hasDict = false) (h3 : d.depth ≤ 60) (h4 : d.shown.length ≤ sizeLine) : Shw K H v d.shown := .data (h.dp h2) h1 h2 h3 h4
/-! ## How large it is when it is shown -/
structure Tm (k n : Nat) (d : PyData) : Prop where
  sh : d.showable = true
  nd : d.hasDict = false
  dz : d.depth ≤ k
  ln : d.shown.length ≤ n
theorem Tm.mono {k n k' n' : Nat} {d : PyData} (h : Tm k n d) (a : k ≤ k') (b : n ≤ n') : Tm k' n' d := ⟨h.sh, h.nd, Nat.le_trans h.dz a, Nat.le_trans h.ln b⟩
theorem tm_fl {v : V} {d : PyData} {s : String} (h : Fl v d s) : Tm 0 20000 d := ⟨h.sh, h.nd, Nat.le_of_eq h.dz, h.ln⟩
theorem tm_all {k n : Nat} : ∀ {ds : List PyData}, (∀ d ∈ ds, Tm k n d) → PyData.showableAll ds = true ∧ PyData.hasDictAll ds = false ∧ PyData.depthAll ds ≤ k ∧ ((PyData.shownAll ds).map (·.length)).sum ≤ n * ds.length ∧ (PyData.shownAll ds).length = ds.length
  | [], _ => ⟨rfl, rfl, Nat.zero_le _, by simp [PyData.shownAll], rfl⟩
  | d :: ds, h => by
    obtain ⟨h1, h2, h3, h4, h5⟩ := tm_all (ds := ds) fun x hx => h x (List.mem_cons_of_mem _ hx)
    have hd := h d List.mem_cons_self
    refine ⟨?_, ?_, ?_, ?_, ?_⟩
    · simp [PyData.showableAll, hd.sh, h1]
    · simp [PyData.hasDictAll, hd.nd, h2]
    · simp only [PyData.depthAll]
      have := hd.dz
      omega
    · simp only [PyData.shownAll, List.map_cons, List.sum_cons, List.length_cons]
      have := hd.ln
      rw [Nat.mul_succ]
      omega
    · simp [PyData.shownAll, h5]
theorem tm_tup {k n : Nat} {ds : List PyData} (h : ∀ d ∈ ds, Tm k n d) : Tm (k + 1) (n * ds.length + 2 * ds.length + 4) (.tuple ds) := by
  obtain ⟨h1, h2, h3, h4, h5⟩ := tm_all h
  refine ⟨by simpa [PyData.showable] using h1, by simpa [PyData.hasDict] using h2, ?_, ?_⟩
  · simp only [PyData.depth]
    omega
  · have := tupleText_len_le (PyData.shownAll ds)
    simp only [PyData.shown]
    omega
theorem tm_lst {k n : Nat} {ds : List PyData} (h : ∀ d ∈ ds, Tm k n d) : Tm (k + 1) (n * ds.length + 2 * ds.length + 4) (.list ds) := by
  obtain ⟨h1, h2, h3, h4, h5⟩ := tm_all h
  refine ⟨by simpa [PyData.showable] using h1, by simpa [PyData.hasDict] using h2, ?_, ?_⟩
  · simp only [PyData.depth]
    omega
  · have := listText_len_le (PyData.shownAll ds)
    simp only [PyData.shown]
    omega
theorem Dh.shwT {K : PySem.W.Frag} {H : Hp} {v : V} {d : PyData} {k n : Nat} (h : Dh H v d) (t : Tm k n d) (a : k ≤ 60) (b : n ≤ 3000000) : Shw K H v d.shown := h.shw t.sh t.nd (Nat.le_trans t.dz a) (Nat.le_trans t.ln (Nat.le_trans b (by decide)))
end Lc
set_option Elab.async false
set_option linter.all false
set_option maxRecDepth 100000
set_option maxHeartbeats 4000000
namespace Lc
open PySem PySem.Spec PyProof.Rows L2
/-! ## (x, y) * 0, (x, y) * 1 -/
theorem tuple_mul1 (l : Addr) (items : Array Value) (n : Nat) (dd : Option Addr) (sl : Array (Option Value)) (u : Tok) :
    Meets (Builtin.«tuple.__mul__» ⟨[.ref l, .int 1 u], []⟩) (fun _ R s => s.heap.get? l = some { cls := .type "tuple", dict := dd, data := .seq items n, slots := sl } ∧ R (.ok (.ret (Value.ref l))) s) :=
  .of_wp fun prog w A R s h => by
    obtain ⟨hp, g, d, tk, os⟩ := s
    obtain ⟨hl, h⟩ := h
    have f1 := AutoSeq1.idx_int
    have c0 : (decide ((1 : Int) < -(2 ^ 63)) || decide ((1 : Int) ≥ 2 ^ 63)) = false := by decide
    have c1 : (items.isEmpty || (1 : Int) == 1) = true := by simp
    wp_walk using wpAny_loadPart' hl
    repeat (first
      | (refine wpAny_ite_false (decide_eq_false (by rw [c0]; exact Bool.false_ne_true)) ?_; wp_walk using wpAny_loadPart' hl)
      | (refine wpAny_ite_true (decide_eq_true c1) ?_; wp_walk using wpAny_loadPart' hl))
    exact ⟨_, rfl, h⟩
theorem tuple_mul0 (l : Addr) (items : Array Value) (n : Nat) (dd : Option Addr) (sl : Array (Option Value)) (u : Tok) (hne : items.isEmpty = false) :
    Meets (Builtin.«tuple.__mul__» ⟨[.ref l, .int 0 u], []⟩) (fun _ R s => s.heap.get? l = some { cls := .type "tuple", dict := dd, data := .seq items n, slots := sl } ∧
      R (.ok (.ret (Value.ref s.heap.objs.size))) { s with heap := s.heap.push { cls := Value.type "tuple", data := Data.seq #[] } }) :=
  .of_wp fun prog w A R s h => by
    obtain ⟨hp, g, d, tk, os⟩ := s
    obtain ⟨hl, h⟩ := h
    have f1 := AutoSeq1.idx_int
    have c0 : (decide ((0 : Int) < -(2 ^ 63)) || decide ((0 : Int) ≥ 2 ^ 63)) = false := by decide
    have c1 : (items.isEmpty || (0 : Int) == 1) = false := by rw [hne]; rfl
    have c2 : (decide ((0 : Int) ≤ 0) || items.isEmpty) = true := by simp
    wp_walk using wpAny_loadPart' hl
    repeat (first
      | (refine wpAny_ite_false (decide_eq_false (by rw [c0]; exact Bool.false_ne_true)) ?_; wp_walk using wpAny_loadPart' hl)
      | (refine wpAny_ite_false (decide_eq_false (by rw [c1]; exact Bool.false_ne_true)) ?_; wp_walk using wpAny_loadPart' hl)
      | (refine wpAny_ite_true (decide_eq_true c2) ?_; wp_walk using wpAny_loadPart' hl))
    exact ⟨_, rfl, h⟩
def rRep01 (K : PySem.W.Frag) : R2 := fun x y H Q => ∃ l k xs, x = .ref l ∧ y = .int k ∧ SqT K H l xs ∧ xs ≠ [] ∧ ((k = 1 ∧ Q (.ref l) H) ∨ (k = 0 ∧ ∀ p, H p = none → Q (.ref p) (upd H p (.tup []))))
section
variable {X : Cx}
theorem op_rep01 : OpR X (binaryOp .Mult) (rRep01 X.K) := by
  intro pins s σ H x y v u Q I rx ry h
  obtain ⟨l, k, xs, rfl, rfl, hT, hne, h⟩ := h
  cases rx
  obtain ⟨t, rfl⟩ := ry
  obtain ⟨its, r, ⟨⟨cls, dd, data, sl⟩, ho, hc, n, hd⟩, hs⟩ := I.tuple hT
  simp only at hc hd
  subst hc hd
  have hle : its.length = xs.length := r.length.symm
  have hn : its ≠ [] := fun e => hne (by
    rw [e] at hle
    exact List.eq_nil_of_length_eq_zero hle.symm)
  have hi : its.toArray.isEmpty = false := by
    cases its with
    | nil => exact absurd rfl hn
    | cons a b => rfl
  rcases h with ⟨rfl, q⟩ | ⟨rfl, q⟩
  · exact wpAny_binaryOp_repeat_ref (T := "tuple") (U := "int") (by decide) ⟨_, ho, rfl⟩ (fun s' => typeIs_int s' 1 t) noFill_tuple_mul F.fills_int_mul F.slot_int_rmul repeat_tuple F.slot_int_index.lookup
      (call_meets F.slot_int_rmul (typeIs_int s 1 t) F.entry_int_rmul (F.args_int_rmul_2 _ _) (int_rmul_tuple 1 t l its.toArray n dd sl)
        ⟨ho, rfl, ⟨_, ho, rfl⟩, call_meets F.slot_tuple_mul ⟨_, ho, rfl⟩ F.entry_tuple_mul (F.args_tuple_mul_2 _ _) (tuple_mul1 l its.toArray n dd sl t) ⟨ho, .ref l, H, I, rfl, q⟩⟩)
  · refine wpAny_binaryOp_repeat_ref (T := "tuple") (U := "int") (by decide) ⟨_, ho, rfl⟩ (fun s' => typeIs_int s' 0 t) noFill_tuple_mul F.fills_int_mul F.slot_int_rmul repeat_tuple F.slot_int_index.lookup
      (call_meets F.slot_int_rmul (typeIs_int s 0 t) F.entry_int_rmul (F.args_int_rmul_2 _ _) (int_rmul_tuple 0 t l its.toArray n dd sl)
        ⟨ho, rfl, ⟨_, ho, rfl⟩, call_meets F.slot_tuple_mul ⟨_, ho, rfl⟩ F.entry_tuple_mul (F.args_tuple_mul_2 _ _) (tuple_mul0 l its.toArray n dd sl t hi) ⟨ho, ?_⟩⟩)
    refine ⟨.ref s.heap.objs.size, _, I.laid (t' := s.toks) (o := .tup []) (fun b ob q => Heap.get?_push_of_some _ q) (Nat.le_refl _) ?_, rfl, q _ (I.hok.fresh (Nat.le_refl _))⟩
    exact ⟨Nat.zero_le _, [], .nil, IsTup.new _ _⟩
/-! ## What is never reached -/
theorem pss_dead {b : List Stmt} : PSs X b (fun _ _ _ => False) := ⟨fun _ _ _ _ _ _ h => h.elim⟩
theorem pg_dead {e : Expr} : PG X e (fun _ _ _ _ => False) := ⟨fun _ _ _ _ _ _ _ _ _ h => h.elim⟩
/-! ## C(e, ..) in a try -/
def tMakeS (C : Addr) (sp : Sp) (E : L2.St → XK) (t : TA) : TE := fun σ H Q => t σ H fun vs H1 => ∀ x dx, H1 x = none → H1 dx = none → dx ≠ x →
  sp (.ref x :: vs) (upd (upd H1 dx (.own x)) x (.ins C dx [])) (fun v H2 => v = .non ∧ Q (.ref x) H2) (E σ)
theorem pe_makeS {CX : CXT} {k : Nat} {C f : Addr} {fd : FuncData} {ps : List Str} {sp : Sp} {E : L2.St → XK} {x : Str} {p pos : Pos} {e : Expr} {es : List Expr} {t : TA}
    (M : Mk X.K C f) (F : FnOk X.prog X.w X.K X.mg X.base CX k f fd ps sp) (hr : Room (k + 1) X.A) (hg : Gl X x) (hm : X.mg x = some (.ref C)) (hb : Binds X.K fd ps []) (hx : ∀ σ, PassesAt CX X σ (E σ))
    (ha : PA X (e :: es) t) (hdb : (x == ("__debug__" : Str)) = false := by decide) (he : starEach (e :: es) X.env = (false, eval e X.env) :: starEach es X.env := by rfl) (hpl : (backTo pos (starEach es X.env)).any (·.1) = false := by rfl) :
    PE X (.Call (.Name x p) (e :: es) [] pos) (tMakeS C sp E t) := by
  refine ⟨fun pins s0 σ H0 Q I0 h0 => ?_⟩
  refine wpAny_Call_Name_kw (ld_glob I0 hg hm ?_ hdb)
  refine PySem.W.callWith_K (h₀ := X.base) I0.ok.mod.kin M.kp (thn (ha.run pos pins s0 σ H0 _ I0 h0) fun us s ⟨vs, H, I, r, h⟩ => ⟨I.kIn, ?_⟩) he hpl
  have hq := h (s.heap.objs.size + 1) s.heap.objs.size (I.hok.fresh (Nat.le_succ _)) (I.hok.fresh (Nat.le_refl _)) (Nat.ne_of_lt (Nat.lt_succ_self _))
  have I2 := Inv.made (C := C) I
  have r2 : Vals (V.ref (s.heap.objs.size + 1) :: vs) (Value.ref (s.heap.objs.size + 1) :: us) := .cons rfl r
  have hl : (Value.ref (s.heap.objs.size + 1) :: us).length = ps.length := by
    have e := r2.length
    rw [F.len _ _ _ _ hq] at e
    exact e.symm
  refine wpAny_call (make_map (f := f) I.kIn M.makes M.init (beq_iff_eq.mp M.fn) (codeAny_mono (F.run _ X.stack _ _ ⟨Value.ref (s.heap.objs.size + 1) :: us, []⟩ (Value.ref (s.heap.objs.size + 1) :: us) _ _ (E σ) (hr.make C us [])
    (I2.env0.make C us []) (by
      have z := hb _ (Value.ref (s.heap.objs.size + 1) :: us) I2.kIn (by rw [List.append_nil]; exact hl)
      rw [List.append_nil] at z
      exact z) r2 hq) fun r s' hq' => ?_))
  cases r with
  | error e => exact hx σ pins _ _ e s' I2 hq'
  | ok fl =>
    cases fl with
    | ret u =>
      obtain ⟨v, H', I3, rv, ev, q3⟩ := I2.after hq'
      subst ev
      exact ⟨rv, ⟨V.ref (s.heap.objs.size + 1), H', I3, rfl, q3⟩⟩
    | next => exact False.elim hq'
    | brk => exact False.elim hq'
    | cont => exact False.elim hq'
/-! ## len(o), o of an own class -/
structure LenC (K : PySem.W.Frag) (C f : Addr) : Prop where
  at_ : PySem.W.findIn K (.ref C) "__len__" = some (some (.ref f))
  fn : PySem.W.isFn K (.ref f) = true
def rLenI (C : Addr) (sp : Sp) : List V → Hp → VK → Prop := fun xs H Q => ∃ a dx fs, xs = [.ref a] ∧ H a = some (.ins C dx fs) ∧ sp [.ref a] H (fun v H' => ∃ n : Int, v = .int n ∧ 0 ≤ n ∧ n < 2 ^ 63 ∧ Q (.int n) H') E0
theorem call_lenI {k : Nat} {C f : Addr} {fd : FuncData} {ps : List Str} {sp : Sp} (c : LenC X.K C f) (F : FnOk X.prog X.w X.K X.mg X.base CX0 k f fd ps sp) (hr : Room (k + 1) X.A) (hb : Binds X.K fd ps []) : CallR X (.builtin "len") (rLenI C sp) := by
  intro pins s σ H xs us Q I rv h
  obtain ⟨a, dx, fs, rfl, ha, hsp⟩ := h
  obtain ⟨u, rfl, ru⟩ := vals1 rv
  cases ru
  obtain ⟨mA, J, _⟩ := ins_get I.hok ha
  obtain ⟨od, J, _⟩ := J.look
  refine Calls.call_function_entry kind_len plain_len entry_len (args_len1 _) ?_
  unfold Builtin.«len»
  refine wpAny_bind (m := oneArg "len" _) (wpAny_pure ?_)
  refine wpAny_bind (m := callSpecial? (.ref a) (Str.ofString "__len__")) (PySem.W.special_fn I.kIn J c.at_ (beq_iff_eq.mp c.fn) ?_)
  have e0 : Env0 X.prog X.w X.K X.mg X.base X.A.in1 X.stack s H := by
    have e := I.env0
    exact ⟨e.frames, e.mod, e.bs, e.bsz, e.funs, e.frf, e.hok, e.bare⟩
  have hl := F.len _ _ _ _ hsp
  have r2 : Vals [V.ref a] [Value.ref a] := .cons rfl .nil
  refine wpAny_call (codeAny_mono (F.run X.A.in1 X.stack s H ⟨[.ref a], []⟩ [.ref a] [.ref a] _ _ hr.in1 e0 (by
    have := hb s [.ref a] I.kIn (by simpa using hl)
    simpa using this) r2 hsp) fun r s' hq => ?_)
  cases r with
  | error e => exact hq.elim
  | ok fl =>
    cases fl with
    | ret u =>
      obtain ⟨v, H', I3, rv, n, rfl, h0, h1, q3⟩ := I.after hq
      obtain ⟨t, rfl⟩ := rv
      refine wpAny_bind (wpAny_holding (wpAny_pure ?_))
      refine wpAny_bind (wpAny_letGo ?_)
      show wpAny _ _ (if n < 0 then _ else _) _ _ _
      rw [if_neg (by omega)]
      show wpAny _ _ (if n ≥ 2 ^ 63 then _ else _) _ _ _
      rw [if_neg (by omega)]
      exact wpAny_bind (wpAny_mkInt (wpAny_pure ⟨_, rfl, .int n, H', I3.tok _, ⟨_, rfl⟩, q3⟩))
    | next => exact False.elim hq
    | brk => exact False.elim hq
    | cont => exact False.elim hq
end
end Lc
set_option Elab.async false
set_option linter.all false
set_option maxRecDepth 100000
set_option maxHeartbeats 4000000
namespace Lc
open PySem PySem.Spec PyProof.Rows L2
/-! ## Names that are drawn are names -/
theorem name_of {l : List Nat} {x : Str} (e : x.cps.toList = l) (ne : l ≠ []) (ln : l.length ≤ 12) (h1 : ∀ c r, l = c :: r → inL c = true) (h2 : ∀ c ∈ l, inS c = true) : nameB (.str x) = true := by
  show nameL x.cps.toList = true
  rw [e]
  cases l with
  | nil => exact absurd rfl ne
  | cons c r =>
    show (decide ((c :: r).length ≤ 12) && (inL c && (c :: r).all inS)) = true
    rw [decide_eq_true ln, h1 c r rfl, List.all_eq_true.mpr h2]
    rfl
theorem name_has {x : Str} (h : nameB (.str x) = true) : x.cps.toList ≠ [] ∧ x.cps.toList.length ≤ 12 ∧ (∀ c r, x.cps.toList = c :: r → inL c = true) ∧ ∀ c ∈ x.cps.toList, inS c = true := by
  have h : nameL x.cps.toList = true := h
  generalize x.cps.toList = l at h
  cases l with
  | nil => cases h
  | cons c r =>
    have h : (decide ((c :: r).length ≤ 12) && (inL c && (c :: r).all inS)) = true := h
    obtain ⟨a, h⟩ := Bool.and_eq_true_iff.mp h
    obtain ⟨b, h⟩ := Bool.and_eq_true_iff.mp h
    exact ⟨List.cons_ne_nil _ _, of_decide_eq_true a, fun c' r' e => by cases e; exact b, List.all_eq_true.mp h⟩
theorem app_list (x y : Str) : (x ++ y).cps.toList = x.cps.toList ++ y.cps.toList := by
  show (x.cps ++ y.cps).toList = _
  simp
theorem mul_list (i : Int) : (Txt.mul (PySem.Str.ofString "a") i).cps.toList = List.replicate i.toNat 97 := by
  have ea : (PySem.Str.ofString "a").cps.toList = [97] := by decide +kernel
  have el : ((PySem.Str.ofString "a").length == 0) = false := by decide +kernel
  unfold Txt.mul
  by_cases h1 : i < 1
  · rw [if_pos h1, show i.toNat = 0 by omega]
    rfl
  · rw [if_neg h1, el, Bool.or_false]
    by_cases h2 : (i == 1) = true
    · rw [if_pos h2, ea, show i.toNat = 1 by have := beq_iff_eq.mp h2; omega]
      rfl
    · rw [if_neg h2]
      show ((List.replicate i.toNat (PySem.Str.ofString "a").cps).foldl (· ++ ·) #[]).toList = _
      rw [foldl_app]
      simp only [List.map_replicate, ea]
      generalize i.toNat = n
      induction n with
      | zero => rfl
      | succ n ih =>
        rw [List.replicate_succ, List.replicate_succ]
        simpa using ih
theorem sgn_at {i : Int} (h0 : 0 ≤ i) (h1 : i < 36) : ∃ c, atI signs.cps.toList i = some c ∧ c ∈ signs.cps.toList ∧ inS c = true ∧ (i < 26 → inL c = true) := by
  obtain ⟨n, rfl⟩ : ∃ n : Nat, i = (n : Int) := ⟨i.toNat, by omega⟩
  have h : n < signs.cps.toList.length := by rw [signs_len]; omega
  have m := List.getElem_mem h
  refine ⟨signs.cps.toList[n], atI_nat (List.getElem?_eq_getElem h), m, decide_eq_true m, fun l => ?_⟩
  have all : ∀ k : Fin 26, (signs.cps.toList[k.1]?).all inL = true := by decide +kernel
  have z := all ⟨n, by omega⟩
  rw [List.getElem?_eq_getElem h] at z
  exact z
theorem in97 : inL 97 = true ∧ inS 97 = true := by decide +kernel
theorem name_one {k m : Int} {c : Nat} (h0 : 0 ≤ k) (hm : 0 ≤ m) (l : k + m ≤ 11) (hs : inS c = true) (hl : k = 0 → inL c = true) : nameB (.str (Txt.mul (PySem.Str.ofString "a") k ++ ⟨#[c]⟩ ++ Txt.mul (PySem.Str.ofString "a") m)) = true := by
  have e : (Txt.mul (PySem.Str.ofString "a") k ++ (⟨#[c]⟩ : Str) ++ Txt.mul (PySem.Str.ofString "a") m).cps.toList = List.replicate k.toNat 97 ++ [c] ++ List.replicate m.toNat 97 := by
    rw [app_list, app_list, mul_list, mul_list]
  refine name_of e (by simp) (by simp; omega) (fun c' r' q => ?_) (fun c' q => ?_)
  · by_cases z : k = 0
    · subst z
      have q : c :: List.replicate m.toNat 97 = c' :: r' := q
      cases q
      exact hl rfl
    · obtain ⟨n, hn⟩ : ∃ n, k.toNat = n + 1 := ⟨k.toNat - 1, by omega⟩
      rw [hn, List.replicate_succ] at q
      cases q
      exact in97.1
  · rcases List.mem_append.mp q with q | q
    · rcases List.mem_append.mp q with q | q
      · rw [List.eq_of_mem_replicate q]; exact in97.2
      · rw [List.mem_singleton.mp q]; exact hs
    · rw [List.eq_of_mem_replicate q]; exact in97.2
theorem glued_list : ∀ (cs : List Nat), (Str.join Str.empty (cs.map fun c => (⟨#[c]⟩ : Str))).cps.toList = cs
  | [] => rfl
  | [c] => rfl
  | c :: d :: r => by
    have ih := glued_list (d :: r)
    have e : Str.join Str.empty ((c :: d :: r).map fun c => (⟨#[c]⟩ : Str)) = (⟨#[c]⟩ : Str) ++ Str.empty ++ Str.join Str.empty ((d :: r).map fun c => (⟨#[c]⟩ : Str)) := rfl
    rw [e, app_list, app_list, ih]
    rfl
theorem name_join {cs : List Nat} (ne : cs ≠ []) (ln : cs.length ≤ 12) (h1 : ∀ c r, cs = c :: r → inL c = true) (h2 : ∀ c ∈ cs, inS c = true) : nameB (.str (Txt.join (PySem.Str.ofString "") (cs.map fun c => (⟨#[c]⟩ : Str)))) = true := by
  have e : Txt.join (PySem.Str.ofString "") (cs.map fun c => (⟨#[c]⟩ : Str)) = Str.join Str.empty (cs.map fun c => (⟨#[c]⟩ : Str)) := (StrLaws.glued_eq_join (PySem.Str.ofString "") _).trans rfl
  rw [e]
  exact name_of (glued_list cs) ne ln h1 h2
theorem cut_list (x : Str) : (cutS x none (some 11)).cps.toList = x.cps.toList.take 11 := by
  unfold cutS
  rw [lenL]
  simp [HT.sIx]
theorem name_cut {x : Str} {c : Nat} (h : nameB (.str x) = true) (hc : inS c = true) : nameB (.str (cutS x none (some 11) ++ ⟨#[c]⟩)) = true := by
  obtain ⟨a1, a2, a3, a4⟩ := name_has h
  have e : (cutS x none (some 11) ++ (⟨#[c]⟩ : Str)).cps.toList = x.cps.toList.take 11 ++ [c] := by rw [app_list, cut_list]
  refine name_of e (by simp) (by simp; omega) (fun c' r' q => ?_) (fun c' q => ?_)
  · cases z : x.cps.toList with
    | nil => exact absurd z a1
    | cons d r =>
      rw [z] at q
      have q : d :: (r.take 10 ++ [c]) = c' :: r' := q
      injection q with q1 _
      rw [← q1]
      exact a3 d r z
  · rcases List.mem_append.mp q with q | q
    · exact a4 c' (List.mem_of_mem_take q)
    · rw [List.mem_singleton.mp q]; exact hc
/-! ## Some letter is free -/
theorem pigeon {α : Type} [DecidableEq α] : ∀ {l m : List α}, l.Nodup → (∀ x ∈ l, x ∈ m) → l.length ≤ m.length
  | [], _, _, _ => Nat.zero_le _
  | x :: l, m, n, h => by
    obtain ⟨n1, n2⟩ := List.nodup_cons.mp n
    have hx := h x List.mem_cons_self
    have := pigeon (l := l) (m := m.erase x) n2 fun y hy => (List.mem_erase_of_ne (fun e => n1 (by rw [← e]; exact hy))).mpr (h y (List.mem_cons_of_mem _ hy))
    rw [List.length_erase_of_mem hx] at this
    have := List.length_pos_of_mem hx
    rw [List.length_cons]
    omega
theorem in_strs {z : Str} {ss : List Str} : inV (.str z) (ss.map V.str) = decide (z ∈ ss) := by
  rw [Bool.eq_iff_iff, decide_eq_true_iff]
  unfold inV
  rw [List.any_eq_true]
  constructor
  · rintro ⟨y, hy, e⟩
    obtain ⟨s, hs, rfl⟩ := List.mem_map.mp hy
    have : s = z := by simpa [eqV] using e
    rw [← this]; exact hs
  · intro h
    exact ⟨.str z, List.mem_map.mpr ⟨z, h, rfl⟩, by simp [eqV]⟩
theorem free_letter {x : Str} {ss : List Str} (l : ss.length < 36) (h : ∀ c ∈ signs.cps.toList, cutS x none (some 11) ++ (⟨#[c]⟩ : Str) ∈ ss) : False := by
  have inj : ∀ c d : Nat, cutS x none (some 11) ++ (⟨#[c]⟩ : Str) = cutS x none (some 11) ++ (⟨#[d]⟩ : Str) → c = d := fun c d e => by
    have e := congrArg (fun s : Str => s.cps.toList) e
    simp only [app_list] at e
    have := List.append_cancel_left e
    simpa using this
  have nd : signs.cps.toList.Nodup := by decide +kernel
  have := pigeon (l := signs.cps.toList.map fun c => cutS x none (some 11) ++ (⟨#[c]⟩ : Str)) (m := ss) (List.Pairwise.map _ (fun a b n e => n (inj a b e)) nd) fun y hy => by
    obtain ⟨c, hc, rfl⟩ := List.mem_map.mp hy
    exact h c hc
  rw [List.length_map, signs_len] at this
  omega
end Lc
set_option Elab.async false
set_option linter.all false
set_option maxRecDepth 100000
set_option maxHeartbeats 4000000
namespace Lc
open PySem PySem.Spec PyProof.Rows L2
/-! ## o.m(e, .., k = v, ..) -/
def tMethK (C : Addr) (m : Str) (n l : Nat) (sp : Sp) (gV : List V → List V → List V) (E : XK) (ta : TE) (t tk : TA) : TE := fun σ H Q => ta σ H fun x H1 => ∃ a dx fs, x = .ref a ∧ H1 a = some (.ins C dx fs) ∧ fs.lookup m = none ∧
  t σ H1 fun vs H2 => tk σ H2 fun zs H3 => vs.length = n ∧ zs.length = l ∧ sp (gV (x :: vs) zs) H3 Q E
section
variable {X : Cx} {CX : CXT} {k n : Nat} {f C : Addr} {fd : FuncData} {ps ks : List Str} {sp : Sp} {E : XK} {m : Str} {pos apos : Pos} {e o : Expr} {es : List Expr} {kws : List Keyword} {ta : TE} {t tk : TA} {g : List Value → List Value → List Value} {gV : List V → List V → List V}
theorem pe_methK {pl : Sem Bool} (he : PE X o ta) (c : Cls X.K C) (hm : Meth X.K C m f) (F : FnOk X.prog X.w X.K X.mg X.base CX k f fd ps sp) (hr : Room k X.A) (hb : KBn X.K fd ps (n + 1) ks g gV) (hx : Passes CX X E) (ha : PA X (e :: es) t) (hkw : PK X kws tk)
    (hall : (backToKw pos (keywordEach kws X.env)).all (·.1.isSome) = true := by rfl) (hks : (backToKw pos (keywordEach kws X.env)).filterMap (·.1) = ks := by rfl) (hst : starEach (e :: es) X.env = (false, eval e X.env) :: starEach es X.env := by rfl)
    (hpl : ((backTo pos (starEach (e :: es) X.env)).any (·.1) || (backToKw pos (keywordEach kws X.env)).any (·.1.isNone)) = false := by rfl)
    (ht : eval (.Call (.Attribute o m apos) (e :: es) kws pos) X.env = (do
      let ov ← eval o X.env
      standAt apos.atName
      let (f, first) ← holding [ov] (getMethod ov m pl)
      callWith pos f first (backTo pos (starEach (e :: es) X.env)) (backToKw pos (keywordEach kws X.env))) := by rfl) :
    PE X (.Call (.Attribute o m apos) (e :: es) kws pos) (tMethK C m n ks.length sp gV E ta t tk) := by
  refine ⟨fun pins s σ H Q I h => ?_⟩
  refine PySem.W.methodCall_KW (pl := pl) (thn (he.run pins s σ H _ I h) fun u s1 ⟨x, H1, I1, rx, a, dx, fs, ex, ea, l, q⟩ => ?_) ht
  subst ex
  obtain rfl : u = Value.ref a := rx
  refine getmeth_ok I1 ea c hm l ?_
  refine PySem.W.callWith_KW (first := [.ref a]) (h₀ := X.base) I.ok.mod.kin hm.kp hall (thn (ha.run pos pins s1 σ H1 _ I1 q) fun us s2 ⟨vs, H2, I2, r, q2⟩ => ?_) hpl hst
  refine thn (hkw.run pos pins s2 σ H2 _ I2 q2) fun ws s3 ⟨zs, H3, I3, rz, l1, l2, q3⟩ => ⟨I3.kIn, ?_⟩
  rw [hks]
  exact run_fnN (us := .ref a :: us) (vs := .ref a :: vs) F hr hb hx I3 (.cons rfl r) rz (by rw [List.length_cons, l1]) l2 q3
end
theorem kbN {K : PySem.W.Frag} {x qual : Str} {params : Arguments} {body : List Stmt} {scope : Scope} {kws : List (Str × V)} {f : Addr} {fd : FuncData} {ps ks : List Str} {n : Nat} (F : FunD K x qual params body scope [] kws f fd)
    (h : ∀ (kV doc pm : Value) (an : Option Addr) (cdv ct : Value) (us ws : List Value), us.length = n → ws.length = ks.length → bindArgs (PySem.W.fnOf x qual params body scope .none kV doc pm an cdv ct) ⟨us, ks.zip ws⟩ = pure (ps.zip (us ++ ws))) : KBn K fd ps n ks (fun us ws => us ++ ws) (fun vs zs => vs ++ zs) := by
  obtain ⟨oc, od, dV, kV, doc, pm, an, cdv, ct, osl, rfl, lk, hcd, hD, hK⟩ := F.ex
  rcases hD with ⟨_, rfl⟩ | ⟨e, _⟩
  · exact ⟨fun s us ws X l1 l2 => .of_eq (h kV doc pm an cdv ct us ws l1 l2), fun r1 r2 => r1.append r2⟩
  · exact absurd rfl e
/-! ## Data without lists: it stands as long as the tuples stand -/
def SameT (H H' : Hp) : Prop := ∀ b xs, H b = some (.tup xs) → H' b = some (.tup xs)
theorem SameT.refl (H : Hp) : SameT H H := fun _ _ e => e
theorem SameT.trans {H H1 H2 : Hp} (a : SameT H H1) (b : SameT H1 H2) : SameT H H2 := fun c xs e => b c xs (a c xs e)
theorem SameT.of {H H' : Hp} (s : Same H H') : SameT H H' := fun b xs e => s _ _ e
theorem SameT.b {t : Addr} {H H' : Hp} (T : Tape H t) (s : SameB t H H') : SameT H H' := fun b xs e => s _ _ (T.neT e) e
theorem SameT.at {a : Addr} {H H' : Hp} {o : HO} (h : H a = some o) (n : ∀ xs, o ≠ .tup xs) (s : SameB a H H') : SameT H H' := fun b xs e => s _ _ (fun z => by rw [z, h] at e; exact n xs (Option.some.inj e)) e
theorem SameT.lst {H : Hp} {a : Addr} {ys : List V} {o : HO} (h : H a = some (.lst ys)) : SameT H (upd H a o) := fun b xs e => by rw [upd_ne (ne_of e h nofun)]; exact e
mutual
def noL : PyData → Bool
  | .list _ => false
  | .dict _ => false
  | .tuple ds => noLs ds
  | _ => true
def noLs : List PyData → Bool
  | [] => true
  | d :: ds => noL d && noLs ds
end
mutual
theorem Dh.t {H H' : Hp} (s : SameT H H') : ∀ {v : V} {d : PyData}, Dh H v d → noL d = true → Dh H' v d
  | _, _, .non, _ => .non
  | _, _, .bl b, _ => .bl b
  | _, _, .int i, _ => .int i
  | _, _, .str x, _ => .str x
  | _, _, .tup e h, n => .tup (s _ _ e) (DhAll.t s h (by simpa [noL] using n))
  | _, _, .lst e h, n => by simp [noL] at n
  | _, _, .dct e, n => by simp [noL] at n
theorem DhAll.t {H H' : Hp} (s : SameT H H') : ∀ {vs : List V} {ds : List PyData}, DhAll H vs ds → noLs ds = true → DhAll H' vs ds
  | _, _, .nil, _ => .nil
  | _, _, .cons h r, n => by
    rw [noLs, Bool.and_eq_true_iff] at n
    exact .cons (Dh.t s h n.1) (DhAll.t s r n.2)
end
theorem noLs_app {a b : List PyData} : noLs (a ++ b) = (noLs a && noLs b) := by
  induction a with
  | nil => rfl
  | cons x a ih => rw [List.cons_append, noLs, noLs, ih, Bool.and_assoc]
theorem noLs_all {a : List PyData} : noLs a = true ↔ ∀ d ∈ a, noL d = true := by
  induction a with
  | nil => exact ⟨fun _ => nofun, fun _ => rfl⟩
  | cons x a ih =>
    rw [noLs, Bool.and_eq_true_iff, ih]
    constructor
    · rintro ⟨h1, h2⟩ d hd
      rcases List.mem_cons.mp hd with rfl | hd
      · exact h1
      · exact h2 d hd
    · exact fun h => ⟨h x List.mem_cons_self, fun d hd => h d (List.mem_cons_of_mem _ hd)⟩
end Lc
set_option Elab.async false
set_option linter.all false
set_option maxRecDepth 100000
set_option maxHeartbeats 4000000
namespace Lc
open PySem PySem.Spec PyProof.Rows L2
/-! ## a dict comprehension that is stored in a local name -/
section
variable {X : Cx}
theorem sw_dict {e1 e2 : Expr} {cs : List Comprehension} {sc : Scope} {p1 p2 : Pos} {nm : Str} {ln : Nat} {en : Env} (h1 : en.scope.kind = .function) (h2 : en.scope.names.lookup nm = some .local) (h3 : (p2.line == p1.line) = true)
    (h4 : (sc.names.any fun (a, b) => a == nm && (b == .local || b == .cell)) = false) : swapsWith (.DictComp e1 e2 cs sc p1) (some (.Name nm p2)) ln en = pure true := by
  have k1 : en.kindOf nm = some .local := h2
  have k2 : en.blockKind = .function := by
    unfold Env.blockKind
    rw [h1]
    rfl
  unfold swapsWith
  simp only [k2, k1, h4, Expr.pos, h3]
  rfl
theorem ps_setDc {i : Nat} {nm : Str} {p2 p1 p3 : Pos} {kx vx tg it : Expr} {ifs : List Expr} {sc : Scope} {own : List (Str × Nat)} {wi : TI} {g : TG} {tt : TT} {tk tv : TE} (calm : X.calm = true) (nd : X.N.Nodup) (at_ : X.N[i]? = some nm) (loc : X.env.scope.names.lookup nm = some .local)
    (sw : swapsWith (.DictComp kx vx [⟨tg, it, ifs, 0⟩] sc p1) (some (.Name nm p2)) p3.line X.env = pure true) (hi : PI X tg it wi) (ok : BlkOk X.N X.env.scope sc own)
    (hg : ∀ (s : Shared) (H : Hp) (C : Addr) (cl : List (Str × Addr)) (fp : List Addr), PG (X.blk s H sc (compEnvC sc cl C X.env) fp) tg g) (ht : ∀ (s : Shared) (H : Hp) (C : Addr) (cl : List (Str × Addr)) (fp : List Addr), PTs (X.blk s H sc (compEnvC sc cl C X.env) fp) ifs tt)
    (hk : ∀ (s : Shared) (H : Hp) (C : Addr) (cl : List (Str × Addr)) (fp : List Addr), PE (X.blk s H sc (compEnvC sc cl C X.env) fp) kx tk) (hv : ∀ (s : Shared) (H : Hp) (C : Addr) (cl : List (Str × Addr)) (fp : List Addr), PE (X.blk s H sc (compEnvC sc cl C X.env) fp) vx tv) (hs : ∀ x, foldedSetIterable it X.env x = pure x := by intro _; rfl) :
    PS X (.Assign [.Name nm p2] (.DictComp kx vx [⟨tg, it, ifs, 0⟩] sc p1) p3) (tAsg (tDc wi g tt tk tv (own.map (·.2))) (gName i)) := by
  refine ⟨fun pins st σ H D I q0 => ?_⟩
  rw [exec_Assign_Name_used _ _ _ _ sw]
  refine wpAny_bind (wpAny_standAt (wpAny_bind ?_))
  show wpAny _ X.A (do let _ ← comprehension (.DictComp kx vx [⟨tg, it, ifs, 0⟩] sc p1) sc X.env (firstIterPos [⟨tg, it, ifs, 0⟩] p1) newDict false (eval it X.env) (some (assign (.Name nm p2) X.env))) _ _ st
  have q1 : tDc wi g tt tk tv (own.map (·.2)) σ H (fun x H1 => gName i x σ H1 D.nx) := q0
  refine wpAny_bind (thn (dc_core (Qf := fun _ s' => SP X pins D .next s') calm nd I hi ok hg ht hk hv hs q1 fun L C s' mm H' I' qq hn fr => ?_) fun _ s' z => wpAny_pure (wpAny_pure z))
  show wpAny _ _ (assign (.Name nm p2) X.env (.ref L)) _ _ _
  refine wpAny_assign_Name (store_ok2 (v := V.ref L) I' nd at_ (.inl loc) rfl (fun s2 I2 ⟨a, sb, ha⟩ => ?_) (.inr loc))
  obtain ⟨g0, g1, _, g3, g4, g5⟩ := fr
  have ne : C ≠ a := by
    rcases ha with z | z
    · exact z ▸ g1
    · exact fun e => g4 nm a z e.symm
  refine ⟨mm, hn.sameBut sb ne, fun h3 sb3 => ?_⟩
  refine ⟨_, H', I2.turned (t' := s2.toks) (fun b o hb e => ?_) g0 g1 g3 g4 g5, qq⟩
  exact (sb3.2 b hb).trans e
end
/-- a dict comprehension over zip of two tuples of one length -/
theorem dc_zip {K : PySem.W.Frag} {a b : Addr} {xs ys : List V} {g : TG} {tt : TT} {tk tv : TE} {vs : List Nat} {σ : L2.St} {H1 : Hp} {D : Addr} {Qd : Hp → Prop} (hl : xs.length = ys.length) (Pv : Nat → Hp → Prop) (h0 : Pv 0 (upd H1 D (.dK []))) (hq : ∀ i H, Pv i H → SqT K H a xs ∧ SqT K H b ys)
    (hs : ∀ (i : Nat) (x y : V) (T : Addr) (H : Hp), xs[i]? = some x → ys[i]? = some y → Pv i H → H T = none → g (.ref T) (wipe σ vs) (upd H T (.tup [x, y])) fun σ2 H2 => wipe σ2 vs = wipe σ vs ∧ tt σ2 H2 fun c H3 =>
      if c = true then tk σ2 H3 fun k H4 => tv σ2 H4 fun z H5 => ∃ kvs kk, k = kV kk ∧ H5 D = some (.dK kvs) ∧ kvs.length < sizeLine ∧ Pv (i + 1) (upd H5 D (.dK (putK kvs kk z))) else Pv (i + 1) H3) (hd : ∀ H, Pv xs.length H → Qd H) :
    ∃ W : Nat → Nat → Hp → Prop, (∃ m, W 0 m (upd H1 D (.dK []))) ∧ ∀ i m H, W i m H →
      ((RZ.ItzT K a b).stop i H ∧ Qd H) ∨ ((RZ.ItzT K a b).go i H ∧ ∃ N : Hp → Prop, (∀ H', N H' → ∃ m', m' < m ∧ W (i + 1) m' H') ∧ ∀ v H', (RZ.ItzT K a b).yld i H v H' → g v (wipe σ vs) H' fun σ2 H2 => wipe σ2 vs = wipe σ vs ∧ tt σ2 H2 fun c H3 =>
        if c = true then tk σ2 H3 fun k H4 => tv σ2 H4 fun z H5 => ∃ kvs kk, k = kV kk ∧ H5 D = some (.dK kvs) ∧ kvs.length < sizeLine ∧ N (upd H5 D (.dK (putK kvs kk z))) else N H3) := by
  refine ⟨fun i m H => i + m = xs.length ∧ Pv i H, ⟨xs.length, Nat.zero_add _, h0⟩, ?_⟩
  rintro i m H ⟨em, pv⟩
  obtain ⟨q1, q2⟩ := hq i H pv
  cases m with
  | zero =>
    obtain rfl : i = xs.length := by omega
    exact .inl ⟨⟨xs, ys, q1, q2, .inl (Nat.le_refl _)⟩, hd H pv⟩
  | succ m =>
    have l1 : i < xs.length := by omega
    have l2 : i < ys.length := by omega
    refine .inr ⟨⟨xs, ys, _, _, q1, q2, List.getElem?_eq_getElem l1, List.getElem?_eq_getElem l2⟩, Pv (i + 1), fun H' p' => ⟨m, by omega, by omega, p'⟩, fun v H' yl => ?_⟩
    obtain ⟨T, x', y', rfl, hT, rfl, f1, f2⟩ := yl
    exact hs i x' y' T H (f1 xs q1) (f2 ys q2) pv hT
section
variable {X : Cx} {k : Nat} {f : Addr} {fd : FuncData} {ps : List Str} {sp : Sp} {x : Str} {p pos : Pos}
/-- f(), f kept under FnG -/
theorem pe_callG0 (F : FnG X.prog X.w X.K X.mg X.base k f fd ps sp) (gg : X.A.guards = some []) (hr : Room k X.A) (hg : Gl X x) (hm : X.mg x = some (.ref f)) (hk : PySem.W.keepIn X.K (.ref f) = true) (hb : Binds X.K fd ps []) (hdb : (x == ("__debug__" : Str)) = false := by decide) :
    PE X (.Call (.Name x p) [] [] pos) (tCall sp [] E0 tNil) := by
  refine ⟨fun pins s σ H Q I h => wpAny_Call_Name_kw (ld_glob I hg hm ?_ hdb)⟩
  refine PySem.W.callWith_K0 I.kIn hk ?_
  have q : sp [] H Q E0 := h
  have hl : ([] : List V).length = ps.length := F.len _ _ _ _ q
  have b := hb s [] I.kIn hl
  refine wpAny_call (codeAny_mono (F.run X.A X.stack s H ⟨[], []⟩ [] [] Q E0 gg hr I.env0 b .nil q) fun rr s' hq => ?_)
  cases rr with
  | error er => exact hq.elim
  | ok fl =>
    cases fl with
    | ret u => exact I.after hq
    | next => exact hq.elim
    | brk => exact hq.elim
    | cont => exact hq.elim
end
/-- a list comprehension over zip of two tuples of one length -/
theorem lc_zip {K : PySem.W.Frag} {a b : Addr} {xs ys : List V} {g : TG} {tt : TT} {te : TE} {vs : List Nat} {σ : L2.St} {H1 : Hp} {D : Addr} {Qd : Hp → Prop} (hl : xs.length = ys.length) (Pv : Nat → Hp → Prop) (h0 : Pv 0 (upd H1 D (.lst []))) (hq : ∀ i H, Pv i H → SqT K H a xs ∧ SqT K H b ys)
    (hs : ∀ (i : Nat) (x y : V) (T : Addr) (H : Hp), xs[i]? = some x → ys[i]? = some y → Pv i H → H T = none → g (.ref T) (wipe σ vs) (upd H T (.tup [x, y])) fun σ2 H2 => wipe σ2 vs = wipe σ vs ∧ tt σ2 H2 fun c H3 =>
      if c = true then te σ2 H3 fun z H4 => ∃ acc, H4 D = some (.lst acc) ∧ acc.length < sizeLine ∧ Pv (i + 1) (upd H4 D (.lst (acc ++ [z]))) else Pv (i + 1) H3) (hd : ∀ H, Pv xs.length H → Qd H) :
    ∃ W : Nat → Nat → Hp → Prop, (∃ m, W 0 m (upd H1 D (.lst []))) ∧ ∀ i m H, W i m H →
      ((RZ.ItzT K a b).stop i H ∧ Qd H) ∨ ((RZ.ItzT K a b).go i H ∧ ∃ N : Hp → Prop, (∀ H', N H' → ∃ m', m' < m ∧ W (i + 1) m' H') ∧ ∀ v H', (RZ.ItzT K a b).yld i H v H' → g v (wipe σ vs) H' fun σ2 H2 => wipe σ2 vs = wipe σ vs ∧ tt σ2 H2 fun c H3 =>
        if c = true then te σ2 H3 fun z H4 => ∃ acc, H4 D = some (.lst acc) ∧ acc.length < sizeLine ∧ N (upd H4 D (.lst (acc ++ [z]))) else N H3) := by
  refine ⟨fun i m H => i + m = xs.length ∧ Pv i H, ⟨xs.length, Nat.zero_add _, h0⟩, ?_⟩
  rintro i m H ⟨em, pv⟩
  obtain ⟨q1, q2⟩ := hq i H pv
  cases m with
  | zero =>
    obtain rfl : i = xs.length := by omega
    exact .inl ⟨⟨xs, ys, q1, q2, .inl (Nat.le_refl _)⟩, hd H pv⟩
  | succ m =>
    have l1 : i < xs.length := by omega
    have l2 : i < ys.length := by omega
    refine .inr ⟨⟨xs, ys, _, _, q1, q2, List.getElem?_eq_getElem l1, List.getElem?_eq_getElem l2⟩, Pv (i + 1), fun H' p' => ⟨m, by omega, by omega, p'⟩, fun v H' yl => ?_⟩
    obtain ⟨T, x', y', rfl, hT, rfl, f1, f2⟩ := yl
    exact hs i x' y' T H (f1 xs q1) (f2 ys q2) pv hT
theorem paired_snoc {α β : Type} {R : α → β → Prop} {a : α} {b : β} (h : R a b) : ∀ {l : List α} {m : List β}, Paired R l m → Paired R (l ++ [a]) (m ++ [b])
  | _, _, .nil => .cons h .nil
  | _, _, .cons g r => .cons g (paired_snoc h r)
theorem paired_imp {α β : Type} {R S : α → β → Prop} (h : ∀ a b, R a b → S a b) : ∀ {l : List α} {m : List β}, Paired R l m → Paired S l m
  | _, _, .nil => .nil
  | _, _, .cons g r => .cons (h _ _ g) (paired_imp h r)
end Lc
set_option Elab.async false
set_option linter.all false
set_option maxRecDepth 100000
set_option maxHeartbeats 4000000
namespace Lc
open PySem PySem.Spec PyProof.Rows L2 PySem.NumText
/-! ## Digits -/
def digs (m : Nat) : List Nat := (Nat.toDigits 10 m).map Char.toNat
theorem digs_small {m : Nat} (h : m < 10) : digs m = [48 + m] := by
  unfold digs
  rw [Nat.toDigits_of_lt_base h]
  have : ∀ k < 10, (Nat.digitChar k).toNat = 48 + k := by decide
  show [(Nat.digitChar m).toNat] = _
  rw [this m h]
theorem digs_big {m : Nat} (h : 10 ≤ m) : digs m = digs (m / 10) ++ [48 + m % 10] := by
  have hm : m % 10 < 10 := Nat.mod_lt m (by decide)
  have t : Nat.toDigits 10 (m / 10) ++ Nat.toDigits 10 (m % 10) = Nat.toDigits 10 (10 * (m / 10) + m % 10) := Nat.toDigits_append_toDigits (by decide) (by omega) hm
  rw [Nat.div_add_mod] at t
  have e := digs_small hm
  unfold digs at e ⊢
  rw [← t, List.map_append, e]
theorem digs_val (m : Nat) : digitsVal (digs m) = m := W.KIN.val_back m
theorem digs_all : ∀ m, AllDigits (digs m) := by
  intro m
  induction m using Nat.strongRecOn with
  | _ m ih =>
    by_cases h : m < 10
    · rw [digs_small h]
      intro c hc
      have : c = 48 + m := by simpa using hc
      omega
    · rw [digs_big (by omega)]
      intro c hc
      rcases List.mem_append.mp hc with hc | hc
      · exact ih (m / 10) (by omega) c hc
      · have : c = 48 + m % 10 := by simpa using hc
        omega
theorem digs_head : ∀ m, ∃ c r, digs m = c :: r ∧ (c = 48 → r = []) := by
  intro m
  have key : ∀ m, ∃ c r, digs m = c :: r ∧ (0 < m → 49 ≤ c) := by
    intro m
    induction m using Nat.strongRecOn with
    | _ m ih =>
      by_cases h : m < 10
      · exact ⟨48 + m, [], digs_small h, fun _ => by omega⟩
      · obtain ⟨c, r, e, g⟩ := ih (m / 10) (by omega)
        refine ⟨c, r ++ [48 + m % 10], ?_, fun _ => g (by omega)⟩
        rw [digs_big (by omega), e]
        rfl
  by_cases z : m = 0
  · exact ⟨48, [], by rw [z]; exact digs_small (by decide), fun _ => rfl⟩
  · obtain ⟨c, r, e, g⟩ := key m
    exact ⟨c, r, e, fun h => by have := g (by omega); omega⟩
theorem digs_len : ∀ (p m : Nat), 0 < p → m < 10 ^ p → (digs m).length ≤ p := by
  intro p
  induction p with
  | zero => intro m h; omega
  | succ p ih =>
    intro m _ h
    by_cases z : m < 10
    · rw [digs_small z]
      simp
    · rw [digs_big (by omega), List.length_append]
      have hp : 0 < p := by
        cases p with
        | zero => omega
        | succ q => omega
      have : m / 10 < 10 ^ p := by
        rw [Nat.div_lt_iff_lt_mul (by decide)]
        rw [Nat.pow_succ] at h
        exact h
      have := ih (m / 10) hp this
      simp only [List.length_cons, List.length_nil]
      omega
def zf (p r : Nat) : List Nat := List.replicate (p - (digs r).length) 48 ++ digs r
theorem zf_len {p r : Nat} (hp : 0 < p) (h : r < 10 ^ p) : (zf p r).length = p := by
  have := digs_len p r hp h
  unfold zf
  rw [List.length_append, List.length_replicate]
  omega
theorem zf_all (p r : Nat) : AllDigits (zf p r) := by
  intro c hc
  rcases List.mem_append.mp hc with hc | hc
  · have := List.eq_of_mem_replicate hc
    omega
  · exact digs_all r c hc
theorem val_from (l : List Nat) : ∀ a : Nat, l.foldl (fun acc c => acc * 10 + (c - 48)) a = a * 10 ^ l.length + digitsVal l := by
  induction l with
  | nil => intro a; simp [digitsVal]
  | cons c l ih =>
    intro a
    show l.foldl _ (a * 10 + (c - 48)) = _
    have e2 : digitsVal (c :: l) = l.foldl (fun acc c => acc * 10 + (c - 48)) (0 * 10 + (c - 48)) := rfl
    rw [ih, e2, ih, List.length_cons, Nat.pow_succ, Nat.zero_mul, Nat.zero_add, Nat.add_mul, Nat.mul_assoc, Nat.mul_comm 10]
    omega
theorem val_app (a b : List Nat) : digitsVal (a ++ b) = digitsVal a * 10 ^ b.length + digitsVal b := by
  unfold digitsVal
  rw [List.foldl_append]
  exact val_from b _
theorem val_zeros (k : Nat) : digitsVal (List.replicate k 48) = 0 := by
  induction k with
  | zero => rfl
  | succ k ih =>
    rw [List.replicate_succ, digitsVal_zero]
    exact ih
theorem zf_val (p r : Nat) : digitsVal (zf p r) = r := by
  unfold zf
  rw [val_app, val_zeros, digs_val]
  omega
/-! ## A text cut at the point -/
def jl : List (List Nat) → List Nat
  | [] => []
  | [x] => x
  | x :: y :: r => x ++ 46 :: jl (y :: r)
theorem cut_eq : ∀ {a b x y : List Nat}, 46 ∉ a → 46 ∉ b → a ++ 46 :: x = b ++ 46 :: y → a = b ∧ x = y
  | [], [], _, _, _, _, e => ⟨rfl, (List.cons.inj e).2⟩
  | [], c :: b, _, _, _, hb, e => absurd (List.cons.inj e).1 (fun z => hb (by rw [z]; exact List.mem_cons_self))
  | c :: a, [], _, _, ha, _, e => absurd (List.cons.inj e).1.symm (fun z => ha (by rw [z]; exact List.mem_cons_self))
  | c :: a, d :: b, x, y, ha, hb, e => by
    obtain ⟨e1, e2⟩ := List.cons.inj e
    obtain ⟨h1, h2⟩ := cut_eq (fun z => ha (List.mem_cons_of_mem _ z)) (fun z => hb (List.mem_cons_of_mem _ z)) e2
    exact ⟨by rw [e1, h1], h2⟩
theorem jl_one {ps : List (List Nat)} {a : List Nat} (hne : a ≠ []) (ha : 46 ∉ a) (e : jl ps = a) : ps = [a] := by
  match ps, e with
  | [], e => exact absurd e.symm hne
  | [x], e => rw [← show x = a from e]
  | x :: y :: r, e => exact absurd (by rw [← show x ++ 46 :: jl (y :: r) = a from e]; simp) ha
theorem jl_two {ps : List (List Nat)} {a b : List Nat} (hf : ∀ p ∈ ps, 46 ∉ p) (ha : 46 ∉ a) (hb : 46 ∉ b) (hne : b ≠ []) (e : jl ps = a ++ 46 :: b) : ps = [a, b] := by
  match ps, hf, e with
  | [], _, e => exact absurd e (by simp [jl])
  | [x], hf, e => exact absurd (by rw [show x = a ++ 46 :: b from e]; simp) (hf x List.mem_cons_self)
  | x :: y :: r, hf, e =>
    obtain ⟨h1, h2⟩ := cut_eq (hf x List.mem_cons_self) ha (show x ++ 46 :: jl (y :: r) = a ++ 46 :: b from e)
    rw [h1, jl_one hne hb h2]
theorem toL_join : ∀ ps : List Str, (Str.join ⟨#[46]⟩ ps).cps.toList = jl (ps.map fun p => p.cps.toList)
  | [] => rfl
  | [x] => rfl
  | x :: y :: r => by
    have ih := toL_join (y :: r)
    have e : Str.join ⟨#[46]⟩ (x :: y :: r) = x ++ ⟨#[46]⟩ ++ Str.join ⟨#[46]⟩ (y :: r) := rfl
    rw [e]
    show (x.cps ++ #[46] ++ (Str.join ⟨#[46]⟩ (y :: r)).cps).toList = _
    rw [Array.toList_append, Array.toList_append, ih]
    show x.cps.toList ++ [46] ++ jl (y.cps.toList :: r.map fun p => p.cps.toList) = x.cps.toList ++ 46 :: jl (y.cps.toList :: r.map fun p => p.cps.toList)
    rw [List.append_assoc]
    rfl
theorem dot_eq : PySem.Str.ofString "." = ⟨#[46]⟩ := by decide +kernel
theorem map_toL {ps : List Str} {ls : List (List Nat)} (h : ps.map (fun p => p.cps.toList) = ls) : ps = ls.map fun l => (⟨l.toArray⟩ : Str) := by
  rw [← h, List.map_map]
  have : ((fun l => (⟨l.toArray⟩ : Str)) ∘ fun p : Str => p.cps.toList) = id := by
    funext p
    obtain ⟨⟨l⟩⟩ := p
    rfl
  rw [this, List.map_id]
theorem split_jl (x : Str) : jl ((Txt.split x ⟨#[46]⟩).map fun p => p.cps.toList) = x.cps.toList := by
  rw [← toL_join, StrLaws.join_split]
theorem split_one {x : Str} (h : 46 ∉ x.cps.toList) (hne : x.cps.toList ≠ []) : Txt.split x ⟨#[46]⟩ = [x] := by
  have e := map_toL (jl_one hne h (split_jl x))
  rw [e]
  obtain ⟨⟨l⟩⟩ := x
  rfl
theorem split_two {x : Str} {a b : List Nat} (e : x.cps.toList = a ++ 46 :: b) (ha : 46 ∉ a) (hb : 46 ∉ b) (hne : b ≠ []) : Txt.split x ⟨#[46]⟩ = [⟨a.toArray⟩, ⟨b.toArray⟩] := by
  refine map_toL (jl_two (fun p hp => ?_) ha hb hne ((split_jl x).trans e))
  obtain ⟨q, hq, rfl⟩ := List.mem_map.mp hp
  exact StrLaws.split_free x 46 q hq
/-! ## Rounding -/
def ab (n : Int) : Int := if n < 0 then -n else n
def nu (n d s : Int) : Int := if n < 0 then -((2 * ab n * s + d) / (2 * d)) else (2 * ab n * s + d) / (2 * d)
theorem ab_nonneg (n : Int) : 0 ≤ ab n := by unfold ab; split <;> omega
theorem ab_nat (n : Int) : ab n = (n.natAbs : Int) := by unfold ab; split <;> omega
theorem nu_ab {n d s : Int} (hd : 0 < d) (hs : 0 < s) : ab (nu n d s) = (2 * ab n * s + d) / (2 * d) ∧ (nu n d s < 0 → n < 0) := by
  have h0 : 0 ≤ (2 * ab n * s + d) / (2 * d) := Int.ediv_nonneg (by have := Int.mul_nonneg (Int.mul_nonneg (by decide : (0:Int) ≤ 2) (ab_nonneg n)) (Int.le_of_lt hs); omega) (by omega)
  unfold nu
  generalize (2 * ab n * s + d) / (2 * d) = q at h0
  split
  · exact ⟨by unfold ab; split <;> omega, fun _ => by assumption⟩
  · exact ⟨by unfold ab; split <;> omega, fun h => by omega⟩
theorem nu_near {n d s : Int} (hd : 0 < d) (hs : 0 < s) : 2 * (ab (nu n d s) * d) ≤ 2 * (ab n * s) + d ∧ 2 * (ab n * s) < 2 * (ab (nu n d s) * d) + d := by
  rw [(nu_ab hd hs).1]
  have e := Int.mul_ediv_add_emod (2 * ab n * s + d) (2 * d)
  have r0 := Int.emod_nonneg (2 * ab n * s + d) (by omega : 2 * d ≠ 0)
  have r1 := Int.emod_lt_of_pos (2 * ab n * s + d) (by omega : 0 < 2 * d)
  generalize (2 * ab n * s + d) / (2 * d) = q at e
  generalize (2 * ab n * s + d) % (2 * d) = r at e r0 r1
  rw [Int.mul_assoc 2 d q, Int.mul_comm d q, Int.mul_assoc 2 (ab n) s] at e
  omega
/-- the same units again -/
theorem nu_again {u s a b : Int} (hs : 0 < s) (hb : 0 < b) (h : a * s = u * b) (hsg : (a < 0) ↔ (u < 0)) : nu a b s = u := by
  have e1 : ab a * s = ab u * b := by
    unfold ab
    by_cases z : a < 0
    · rw [if_pos z, if_pos (hsg.mp z), Int.neg_mul, Int.neg_mul, h]
    · rw [if_neg z, if_neg (fun q => z (hsg.mpr q)), h]
  have e2 : (2 * ab a * s + b) / (2 * b) = ab u := by
    have : 2 * ab a * s + b = b + 2 * b * ab u := by
      rw [Int.mul_assoc, e1, Int.mul_comm (ab u) b, ← Int.mul_assoc]
      omega
    rw [this, Int.add_mul_ediv_left _ _ (by omega : 2 * b ≠ 0), Int.ediv_eq_zero_of_lt (by omega) (by omega)]
    omega
  unfold nu
  rw [e2]
  unfold ab
  by_cases z : a < 0
  · rw [if_pos z, if_pos (hsg.mp z)]
    omega
  · rw [if_neg z, if_neg (fun q => z (hsg.mpr q))]
/-! ## What a decimal looks like -/
def tenP (p : Nat) : Nat := 10 ^ p
def decB (u : Int) (p : Nat) : List Nat := digs (u.natAbs / 10 ^ p) ++ (if p = 0 then [] else 46 :: zf p (u.natAbs % 10 ^ p))
def decL (u : Int) (p : Nat) : List Nat := (if u < 0 then [45] else []) ++ decB u p
end Lc
namespace Lc
open PySem PySem.Spec PyProof.Rows L2 PySem.NumText
theorem appL (x y : Str) : (x ++ y).cps.toList = x.cps.toList ++ y.cps.toList := by
  show (x.cps ++ y.cps).toList = _
  simp
theorem numL (m : Nat) : (PySem.Str.ofString (toString ((m : Nat) : Int))).cps.toList = digs m := W.KIN.signs_num m
theorem zfillL {a : Str} {k r : Nat} (h : a.cps.toList = digs r) : (Txt.zfill a (k : Int)).cps.toList = zf k r := by
  have ln : a.length = (digs r).length := by rw [lenL, h]
  unfold Txt.zfill
  by_cases z : (k : Int) ≤ a.length
  · rw [if_pos z, h]
    unfold zf
    rw [show k - (digs r).length = 0 by omega]
    rfl
  · rw [if_neg z]
    obtain ⟨c, rr, e, _⟩ := digs_head r
    have c0 : a.cps[0]? = some c := by
      rw [← Array.getElem?_toList, h, e]
      rfl
    have cd := digs_all r c (by rw [e]; exact List.mem_cons_self)
    have e2 : zfilled a ((k : Int).toNat - a.length) = Builtin.Str.padded a ((k : Int).toNat - a.length) 0 48 := by
      unfold zfilled
      rw [c0]
      split
      · rename_i q
        injection q with q
        omega
      · rename_i q
        injection q with q
        omega
      · rfl
    rw [e2]
    unfold Builtin.Str.padded zf
    show (Array.replicate ((k : Int).toNat - a.length) 48 ++ a.cps ++ Array.replicate 0 48).toList = _
    rw [Array.toList_append, Array.toList_append, Array.toList_replicate, Array.toList_replicate, h, ln]
    simp
theorem nu_le {n d s : Int} (hd : 0 < d) (hs : 0 < s) : ab (nu n d s) ≤ ab n * s := by
  have h := (nu_near (n := n) hd hs).1
  have N0 : 0 ≤ ab n * s := Int.mul_nonneg (ab_nonneg n) (Int.le_of_lt hs)
  generalize ab n * s = N at h N0
  generalize ab (nu n d s) = U at h
  rcases (by omega : N < U ∨ U ≤ N) with z | z
  · have a1 : (N + 1) * d ≤ U * d := Int.mul_le_mul_of_nonneg_right (by omega) (by omega)
    have a2 : N * 1 ≤ N * d := Int.mul_le_mul_of_nonneg_left (by omega) N0
    rw [Int.add_mul, Int.one_mul] at a1
    omega
  · exact z
inductive Pk (H : Hp) : V → Prop
  | ty {v : V} {t : String} (h : TyN H v t) (n : t ≠ "int") : Pk H v
  | out {k : Int} (h : k < 0 ∨ 9 < k) : Pk H (.int k)
theorem Pk.same {H H' : Hp} {v : V} (h : Pk H v) (s : Same H H') : Pk H' v := by
  cases h with
  | ty h n => exact .ty (h.same s) n
  | out h => exact .out h
theorem pad9 {k : Nat} (h : k ≤ 9) : PadOk (k : Int) = true := by
  have : ∀ k ≤ 9, PadOk ((k : Nat) : Int) = true := by decide +kernel
  exact this k h
theorem ten_pos (k : Nat) : (0 : Int) < 10 ^ k := Int.pow_pos (by decide)
theorem ten_small {k : Nat} (h : k ≤ 9) : ((10 : Int) ^ k).natAbs < 2 ^ 40 := by
  have : ∀ k ≤ 9, ((10 : Int) ^ k).natAbs < 2 ^ 40 := by decide +kernel
  exact this k h
end Lc
namespace Lc
open PySem PySem.Spec PyProof.Rows L2 PySem.NumText
theorem cut_first (x : Str) : (cutS x none (some 1)).cps.toList = x.cps.toList.take 1 := by
  have e : HT.sIx x.length 0 none = 0 := rfl
  have e2 : HT.sIx x.length x.length (some 1) = min 1 x.length := rfl
  unfold cutS
  rw [e, e2]
  show (x.cps.toList.drop 0).take (min 1 x.length - 0) = _
  rw [List.drop_zero, Nat.sub_zero, lenL]
  cases x.cps.toList with
  | nil => rfl
  | cons c r => simp
theorem cut_rest (x : Str) : (cutS x (some 1) none).cps.toList = x.cps.toList.drop 1 := by
  have e : HT.sIx x.length 0 (some 1) = min 1 x.length := rfl
  have e2 : HT.sIx x.length x.length none = x.length := rfl
  unfold cutS
  rw [e, e2]
  show (x.cps.toList.drop (min 1 x.length)).take (x.length - min 1 x.length) = _
  rw [lenL]
  cases x.cps.toList with
  | nil => rfl
  | cons c r => simp
theorem str_ext {x y : Str} (h : x.cps.toList = y.cps.toList) : x = y := by
  obtain ⟨⟨l⟩⟩ := x
  obtain ⟨⟨m⟩⟩ := y
  have : l = m := h
  rw [this]
theorem dec_head (u : Int) (k : Nat) : ∃ c r, decB u k = c :: r ∧ 48 ≤ c ∧ c ≤ 57 := by
  obtain ⟨c, r, e, _⟩ := digs_head (u.natAbs / 10 ^ k)
  have h := digs_all (u.natAbs / 10 ^ k) c (by rw [e]; exact List.mem_cons_self)
  exact ⟨c, _, by unfold decB; rw [e]; rfl, h.1, h.2⟩
theorem minus_is {x : Str} {u : Int} {k : Nat} (h : x.cps.toList = decL u k) : decide (V.str (cutS x none (some 1)) = V.str "-") = decide (u < 0) := by
  rw [Bool.eq_iff_iff, decide_eq_true_iff, decide_eq_true_iff]
  have e45 : (PySem.Str.ofString "-").cps.toList = [45] := by decide +kernel
  constructor
  · intro q
    injection q with q
    have z := cut_first x
    rw [q, h, e45] at z
    rcases (by omega : u < 0 ∨ ¬ u < 0) with g | g
    · exact g
    · obtain ⟨c, r, e, h1, h2⟩ := dec_head u k
      unfold decL at z
      rw [if_neg g, e] at z
      have : (45 : Nat) = c := by simpa using z
      omega
  · intro q
    have : cutS x none (some 1) = PySem.Str.ofString "-" := by
      apply str_ext
      rw [cut_first, h, e45]
      unfold decL
      rw [if_pos q]
      rfl
    rw [this]
theorem below_is {x : Str} {u : Int} {k : Nat} (h : x.cps.toList = decL u k) (n : u < 0) : (cutS x (some 1) none).cps.toList = decB u k := by
  rw [cut_rest, h]
  unfold decL
  rw [if_pos n]
  rfl
theorem digs_len_le {m : Nat} (h : m < 2 ^ 1100) : (digs m).length ≤ 1921 := by
  rw [← numL, ← lenL]
  refine int_text_len_1921 ?_
  rw [Int.natAbs_natCast]
  by_cases z : m = 0
  · rw [z]
    decide
  · exact Nat.lt_of_lt_of_le ((Nat.log2_lt z).mpr h) (by decide)
theorem decL_len {u : Int} {k : Nat} (h : u.natAbs < 2 ^ 1100) (k9 : k ≤ 9) : (decL u k).length ≤ 1940 ∧ (decB u k).length ≤ 1939 := by
  have h1 := digs_len_le (Nat.lt_of_le_of_lt (Nat.div_le_self u.natAbs (10 ^ k)) h)
  have h2 : (decB u k).length ≤ 1939 := by
    unfold decB
    rw [List.length_append]
    split
    · simp; omega
    · have := zf_len (p := k) (r := u.natAbs % 10 ^ k) (by omega) (Nat.mod_lt _ (Nat.pow_pos (by decide)))
      rw [List.length_cons, this]
      omega
  refine ⟨?_, h2⟩
  unfold decL
  rw [List.length_append]
  split
  · simp only [List.length_cons, List.length_nil]; omega
  · simp only [List.length_nil]; omega
theorem joinL_toL (ys : List Str) : (Txt.join (PySem.Str.ofString "") ys).cps.toList = (ys.map fun y => y.cps.toList).flatten := by
  have e : Txt.join (PySem.Str.ofString "") ys = Str.join Str.empty ys := (StrLaws.glued_eq_join (PySem.Str.ofString "") ys).trans rfl
  rw [e]
  have key : ∀ ys : List Str, (Str.join Str.empty ys).cps.toList = (ys.map fun y => y.cps.toList).flatten := by
    intro ys
    induction ys with
    | nil => rfl
    | cons x r ih =>
      cases r with
      | nil =>
        show x.cps.toList = _
        simp
      | cons y r =>
        have e : Str.join Str.empty (x :: y :: r) = x ++ Str.empty ++ Str.join Str.empty (y :: r) := rfl
        rw [e, appL, appL, ih]
        simp [Str.empty]
  exact key ys
def ten10 : Str := "0123456789"
theorem index_ten {c : Nat} (h : 48 ≤ c ∧ c ≤ 57) : Builtin.Str.occurrences ten10 ⟨#[c]⟩ 0 ten10.length 1 = [c - 48] := by
  have key : ∀ d < 10, Builtin.Str.occurrences ten10 ⟨#[48 + d]⟩ 0 ten10.length 1 = [d] := by decide +kernel
  have := key (c - 48) (by omega)
  rw [show 48 + (c - 48) = c by omega] at this
  exact this
theorem in_ten {c : Nat} (h : 48 ≤ c ∧ c ≤ 57) : decide (c ∈ ten10.cps.toList) = true := by
  have key : ∀ d < 10, decide (48 + d ∈ ten10.cps.toList) = true := by decide +kernel
  have := key (c - 48) (by omega)
  rw [show 48 + (c - 48) = c by omega] at this
  exact this
end Lc
set_option Elab.async false
set_option linter.all false
set_option maxRecDepth 100000
set_option maxHeartbeats 4000000
namespace K20
open PySem PySem.Spec PyProof.Rows L2 Lc
def top (i : Nat) : Stmt := PySem.Challenge.pw_liveclaims_k20_group_totals.main.body.getD i (.Pass ⟨0, 0, 0, 0⟩)
/-! ## is_whole, common_divisor, is_rational -/
abbrev sWhole : Stmt := top 8
abbrev sCd : Stmt := top 9
abbrev sIsR : Stmt := top 10
def spWhole : Sp := fun vs H Q _ => ∃ (v : V) (t : String), vs = [v] ∧ TyN H v t ∧ Q (.bl (t == "int")) H
def spCd : Sp := fun vs H Q _ => ∃ a b : Int, vs = [.int a, .int b] ∧ 0 ≤ a ∧ 0 ≤ b ∧ Q (.int (gd a b)) H
def spIsR : Sp := fun vs H Q _ => ∃ (v : V) (b : Bool), vs = [v] ∧ Rk H v b ∧ Q (.bl b) H
section
variable {P : Program} {w : World} {K : PySem.W.Frag} {mg : Str → Option Value} {base : Heap} {f C : Addr} {fd : FuncData}
theorem scWhole : FnScope ["value"] ["value"] (defScope sWhole) := ⟨rfl, rfl, rfl, by decide +kernel, rfl, by decide +kernel, by decide +kernel⟩
theorem ok_whole (F : Fun K "is_whole" "is_whole" sWhole f fd) (T : Bt mg) : FnOk P w K mg base CX0 1 f fd ["value"] spWhole := by
  refine F.ok scWhole (fun vs H Q E h => ?_) (fun cdv A outer s H vs Q E hr h => ?_)
  · obtain ⟨v, t, rfl, _⟩ := h
    rfl
  · obtain ⟨v, t, rfl, ty, k⟩ := h
    refine ⟨_, pss_one (ps_ret (pe_and (pe_callB call_isi (by rfl) T.isi boot_isinstance (pa_cons (pv 0) (pa_cons (pe_bltn (v := .ty "int") (by rfl) T.int boot_int rfl) pa_nil)))
      (pe_one (pe_not (pe_callB call_isi (by rfl) T.isi boot_isinstance (pa_cons (pv 0) (pa_cons (pe_bltn (v := .ty "bool") (by rfl) T.bool boot_bool rfl) pa_nil))))))), ?_⟩
    refine ⟨_, rfl, v, .ty "int", _, _, _, rfl, .ty "int", ty.x, kit_int ty.mem, _, rfl, ?_⟩
    refine ite2 (fun hi => ?_) (fun hi => ?_)
    · refine ⟨_, rfl, v, .ty "bool", _, _, _, rfl, .ty "bool", ty.x, kit_bool ty.mem, _, rfl, ?_⟩
      have e : (!(t == "bool")) = (t == "int") := by cases ty <;> first | rfl | exact absurd hi (by decide)
      show Q (.bl (!(t == "bool"))) H
      rw [e]
      exact k
    · have e : false = (t == "int") := by cases ty <;> first | rfl | exact absurd rfl hi
      show Q (.bl false) H
      rw [e]
      exact k
theorem scCd : FnScope ["a", "b"] ["a", "b"] (defScope sCd) := ⟨rfl, rfl, rfl, by decide +kernel, rfl, by decide +kernel, by decide +kernel⟩
theorem ok_cd (F : Fun K "common_divisor" "common_divisor" sCd f fd) : FnOk P w K mg base CX0 1 f fd ["a", "b"] spCd := by
  refine F.ok scCd (fun vs H Q E h => ?_) (fun cdv A outer s H vs Q E hr h => ?_)
  · obtain ⟨a, b, rfl, _⟩ := h
    rfl
  · obtain ⟨a, b, rfl, ha, hb, k⟩ := h
    refine ⟨_, pss_cons (ps_while PassesOwn.never (pt_cmpR op_ne (pv 1) pe_int (nomark _)) (pss_one (ps_par (i := 0) (j := 1) (by rfl) scCd.nd rfl rfl (by decide) rfl rfl (pa_cons (pv 1) (pa_cons (pe_op op_mod (pv 0) (pv 1)) pa_nil)) (by rfl))))
      (pss_one (ps_ret (pv 0))), ?_⟩
    refine ⟨fun m σ H' => ∃ a' b' : Int, σ = [some (.int a'), some (.int b')] ∧ 0 ≤ a' ∧ 0 ≤ b' ∧ b'.toNat = m ∧ gd a' b' = gd a b ∧ H' = H, ⟨_, a, b, rfl, ha, hb, rfl, rfl, rfl⟩, ?_⟩
    rintro m σ H' ⟨a', b', rfl, ha', hb', rfl, e, rfl⟩
    refine ⟨_, rfl, rfl, _, rfl, ?_⟩
    rw [show (decide (V.int b' = V.int 0)) = decide (b' = 0) from dec_int.trans (by rw [Bool.eq_iff_iff]; simp)]
    by_cases z : b' = 0
    · rw [decide_eq_true z]
      refine iteF ⟨_, rfl, ?_⟩
      rw [← e, z, gd_zero ha'] at k
      exact k
    · rw [decide_eq_false z]
      have pb : 0 < b' := by omega
      refine iteT ⟨fun σ' H'' => ∃ a2 b2 : Int, σ' = [some (.int a2), some (.int b2)] ∧ 0 ≤ a2 ∧ 0 ≤ b2 ∧ b2.toNat < b'.toNat ∧ gd a2 b2 = gd a b ∧ H'' = H', ?_, ?_⟩
      · rintro σ' H'' ⟨a2, b2, h1, h2, h3, h4, h5, h6⟩
        exact ⟨_, h4, a2, b2, h1, h2, h3, rfl, h5, h6⟩
      · refine ⟨_, rfl, _, rfl, _, rfl, _, _, rfl, rfl, pb, _, _, rfl, b', a' % b', rfl, hb', Int.emod_nonneg _ (by omega), ?_, ?_, rfl⟩
        · have := Int.emod_lt_of_pos a' pb
          have := Int.emod_nonneg a' (by omega : b' ≠ 0)
          omega
        · rw [gd_step ha' pb]
          exact e
theorem scIsR : FnScope ["value", "n", "d"] ["value"] (defScope sIsR) := ⟨rfl, rfl, rfl, by decide +kernel, rfl, by decide +kernel, by decide +kernel⟩
theorem ok_isr {fW fC : Addr} {fdW fdC : FuncData} (F : Fun K "is_rational" "is_rational" sIsR f fd) (T : Bt mg) (GW : FnOk P w K mg base CX0 1 fW fdW ["value"] spWhole) (mW : mg "is_whole" = some (.ref fW)) (kW : PySem.W.keepIn K (.ref fW) = true) (bW : Binds K fdW ["value"] [])
    (GC : FnOk P w K mg base CX0 1 fC fdC ["a", "b"] spCd) (mC : mg "common_divisor" = some (.ref fC)) (kC : PySem.W.keepIn K (.ref fC) = true) (bC : Binds K fdC ["a", "b"] []) : FnOk P w K mg base CX0 2 f fd ["value"] spIsR := by
  refine F.ok scIsR (fun vs H Q E h => ?_) (fun cdv A outer s H vs Q E hr h => ?_)
  · obtain ⟨v, b, rfl, _⟩ := h
    rfl
  · obtain ⟨v, b, rfl, hk, k⟩ := h
    refine ⟨_, pss_cons (ps_if (PW.pt (pw_or (pt_not (pt_val (pe_callB call_isi (by rfl) T.isi boot_isinstance (pa_cons (pv 0) (pa_cons (pe_bltn (v := .ty "tuple") (by rfl) T.tuple boot_tuple rfl) pa_nil)))))
        (pw_or1 (pt_cmpR op_ne (pe_callB call_len_seq (by rfl) T.len PySem.boot_len (pa_cons (pv 0) pa_nil)) pe_int (nomark _))))) (pss_one (ps_ret pe_bl)) pss_nil)
      (pss_cons (ps_asg (pv 0) (pg_tup rfl (pgs_cons (pg_name (i := 1) scIsR.nd rfl (.inl rfl)) (pgs_cons (pg_name (i := 2) scIsR.nd rfl (.inl rfl)) pgs_nil))))
      (pss_cons (ps_if (PW.pt (pw_or (pt_not (pt_val (pe_call GW hr (by rfl) mW kW bW .nil pass0 (pa_cons (pv 1) pa_nil)))) (pw_or (pt_not (pt_val (pe_call GW hr (by rfl) mW kW bW .nil pass0 (pa_cons (pv 2) pa_nil))))
        (pw_or1 (pt_cmpR op_lt (pv 2) pe_int (nomark _)))))) (pss_one (ps_ret pe_bl)) pss_nil)
      (pss_one (ps_ret (pe_cmpR op_eq (pe_call GC hr (by rfl) mC kC bC .nil pass0 (pa_cons (pe_callB call_abs (by rfl) T.abs boot_abs (pa_cons (pv 1) pa_nil)) (pa_cons (pv 2) pa_nil))) pe_int (nomark _)))))), ?_⟩
    cases hk with
    | @other _ t ty n =>
      refine ⟨_, rfl, v, .ty "tuple", _, _, _, rfl, .ty "tuple", ty.x, kit_tuple ty.mem, _, rfl, ?_⟩
      have e : (t == "tuple") = false := by simpa using n
      rw [e]
      exact iteT (iteT k)
    | @len a xs e n =>
      refine ⟨_, rfl, .ref a, .ty "tuple", _, _, _, rfl, .ty "tuple", (TyN.tup e).x, kit_tuple (by decide), _, rfl, ?_⟩
      refine iteF ⟨_, rfl, a, xs, rfl, .inr (SqT.of e), rfl, _, rfl, ?_⟩
      have z : decide (V.int (xs.length : Int) = V.int 2) = false := decide_eq_false (fun q => n (by injection q with q; omega))
      rw [z]
      exact iteT k
    | @pair a x y tx ty e hx hy =>
      refine ⟨_, rfl, .ref a, .ty "tuple", _, _, _, rfl, .ty "tuple", (TyN.tup e).x, kit_tuple (by decide), _, rfl, ?_⟩
      refine iteF ⟨_, rfl, a, _, rfl, .inr (SqT.of e), rfl, _, rfl, ?_⟩
      refine iteF ?_
      refine ⟨_, rfl, a, _, rfl, SqT.of e, rfl, _, _, rfl, _, _, rfl, rfl, ?_⟩
      refine ⟨_, rfl, x, tx, rfl, hx, _, rfl, ?_⟩
      by_cases ix : tx = "int"
      · obtain ⟨n, rfl⟩ := hx.isInt ix
        subst ix
        · refine iteF ⟨_, rfl, y, ty, rfl, hy, _, rfl, ?_⟩
          by_cases iy : ty = "int"
          · obtain ⟨d, rfl⟩ := hy.isInt iy
            subst iy
            · refine iteF ⟨_, rfl, _, _, rfl, rfl, _, rfl, ?_⟩
              by_cases hd : d < 1
              · rw [decide_eq_true hd]
                have z : ratB (.int n) (.int d) = false := by
                  show (decide (0 < d) && _) = false
                  rw [decide_eq_false (by omega : ¬ 0 < d)]
                  rfl
                rw [z] at k
                exact iteT k
              · rw [decide_eq_false hd]
                refine iteF ?_
                refine ⟨_, rfl, n, rfl, _, rfl, _, d, rfl, by split <;> omega, by omega, rfl, ?_⟩
                have z : ratB (.int n) (.int d) = decide (V.int (gd (if n < 0 then -n else n) d) = V.int 1) := by
                  show (decide (0 < d) && decide (gd n d = 1)) = _
                  rw [decide_eq_true (by omega : 0 < d), gd_abs]
                  rw [Bool.eq_iff_iff]
                  simp
                rw [z] at k
                exact k
          · have z : (ty == "int") = false := by simpa using iy
            have z2 : ratB (.int n) y = false := by
              cases hy <;> first | rfl | exact absurd rfl iy
            rw [z2] at k
            rw [z]
            exact iteT (iteT k)
      · have z : (tx == "int") = false := by simpa using ix
        have z2 : ratB x y = false := by
          cases hx <;> first | rfl | exact absurd rfl ix
        rw [z2] at k
        rw [z]
        exact iteT (iteT k)
end
abbrev sTape : Stmt := top 124
section
variable {P : Program} {w : World} {K : PySem.W.Frag} {mg : Str → Option Value} {base : Heap} {f : Addr} {fd : FuncData}
theorem scTape : FnScope ["_law_script"] ["_law_script"] (defScope sTape) := ⟨rfl, rfl, rfl, by decide +kernel, rfl, by decide +kernel, by decide +kernel⟩
theorem ok_tape (F : Fun K "_law_tape" "_law_tape" sTape f fd) (T : Bt mg) : FnOk P w K mg base CX0 1 f fd ["_law_script"] (spTape K) := by
  refine F.ok scTape (fun vs H Q E h => ?_) (fun cdv A outer s H vs Q E hr h => ?_)
  · obtain ⟨a, ns, rfl, _⟩ := h
    rfl
  · obtain ⟨a, ns, rfl, hS, k⟩ := h
    refine ⟨_, pss_one (ps_ret (pe_lst (pa_cons (pe_callTy call_list_of (by rfl) T.list boot_list (pa_cons (pe_slice sl_list (pv 0) po_none (po_some pe_int)) pa_nil)) (pa_cons pe_int (pa_cons pe_int (pa_cons pe_int pa_nil)))))), ?_⟩
    obtain ⟨ms, e⟩ := cut_ints ns none (some 63)
    refine ⟨_, rfl, _, rfl, a, _, rfl, hS, fun p hp => ⟨p, _, rfl, .inl (SqL.of upd_same), fun l hl => ⟨by show 4 ≤ sizeLine; decide, fun t ht => ?_⟩⟩⟩
    have s1 : Same H (upd H p (.lst (cutV (ns.map V.int) none (some 63)))) := Same.upd hp
    have s2 := Same.upd (o := .lst (cutV (ns.map V.int) none (some 63))) hl
    have s3 := Same.upd (o := .lst [.ref l, .int 0, .int 0, .int 17]) ht
    refine k t _ ((s1.trans s2).trans s3) ((s1.trans s2).free ht) ⟨l, ms, 0, 0, 17, upd_same, ?_, by decide, by decide, by decide, by decide⟩
    rw [← e]
    exact s3 _ _ upd_same
end
abbrev sDraw : Stmt := top 125
section
variable {P : Program} {w : World} {K : PySem.W.Frag} {mg : Str → Option Value} {base : Heap} {f : Addr} {fd : FuncData}
theorem scDraw : FnScope ["_law_tape_here", "_law_many", "_law_digit", "_law_cell", "_law_near"] ["_law_tape_here", "_law_many"] (defScope sDraw) := ⟨rfl, rfl, rfl, by decide +kernel, rfl, by decide +kernel, by decide +kernel⟩
theorem ok_draw (F : Fun K "_law_draw" "_law_draw" sDraw f fd) (T : Bt mg) : FnOk P w K mg base CX0 1 f fd ["_law_tape_here", "_law_many"] spDrawL := by
  refine F.ok scDraw (fun vs H Q E h => ?_) (fun cdv A outer s H vs Q E hr h => ?_)
  · obtain ⟨t, l, m, rfl, _⟩ := h
    rfl
  · obtain ⟨t, l, m, rfl, ⟨ns, pos, rest, mix, ht, hl, p0, r0, m0, m1⟩, hm, hm2, k⟩ := h
    refine ⟨_, pss_cons (ps_if (pt_cmpR op_gt (pe_ix ix_list (pv 0) pe_int (fun _ _ => rfl)) pe_int (nomark _))
        (pss_cons (ps_set (i := 2) scDraw.nd rfl (Or.inl rfl) (pe_op op_mod (pe_ix ix_list (pv 0) pe_int (fun _ _ => rfl)) (pv 1)))
        (pss_cons (ps_asg (pe_op op_fdivW (pe_ix ix_list (pv 0) pe_int (fun _ _ => rfl)) (pv 1)) (pg_sub (pv 0) pe_int set_list)) (pss_one (ps_ret (pv 2))))) pss_nil)
      (pss_cons (ps_set (i := 3) scDraw.nd rfl (Or.inl rfl) pe_int)
      (Evl.pss_cut (ps_if (pt_cmpR op_lt (pe_ix ix_list (pv 0) pe_int (fun _ _ => rfl)) (pe_callB call_len_seq (by rfl) T.len PySem.boot_len (pa_cons (pe_ix ix_list (pv 0) pe_int (fun _ _ => rfl)) pa_nil)) (nomark _))
        (pss_one (ps_set (i := 3) scDraw.nd rfl (Or.inl rfl) (pe_ix ix_list (pe_ix ix_list (pv 0) pe_int (fun _ _ => rfl)) (pe_ix ix_list (pv 0) pe_int (fun _ _ => rfl)) (fun _ _ => rfl)))) pss_nil)
      (pss_cons (ps_asg (pe_op op_add (pe_ix ix_list (pv 0) pe_int (fun _ _ => rfl)) pe_int) (pg_sub (pv 0) pe_int set_list))
      (pss_cons (ps_if (pt_cmpR op_ge (pv 3) (pe_op op_pow pe_int pe_int) (nomark _))
        (pss_cons (ps_asg (pe_op op_fdivW (pv 3) (pv 1)) (pg_sub (pv 0) pe_int set_list)) (pss_one (ps_ret (pe_op op_mod (pv 3) (pv 1))))) pss_nil)
      (pss_cons (ps_set (i := 4) scDraw.nd rfl (Or.inl rfl) (pe_op op_add (pe_op op_add (pe_op op_mod (pv 3) pe_int) (pe_op op_mul pe_int (pe_ix ix_list (pv 0) pe_int (fun _ _ => rfl)))) pe_int))
      (pss_cons (ps_asg (pe_op op_mod (pe_op op_add (pe_op op_mul (pe_ix ix_list (pv 0) pe_int (fun _ _ => rfl)) pe_int) (pv 4)) pe_int) (pg_sub (pv 0) pe_int set_list))
      (pss_one (ps_ret (pe_op op_mod (pe_op op_mod (pe_op op_pow (pe_ix ix_list (pv 0) pe_int (fun _ _ => rfl)) pe_int) pe_int) (pv 1)))))))))), ?_⟩
    have nl := tape_ne ht hl
    have dv : ∀ c : Int, CDivW c m := fun c => ⟨hm, log_lt' hm2⟩
    have M0 : (0 : Int) < 2147483647 := by decide
    refine ⟨_, rfl, t, _, _, _, rfl, rfl, SqL.of ht, rfl, _, _, rfl, rfl, _, rfl, ?_⟩
    refine ite2 (fun z => ?_) (fun z => ?_)
    · have z' : 0 < rest := of_decide_eq_true z
      refine ⟨_, rfl, t, _, _, _, rfl, rfl, SqL.of ht, rfl, _, rfl, _, _, rfl, rfl, hm, ?_⟩
      refine ⟨_, rfl, t, _, _, _, rfl, rfl, SqL.of ht, rfl, _, rfl, _, _, rfl, rfl, dv _, _, rfl, t, _, _, 2, rfl, rfl, ht, rfl, ?_⟩
      refine ⟨_, rfl, ?_⟩
      refine k _ _ (Int.emod_nonneg _ (by omega)) (Int.emod_lt_of_pos _ hm) ⟨ns, pos, rest / m, mix, upd_same, by rw [upd_ne nl]; exact hl, p0, Int.ediv_nonneg r0 (by omega), m0, m1⟩ SameB.upd
    · refine ⟨fun σ' H' => ∃ c : Int, σ' = [some (.ref t), some (.int m), none, some (.int c), none] ∧ H' = H, ?_, ?_⟩
      · refine ⟨_, rfl, t, _, _, _, rfl, rfl, SqL.of ht, rfl, _, rfl, t, _, _, _, rfl, rfl, SqL.of ht, rfl, l, _, rfl, .inl (SqL.of hl), _, _, rfl, rfl, _, rfl, ?_⟩
        refine ite2 (fun y => ?_) (fun y => ?_)
        · have y' : pos < ((ns.map V.int).length : Int) := of_decide_eq_true y
          rw [List.length_map] at y'
          have g : (ns.map V.int)[pos.toNat]? = some (.int (ns[pos.toNat]'(by omega))) := by
            rw [List.getElem?_map, List.getElem?_eq_getElem (by omega : pos.toNat < ns.length)]
            rfl
          exact ⟨_, rfl, t, _, _, _, rfl, rfl, SqL.of ht, rfl, _, rfl, t, _, _, _, rfl, rfl, SqL.of ht, rfl, l, _, _, _, rfl, rfl, SqL.of hl, at_of (by omega) g, _, rfl, rfl⟩
        · exact ⟨0, rfl, rfl⟩
      · rintro σ' H' ⟨c, rfl, rfl⟩
        refine ⟨_, rfl, t, _, _, _, rfl, rfl, SqL.of ht, rfl, _, _, rfl, rfl, _, rfl, t, _, _, 1, rfl, rfl, ht, rfl, ?_⟩
        refine ⟨_, rfl, _, _, rfl, rfl, ⟨by decide, by decide, by decide⟩, _, _, rfl, rfl, _, rfl, ?_⟩
        refine ite2 (fun y => ?_) (fun y => ?_)
        · have y' : (10 : Int) ^ (18 : Int).toNat ≤ c := of_decide_eq_true y
          have c0 : 0 ≤ c := Int.le_trans (by decide) y'
          refine ⟨_, rfl, _, rfl, _, _, rfl, rfl, dv _, _, rfl, t, _, _, 2, rfl, rfl, upd_same, rfl, ?_⟩
          refine ⟨_, rfl, _, rfl, _, _, rfl, rfl, hm, ?_⟩
          exact k _ _ (Int.emod_nonneg _ (by omega)) (Int.emod_lt_of_pos _ hm) ⟨ns, pos + 1, c / m, mix, upd_same, by rw [upd_ne nl, upd_ne nl]; exact hl, by omega, Int.ediv_nonneg c0 (by omega), m0, m1⟩ (SameB.upd.trans SameB.upd)
        · refine ⟨_, rfl, _, _, rfl, rfl, M0, _, rfl, t, _, _, _, rfl, rfl, SqL.of upd_same, rfl, _, _, rfl, rfl, .inl ⟨by decide, by decide⟩, _, _, rfl, rfl, _, _, rfl, rfl, ?_⟩
          refine ⟨_, rfl, t, _, _, _, rfl, rfl, SqL.of upd_same, rfl, _, _, rfl, rfl, .inl ⟨by omega, by omega⟩, _, rfl, _, _, rfl, rfl, _, _, rfl, rfl, M0, _, rfl, t, _, _, 3, rfl, rfl, upd_same, rfl, ?_⟩
          have q0 := Int.emod_nonneg (mix * 48271 + (c % 2147483647 + 7919 * (pos + 1) + 11)) (by decide : (2147483647 : Int) ≠ 0)
          have q1 := Int.emod_lt_of_pos (mix * 48271 + (c % 2147483647 + 7919 * (pos + 1) + 11)) M0
          refine ⟨_, rfl, t, _, _, _, rfl, rfl, SqL.of upd_same, rfl, _, _, rfl, rfl, ⟨by decide, by decide, ?_⟩, _, _, rfl, rfl, M0, _, rfl, _, _, rfl, rfl, hm, ?_⟩
          · omega
          · exact k _ _ (Int.emod_nonneg _ (by omega)) (Int.emod_lt_of_pos _ hm) ⟨ns, pos + 1, rest, _, upd_same, by rw [upd_ne nl, upd_ne nl]; exact hl, by omega, r0, q0, q1⟩ (SameB.upd.trans SameB.upd)
end
abbrev sLst : Stmt := top 126
section
variable {P : Program} {w : World} {K : PySem.W.Frag} {mg : Str → Option Value} {base : Heap} {f : Addr} {fd : FuncData}
theorem scLst : FnScope ["_law_n", "_law_d", "_law_a", "_law_b", "_law_rest"] ["_law_n", "_law_d"] (defScope sLst) := ⟨rfl, rfl, rfl, by decide +kernel, rfl, by decide +kernel, by decide +kernel⟩
theorem ok_lst (F : Fun K "_law_lowest" "_law_lowest" sLst f fd) (T : Bt mg) : FnOk P w K mg base CX0 1 f fd ["_law_n", "_law_d"] spLowest := by
  refine F.ok scLst (fun vs H Q E h => ?_) (fun cdv A outer s H vs Q E hr h => ?_)
  · obtain ⟨n, d, rfl, _⟩ := h
    rfl
  · obtain ⟨n, d, rfl, hd, hd2, k⟩ := h
    refine ⟨_, pss_cons (ps_set (i := 2) scLst.nd rfl (Or.inl rfl) (pe_callB call_abs (by rfl) T.abs boot_abs (pa_cons (pv 0) pa_nil)))
      (pss_cons (ps_set (i := 3) scLst.nd rfl (Or.inl rfl) (pv 1))
      (pss_cons (ps_while PassesOwn.never (pt_cmpR op_gt (pv 3) pe_int (nomark _))
        (pss_cons (ps_set (i := 4) scLst.nd rfl (Or.inl rfl) (pe_op op_mod (pv 2) (pv 3))) (pss_cons (ps_set (i := 2) scLst.nd rfl (Or.inl rfl) (pv 3)) (pss_one (ps_set (i := 3) scLst.nd rfl (Or.inl rfl) (pv 4))))))
      (pss_one (ps_ret (pe_tup (pa_cons (pe_op op_fdivW (pv 0) (pv 2)) (pa_cons (pe_op op_fdivW (pv 1) (pv 2)) pa_nil))))))), ?_⟩
    refine ⟨_, rfl, n, rfl, _, rfl, ?_⟩
    refine ⟨fun m σ H' => ∃ (a' b' : Int) (r : Option V), σ = [some (.int n), some (.int d), some (.int a'), some (.int b'), r] ∧ 0 ≤ a' ∧ 0 ≤ b' ∧ b'.toNat = m ∧ gd a' b' = gd n d ∧ H' = H, ⟨_, _, d, none, rfl, by split <;> omega, by omega, rfl, gd_abs n d, rfl⟩, ?_⟩
    rintro m σ H' ⟨a', b', r, rfl, ha', hb', rfl, e, rfl⟩
    refine ⟨_, rfl, _, _, rfl, rfl, _, rfl, ?_⟩
    refine ite2 (fun z => ?_) (fun z => ?_)
    · have pb : 0 < b' := of_decide_eq_true z
      refine ⟨fun σ' H'' => ∃ (a2 b2 : Int) (r : Option V), σ' = [some (.int n), some (.int d), some (.int a2), some (.int b2), r] ∧ 0 ≤ a2 ∧ 0 ≤ b2 ∧ b2.toNat < b'.toNat ∧ gd a2 b2 = gd n d ∧ H'' = H', ?_, ?_⟩
      · rintro σ' H'' ⟨a2, b2, r2, h1, h2, h3, h4, h5, h6⟩
        exact ⟨_, h4, a2, b2, r2, h1, h2, h3, rfl, h5, h6⟩
      · refine ⟨_, rfl, _, rfl, _, _, rfl, rfl, pb, _, rfl, _, rfl, b', a' % b', _, rfl, hb', Int.emod_nonneg _ (by omega), ?_, ?_, rfl⟩
        · have := Int.emod_lt_of_pos a' pb
          have := Int.emod_nonneg a' (by omega : b' ≠ 0)
          omega
        · rw [gd_step ha' pb]
          exact e
    · have zb : ¬ 0 < b' := fun q => z (decide_eq_true q)
      have z0 : b' = 0 := by omega
      rw [z0, gd_zero ha'] at e
      subst e
      have g0 : 0 < gd n d := gd_pos (by omega)
      have gl : (gd n d).natAbs < 2 ^ 4000 := Nat.lt_of_le_of_lt (gd_natAbs_le (by omega)) hd2
      exact ⟨_, rfl, _, rfl, _, _, rfl, rfl, ⟨g0, log_lt' gl⟩, _, rfl, _, rfl, _, _, rfl, rfl, ⟨g0, log_lt' gl⟩, by show 2 ≤ sizeLine; decide, k⟩
end
abbrev sName : Stmt := top 25
section
variable {P : Program} {w : World} {K : PySem.W.Frag} {mg : Str → Option Value} {base : Heap} {f : Addr} {fd : FuncData} {u1 u2 : Tok} {u3 : Tok}
theorem scName : FnScope ["value", "sign"] ["value"] (defScope sName) := ⟨rfl, rfl, rfl, by decide +kernel, rfl, by decide +kernel, by decide +kernel⟩
theorem ok_name (F : Fun K "is_name" "is_name" sName f fd) (T : Bt mg) (m1 : mg "LETTERS" = some (.str letters u1)) (m2 : mg "NAME_SIGNS" = some (.str signs u2)) (m3 : mg "LONGEST_NAME" = some (.int 12 u3)) : FnOk P w K mg base CX0 1 f fd ["value"] spName := by
  refine F.ok scName (fun vs H Q E h => ?_) (fun cdv A outer s H vs Q E hr h => ?_)
  · obtain ⟨v, t, rfl, _⟩ := h
    rfl
  · obtain ⟨v, t, rfl, ty, hl, k⟩ := h
    refine ⟨_, pss_cons (ps_if (PW.pt (pw_or (pt_not (pt_val (pe_callB call_isi (by rfl) T.isi boot_isinstance (pa_cons (pv 0) (pa_cons (pe_bltn (v := .ty "str") (by rfl) T.str boot_str rfl) pa_nil))))) (pw_or (pt_cmpR op_eq (pv 0) pe_str (nomark _))
        (pw_or1 (pt_cmpR op_gt (pe_callB call_len_str (by rfl) T.len PySem.boot_len (pa_cons (pv 0) pa_nil)) (pe_glob (v := .int 12) (by rfl) m3 ⟨_, rfl⟩) (nomark _)))))) (pss_one (ps_ret pe_bl)) pss_nil)
      (pss_one (ps_ret (pe_and (pe_cmpR op_in_sign (pe_ix ix_str (pv 0) pe_int (fun _ _ => rfl)) (pe_glob (v := .str letters) (by rfl) m1 ⟨_, rfl⟩) (by rfl))
        (pe_one (pe_callB (cr_all rfl) (by rfl) T.all (by decide +kernel) (pa_cons (pe_lc (own := [("sign", 1)]) (g := gName 1) (tt := tYes) (te := tOp Lc.rInS (tVar 1) (tC (.str signs))) (by rfl) scName.nd (pi_str (pv 0)) (blkOk_by (own := [("sign", 1)]) (N := ["value", "sign"]) (sc := defScope sName) (by decide +kernel))
          (fun _ _ _ _ _ => pg_name (i := 1) scName.nd rfl (Or.inl rfl)) (fun _ _ _ _ _ => pts_nil) (fun _ _ _ _ _ => pe_cmpR op_in_sign (pv 1) (pe_glob (v := .str signs) (by rfl) m2 ⟨_, rfl⟩) (by rfl))) pa_nil)))))), ?_⟩
    refine ⟨_, rfl, v, .ty "str", _, _, _, rfl, .ty "str", ty.x, kit_str ty.mem, _, rfl, ?_⟩
    by_cases ts : t = "str"
    · obtain ⟨x, rfl⟩ := ty.isStr ts
      subst ts
      have hx := hl x rfl
      refine iteF ⟨_, rfl, rfl, _, rfl, ?_⟩
      rw [dec_empty]
      cases e : x.cps.toList with
      | nil =>
        rw [decide_eq_true rfl]
        have k0 := k H (Same.refl H)
        rw [name_nil e] at k0
        exact iteT (iteT k0)
      | cons c r =>
        rw [decide_eq_false (by simp)]
        refine iteF ⟨_, rfl, x, rfl, hx, _, _, rfl, rfl, _, rfl, ?_⟩
        rw [lenL x]
        by_cases l12 : x.cps.toList.length ≤ 12
        · rw [decide_eq_false (by omega)]
          refine iteF ?_
          have ni := name_is e l12
          refine ⟨_, rfl, x, 0, c, rfl, rfl, hx, (show atI x.cps.toList ((0 : Nat) : Int) = some c from atI_nat (by rw [e]; rfl)), c, letters, rfl, rfl, _, rfl, ?_⟩
          show if inL c = true then _ else _
          refine ite2 (fun z => ?_) (fun z => ?_)
          · refine ⟨_, rfl, x, rfl, fun D hD => lc_it walk_str (fun i H' => H' = upd H D (.lst ((x.cps.toList.take i).map fun c => .bl (inS c)))) rfl (fun _ _ _ _ => True.intro) ?_ ?_⟩
            · rintro i y H' H'' hi rfl ⟨rfl, c', hc', rfl⟩
              refine ⟨rfl, ?_⟩
              change tOp Lc.rInS (tVar 1) (tC (.str signs)) _ _ _
              refine ⟨_, rfl, c', signs, rfl, rfl, _, upd_same, ?_, ?_⟩
              · rw [List.length_map, List.length_take]
                exact Nat.lt_of_le_of_lt (Nat.min_le_right _ _) (Nat.lt_of_le_of_lt l12 (by decide))
              · rw [upd_upd]
                exact congrArg (fun z => upd H D (.lst z)) (grow hc' inS)
            · rintro H' rfl
              have ez : x.cps.size = x.cps.toList.length := by simp
              refine ⟨D, x.cps.toList.map inS, rfl, SqL.of (by rw [upd_same, ez, List.take_length, List.map_map]; rfl), ?_⟩
              have k1 := k _ (Same.upd (o := .lst ((x.cps.toList.take x.cps.size).map fun c => .bl (inS c))) hD)
              rw [ni, z, ← e] at k1
              rw [List.all_map]
              exact k1
          · have k0 := k H (Same.refl H)
            rw [ni, show inL c = false by simpa using z] at k0
            exact k0
        · rw [decide_eq_true (by omega)]
          have k0 := k H (Same.refl H)
          rw [name_long l12] at k0
          exact iteT k0
    · have z : (t == "str") = false := by simpa using ts
      rw [z]
      have k0 := k H (Same.refl H)
      have nb : nameB v = false := by cases ty <;> first | rfl | exact absurd rfl ts
      rw [nb] at k0
      exact iteT (iteT k0)
end
end K20
set_option Elab.async false
set_option linter.all false
set_option maxRecDepth 100000
set_option maxHeartbeats 4000000
namespace Lc
open PySem PySem.Spec PyProof.Rows L2 He
/-! ## The head's facts, with one more Bool -/
abbrev AlE : Type := AlD × Bool
def obsE (n : Nat) (fa : List Fa) (fn : List DefD) (ex : PySem.W.Frag → Bool) (g : Addr → Option Obj) : AlE := (obsD fa fn (frG g (asD g n)), ex (frG g (asD g n)))
def hookE (n : Nat) (fa : List Fa) (fn : List DefD) (ex : PySem.W.Frag → Bool) : PySem.W.Hook where
  α := AlE
  obs := fun s => obsE n fa fn ex s.heap.get?
  val := fun _ => (valD fn, true)
  says := fun _ h => ∃ K : PySem.W.Frag, K.In h ∧ SaysD fa fn K ∧ ex K = true
  of := fun _ _ e => ⟨_, frG_in, congrArg (fun z : AlE => z.1) e, congrArg (fun z : AlE => z.2) e⟩
  keeps := fun _ _ _ ⟨K, hK, c⟩ k => ⟨K, PySem.W.Frag.In.keeps hK k, c⟩
theorem obsE_eq {n : Nat} {fa : List Fa} {fn : List DefD} {ex : PySem.W.Frag → Bool} {g : Addr → Option Obj} {s : Shared} (h : ∀ a, g a = s.heap.get? a) : obsE n fa fn ex g = (hookE n fa fn ex).obs s := by
  have e : g = s.heap.get? := funext h
  rw [e] <;> rfl
/-! ## What is asked of the error classes -/
def optB (a b : Option Bool) : Bool := decide (a = b)
def optV (a b : Option Value) : Bool := decide (a = b)
def oexB (K : PySem.W.Frag) (C : Addr) : Bool := (match K.lookup C with
  | some ⟨.type "type", _, .cls cd, sl⟩ => (match cd.mro, sl.toList with
    | .ref C' :: bm, [_, _, _, _, some (.builtin n), _] => C' == C && n == "ValueError.__new__" && !cd.hasDel && cd.hasDict && PySem.HandSPX.refsVE bm
    | _, _ => false)
  | _ => false) && (eqO (PySem.W.findIn K (.ref C) "__setattr__") (some (some (.builtin "object.__setattr__"))) && (optB (PySem.W.subIn K (.ref C) (.type "BaseException")) (some true) && (optV (PySem.W.typeIn K (.ref C)) (some (.type "type")) && PySem.W.keepIn K (.ref C))))
theorem oexB_ok {K : PySem.W.Frag} {C : Addr} (h : oexB K C = true) : OexC K C := by
  obtain ⟨q, h⟩ := ba h
  obtain ⟨h1, h⟩ := ba h
  obtain ⟨h2, h⟩ := ba h
  obtain ⟨h3, h4⟩ := ba h
  refine ⟨?_, eqO_ok h1, of_decide_eq_true h2, of_decide_eq_true h3, h4⟩
  split at q
  · rename_i dd cd sl ho
    split at q
    · rename_i C' bm k0 k1 k2 k3 n k5 hm hs
      simp only [Bool.and_eq_true, beq_iff_eq, Bool.not_eq_true'] at q
      obtain ⟨⟨⟨⟨rfl, rfl⟩, hdel⟩, hdi⟩, ht⟩ := q
      obtain ⟨nm, bs, mro, ns, qn, hd, sn, sub, ab, col, del⟩ := cd
      dsimp only at hm hdel hdi
      subst hm hdel hdi
      have hsl : sl = #[k0, k1, k2, k3, some (.builtin "ValueError.__new__"), k5] := by
        obtain ⟨l⟩ := sl
        simp only at hs
        rw [hs]
      subst hsl
      exact ⟨nm, qn, ns, bs, bm, sn, sub, ab, col, dd, k0, k1, k2, k3, k5, ho, ht⟩
    · cases q
  · cases q
def xisB (K : PySem.W.Frag) (C : Addr) : Bool := (PySem.W.clsIn K C).isSome && (eqO (PySem.W.findIn K (.ref C) "__getattribute__") (some (some (.builtin "BaseException.__getattribute__"))) && (eqO (PySem.W.findIn K (.ref C) "__getattr__") (some none) &&
  (optB (PySem.W.subIn K (.ref C) (.type "BaseException")) (some true) && (eqO (PySem.W.findIn K (.ref C) "__class__") (some (some (.builtin "object.__class__"))) && (eqO (PySem.W.specialIn K (.builtin "object.__class__") "__get__") (some (some (.builtin "getset_descriptor.__get__"))) &&
  (optB (PySem.W.takesIn K (.builtin "object.__class__")) (some true) && optB (PySem.W.mroIn K C (.type "object")) (some true)))))))
theorem xisB_ok {K : PySem.W.Frag} {C : Addr} (h : xisB K C = true) : XisC K C := by
  obtain ⟨h1, h⟩ := ba h
  obtain ⟨h2, h⟩ := ba h
  obtain ⟨h3, h⟩ := ba h
  obtain ⟨h4, h⟩ := ba h
  obtain ⟨h5, h⟩ := ba h
  obtain ⟨h6, h⟩ := ba h
  obtain ⟨h7, h8⟩ := ba h
  exact ⟨h1, eqO_ok h2, eqO_ok h3, of_decide_eq_true h4, eqO_ok h5, eqO_ok h6, of_decide_eq_true h7, of_decide_eq_true h8⟩
/-- a def without defaults -/
theorem fun_of {K : PySem.W.Frag} {x qual : Str} {st : Stmt} {f : Addr} {fd : FuncData} (F : FunD K x qual (defArgs st) (defBody st) (defScope st) [] [] f fd) : Fun K x qual st f fd := by
  obtain ⟨oc, od, dV, kV, doc, pm, an, cdv, ct, osl, rfl, lk, hcd, hD, hK⟩ := F.ex
  rcases hD with ⟨_, rfl⟩ | ⟨e, _⟩
  · exact ⟨⟨oc, od, kV, doc, pm, an, cdv, ct, osl, rfl, lk, hcd⟩, F.kp⟩
  · exact absurd rfl e
/-! ## The end of a law whose defs are promised where no repr is under way -/
theorem walk_GE {l : PySem.W.OpenLaw} {n k : Nat} {q : Program} {loose : List Str} {XP : (Str → Option Value) → Heap → Prop} {YP : World → Heap → Prop} {d : DefRec} {x : Str}
    (hn : l.most = some n) (hn2 : n ≤ sizeLine) (hdf : d.params.defaults = []) (hr : Room k callerA)
    (F : ∀ (w : World) (mg : Str → Option Value) (fa : Addr) (h : Heap), YP w h → h.Ns mainGlobals mg → mg d.name = some (.ref fa) →
      ∃ (K : PySem.W.Frag) (fd : FuncData) (sp : Sp), K.In h ∧ (∀ (s : Shared) (u : Value), BindsTo s fd ⟨[u], []⟩ [(x, u)]) ∧
        (∀ (H : Hp) (a : Addr) (ns : List Int), ns.length ≤ n → SqL K H a (ns.map V.int) → sp [.ref a] H (fun v _ => v = .bl true) fun _ _ _ => False) ∧
        ∀ base : Heap, K.In base → base.Ns mainGlobals mg → FnG l.prog w K mg base k fa fd [x] sp) :
    PySem.W.WalkO q loose XP YP l.row.toRowW d [] (fun f vs => PySem.call f vs) := by
  refine Att.attach_call hn hdf fun w _ s mg mb fa _ _ _ _ a vs ns G Y _ _ _ hmg hobj hints hlen hg => ?_
  obtain ⟨K, fd, sp, KX, hb, hsp, hF⟩ := F w mg fa _ Y G.T.g hmg
  exact law_callG KX G.T.g G.T.b G.T.builtins G.T.nolimit hg hobj hints (Nat.le_trans hlen hn2) hr hF hb fun H hS => hsp H a ns hlen hS
end Lc
namespace Lc
theorem all_at {l : List Bool} (h : l.all id = true) (i : Nat) {b : Bool} (e : l[i]? = some b := by rfl) : b = true := List.all_eq_true.mp h b (List.mem_of_getElem? e)
end Lc
set_option Elab.async false
set_option linter.all false
set_option maxRecDepth 100000
set_option maxHeartbeats 4000000
namespace Lc
open PySem PySem.Spec PyProof.Rows L2 He
/-! ## The head's facts, with dicts of the module that have text keys -/
abbrev AlF : Type := AlE × List (Option (List (Option (Str × Int))))
def obsF (n : Nat) (fa : List Fa) (fn : List DefD) (ex : PySem.W.Frag → Bool) (ts : List Tab) (g : Addr → Option Obj) : AlF := (obsE n fa fn ex g, ts.map fun t => dicW (frG g (asD g n)) (t.1 (frG g (asD g n))))
def TabsOk (ts : List Tab) (w : World) (K : PySem.W.Frag) : Prop := ∀ (i : Nat) (t : Tab), ts[i]? = some t → ∃ es n, KDict K w (t.1 K) es n
theorem tabs_of {ts : List Tab} {w : World} {K : PySem.W.Frag} (e : ts.map (fun t => dicW K (t.1 K)) = ts.map fun t => some (keysIn w.params t.2)) : TabsOk ts w K := by
  intro i t h
  have e2 : (ts.map fun t => dicW K (t.1 K))[i]? = (ts.map fun t => some (keysIn w.params t.2))[i]? := congrArg (fun l => l[i]?) e
  rw [List.getElem?_map, h, List.getElem?_map, h] at e2
  exact dicW_ok (Option.some.inj e2)
def hookF (n : Nat) (fa : List Fa) (fn : List DefD) (ex : PySem.W.Frag → Bool) (ts : List Tab) : PySem.W.Hook where
  α := AlF
  obs := fun s => obsF n fa fn ex ts s.heap.get?
  val := fun w => ((valD fn, true), ts.map fun t : Tab => some (keysIn w.params t.2))
  says := fun w h => ∃ K : PySem.W.Frag, K.In h ∧ SaysD fa fn K ∧ ex K = true ∧ TabsOk ts w K
  of := fun _ _ e => ⟨_, frG_in, congrArg (fun z : AlF => z.1.1) e, congrArg (fun z : AlF => z.1.2) e, tabs_of (show _ = _ from congrArg (fun z : AlF => z.2) e)⟩
  keeps := fun _ _ _ ⟨K, hK, c⟩ k => ⟨K, PySem.W.Frag.In.keeps hK k, c⟩
theorem obsF_eq {n : Nat} {fa : List Fa} {fn : List DefD} {ex : PySem.W.Frag → Bool} {ts : List Tab} {g : Addr → Option Obj} {s : Shared} (h : ∀ a, g a = s.heap.get? a) : obsF n fa fn ex ts g = (hookF n fa fn ex ts).obs s := by
  have e : g = s.heap.get? := funext h
  rw [e] <;> rfl
/-! ## what stands in such a dict -/
def atD (K : PySem.W.Frag) (d : Addr) (x : Str) : Addr := match PySem.W.nsIn K d x with
  | some (some (.ref a)) => a
  | _ => 0
def tupA (K : PySem.W.Frag) (a : Addr) (vs : List Dv) : Bool := match K.lookup a with
  | some ⟨.type c, _, .seq its _, _⟩ => decide (c = "tuple") && (decide (its.size ≤ sizeLine) && relAll (vs.map (Dv.v K)) its.toList)
  | _ => false
theorem tupA_ok {K : PySem.W.Frag} {a : Addr} {vs : List Dv} (h : tupA K a vs = true) (H : Hp) : SqT K H a (vs.map (Dv.v K)) := by
  unfold tupA at h
  split at h
  · rename_i c od its n osl q
    obtain ⟨h1, h2⟩ := ba h
    obtain ⟨h3, h4⟩ := ba h2
    exact .inr ⟨_, its, n, q, congrArg Value.type (of_decide_eq_true h1), rfl, of_decide_eq_true h3, relAll_ok h4⟩
  · cases h
/-- at the key x a tuple of these -/
def dtB (K : PySem.W.Frag) (d : Addr) (x : Str) (vs : List Dv) : Bool := eqO (PySem.W.nsIn K d x) (some (some (.ref (atD K d x)))) && tupA K (atD K d x) vs
theorem kdct_of {K : PySem.W.Frag} {w : World} {d a : Addr} {x : Str} (D : ∃ es n, KDict K w d es n) (h : PySem.W.nsIn K d x = some (some (.ref a))) : KDct K w d x (.ref a) := by
  obtain ⟨es, n, D⟩ := D
  exact ⟨es, n, _, D.at_, D.lit, h, rfl⟩
theorem dt_ok {K : PySem.W.Frag} {w : World} {d : Addr} {x : Str} {vs : List Dv} (D : ∃ es n, KDict K w d es n) (h : dtB K d x vs = true) : ∃ a, KDct K w d x (.ref a) ∧ PySem.W.nsIn K d x = some (some (.ref a)) ∧ ∀ H, SqT K H a (vs.map (Dv.v K)) := by
  obtain ⟨h1, h2⟩ := ba h
  exact ⟨_, kdct_of D (eqO_ok h1), eqO_ok h1, fun H => tupA_ok h2 H⟩
/-- at the key x the def y -/
def dfB (K : PySem.W.Frag) (d : Addr) (x y : Str) : Bool := eqO (PySem.W.nsIn K d x) (some (some (.ref (ga K y))))
def dnB (K : PySem.W.Frag) (d : Addr) (x : Str) : Bool := eqO (PySem.W.nsIn K d x) (some none)
end Lc
set_option Elab.async false
set_option linter.all false
set_option maxRecDepth 100000
set_option maxHeartbeats 4000000
namespace Lc
open PySem PySem.Spec PyProof.Rows L2 He
/-! ## The head's facts from a few globals alone: what is reached from the named ones, but not through the globals' own dict -/
def growN (g : Addr → Option Obj) (as : List Addr) : List Addr := ((as ++ as.flatMap fun a => match g a with
  | some o => refsD o
  | none => []).filter fun a => !Nat.beq a mainGlobals).eraseDups
def asN (names : List Str) (g : Addr → Option Obj) : Nat → List Addr
  | 0 => (names.map fun x => ga (frG g [mainGlobals]) x).eraseDups
  | n + 1 => growN g (asN names g n)
def asM (sm : Bool) (names : List Str) (g : Addr → Option Obj) (n : Nat) : List Addr := mainGlobals :: (if sm = true then [sysModules] else []) ++ asN names g n
def obsK (fa : List Fa) (fn : List DefD) (ex : PySem.W.Frag → Bool) (ts : List Tab) (K : PySem.W.Frag) : AlF := ((obsD fa fn K, ex K), ts.map fun t => dicW K (t.1 K))
def obsN (sm : Bool) (names : List Str) (n : Nat) (fa : List Fa) (fn : List DefD) (ex : PySem.W.Frag → Bool) (ts : List Tab) (g : Addr → Option Obj) : AlF := obsK fa fn ex ts (frG g (asM sm names g n))
def hookN (sm : Bool) (names : List Str) (n : Nat) (fa : List Fa) (fn : List DefD) (ex : PySem.W.Frag → Bool) (ts : List Tab) : PySem.W.Hook where
  α := AlF
  obs := fun s => obsN sm names n fa fn ex ts s.heap.get?
  val := fun w => ((valD fn, true), ts.map fun t : Tab => some (keysIn w.params t.2))
  says := fun w h => ∃ K : PySem.W.Frag, K.In h ∧ SaysD fa fn K ∧ ex K = true ∧ TabsOk ts w K
  of := fun _ _ e => ⟨_, frG_in, congrArg (fun z : AlF => z.1.1) e, congrArg (fun z : AlF => z.1.2) e, tabs_of (show _ = _ from congrArg (fun z : AlF => z.2) e)⟩
  keeps := fun _ _ _ ⟨K, hK, c⟩ k => ⟨K, PySem.W.Frag.In.keeps hK k, c⟩
theorem obsN_eq {sm : Bool} {names : List Str} {n : Nat} {fa : List Fa} {fn : List DefD} {ex : PySem.W.Frag → Bool} {ts : List Tab} {g : Addr → Option Obj} {s : Shared} (h : ∀ a, g a = s.heap.get? a) : obsN sm names n fa fn ex ts g = (hookN sm names n fa fn ex ts).obs s := by
  have e : g = s.heap.get? := funext h
  rw [e] <;> rfl
theorem smN_of {K : PySem.W.Frag} (h : (K.lookup sysModules).isSome = true) : ∃ o, K.lookup sysModules = some o := Option.isSome_iff_exists.mp h
end Lc
set_option Elab.async false
set_option linter.all false
set_option maxRecDepth 100000
set_option maxHeartbeats 4000000
namespace Lc
open PySem PySem.Spec PyProof.Rows L2 He
/-! ## The head's facts from a written list of addresses -/
def obsA (as : List Addr) (fa : List Fa) (fn : List DefD) (ex : PySem.W.Frag → Bool) (ts : List Tab) (g : Addr → Option Obj) : AlF := obsK fa fn ex ts (frG g (mainGlobals :: as))
def hookA (as : List Addr) (fa : List Fa) (fn : List DefD) (ex : PySem.W.Frag → Bool) (ts : List Tab) : PySem.W.Hook where
  α := AlF
  obs := fun s => obsA as fa fn ex ts s.heap.get?
  val := fun w => ((valD fn, true), ts.map fun t : Tab => some (keysIn w.params t.2))
  says := fun w h => ∃ K : PySem.W.Frag, K.In h ∧ SaysD fa fn K ∧ ex K = true ∧ TabsOk ts w K
  of := fun _ _ e => ⟨_, frG_in, congrArg (fun z : AlF => z.1.1) e, congrArg (fun z : AlF => z.1.2) e, tabs_of (show _ = _ from congrArg (fun z : AlF => z.2) e)⟩
  keeps := fun _ _ _ ⟨K, hK, c⟩ k => ⟨K, PySem.W.Frag.In.keeps hK k, c⟩
theorem obsA_eq {as : List Addr} {fa : List Fa} {fn : List DefD} {ex : PySem.W.Frag → Bool} {ts : List Tab} {g : Addr → Option Obj} {s : Shared} (h : ∀ a, g a = s.heap.get? a) : obsA as fa fn ex ts g = (hookA as fa fn ex ts).obs s := by
  have e : g = s.heap.get? := funext h
  rw [e] <;> rfl
/-! ## the run, in parts -/
theorem opt_pair {α β γ : Type} {o : Option α} {f : α → β} {g : α → γ} {x : β} {y : γ} (h1 : o.map f = some x) (h2 : o.map g = some y) : o.map (fun s => (f s, g s)) = some (x, y) := by
  cases o with
  | none => cases h1
  | some s =>
    rw [Option.map_some, Option.some.injEq] at h1 h2
    rw [Option.map_some, h1, h2]
theorem opt_and {α : Type} {o : Option α} {f g : α → Bool} (h1 : o.map f = some true) (h2 : o.map g = some true) : o.map (fun s => f s && g s) = some true := by
  cases o with
  | none => cases h1
  | some s =>
    rw [Option.map_some, Option.some.injEq] at h1 h2
    rw [Option.map_some, h1, h2]
    rfl
theorem opt_run {α A B C D E : Type} {o : Option α} {f : α → A} {g : α → B} {h : α → (C × D) × E} {x : A} {y : B} {z : (C × D) × E} (hf : o.map f = some x) (hg : o.map (fun s => (g s, (h s).2)) = some (y, z.2))
    (ha : o.map (fun s => (h s).1.1) = some z.1.1) (he : o.map (fun s => (h s).1.2) = some z.1.2) : o.map (fun s => (f s, g s, h s)) = some (x, y, z) := by
  cases o with
  | none => cases hf
  | some s =>
    rw [Option.map_some, Option.some.injEq] at hf hg ha he
    rw [Prod.mk.injEq] at hg
    rw [Option.map_some, hf, hg.1]
    obtain ⟨⟨z1, z2⟩, z3⟩ := z
    have e1 : (h s).1.1 = z1 := ha
    have e2 : (h s).1.2 = z2 := he
    have e3 : (h s).2 = z3 := hg.2
    rw [← e1, ← e2, ← e3]
end Lc
set_option Elab.async false
set_option linter.all false
set_option maxRecDepth 100000
set_option maxHeartbeats 4000000
namespace Lc
open PySem PySem.Spec PyProof.Rows L2 He LamX
/-! ## The head of a law that makes lambdas: the empty tables of code objects are left out -/
def noTab (o : Obj) : Bool := match o.data with
  | .fields vs => decide (0 < vs.size)
  | _ => true
def asT (g : Addr → Option Obj) (n : Nat) : List Addr := (asD g n).filter fun a => match g a with
  | some o => noTab o
  | none => true
def obsT (n : Nat) (fa : List Fa) (fn : List DefD) (ex : PySem.W.Frag → Bool) (g : Addr → Option Obj) : AlE := (obsD fa fn (frG g (asT g n)), ex (frG g (asT g n)))
def hookT (n : Nat) (fa : List Fa) (fn : List DefD) (ex : PySem.W.Frag → Bool) : PySem.W.Hook where
  α := AlE
  obs := fun s => obsT n fa fn ex s.heap.get?
  val := fun _ => (valD fn, true)
  says := fun _ h => ∃ K : PySem.W.Frag, K.In h ∧ SaysD fa fn K ∧ ex K = true
  of := fun _ _ e => ⟨_, frG_in, congrArg (fun z : AlE => z.1) e, congrArg (fun z : AlE => z.2) e⟩
  keeps := fun _ _ _ ⟨K, hK, c⟩ k => ⟨K, PySem.W.Frag.In.keeps hK k, c⟩
theorem obsT_eq {n : Nat} {fa : List Fa} {fn : List DefD} {ex : PySem.W.Frag → Bool} {g : Addr → Option Obj} {s : Shared} (h : ∀ a, g a = s.heap.get? a) : obsT n fa fn ex g = (hookT n fa fn ex).obs s := by
  have e : g = s.heap.get? := funext h
  rw [e] <;> rfl
theorem look_mem {α β : Type} [BEq α] [LawfulBEq α] {p : α} {o : β} : ∀ {K : List (α × β)}, K.lookup p = some o → (p, o) ∈ K
  | [], e => nomatch e
  | (b, u) :: r, e => by
    rw [List.lookup_cons] at e
    by_cases z : p = b
    · subst z
      rw [beq_self_eq_true] at e
      cases e
      exact List.mem_cons_self
    · rw [show (p == b) = false by simpa using z] at e
      exact List.mem_cons_of_mem _ (look_mem e)
def tabB (K : PySem.W.Frag) : Bool := K.all fun p => noTab p.2
def EmptyTab (h : Heap) (p : Addr) : Prop := h.get? p = some { cls := .none, data := .fields #[] }
theorem tabB_ok {K : PySem.W.Frag} (h : tabB K = true) {hp : Heap} {p : Addr} (X : K.In hp) (e : EmptyTab hp p) : K.lookup p = none := by
  cases q : K.lookup p with
  | none => rfl
  | some o =>
    have z : hp.get? p = some { cls := .none, data := .fields #[] } := e
    rw [X p o q] at z
    have m := List.all_eq_true.mp h _ (look_mem q)
    rw [Option.some.inj z] at m
    exact nomatch (show decide (0 < (#[] : Array Value).size) = true from m)
/-! ## The law is called -/
section
variable {P : Program} {w : World} {K : PySem.W.Frag} {mg mb : Str → Option Value} {k : Nat} {fa a c p : Addr} {fd : FuncData} {x : Str} {sp : Sp} {s : Shared} {vs : List Value} {ns : List Int}
/-- what may stand in the abstract heap: the script and the table -/
structure Only (K : PySem.W.Frag) (a p : Addr) (H : Hp) : Prop where
  tab : H p = some (.tbl #[])
  oth : ∀ b, b ≠ a → b ≠ p → H b = none
  frz : ∀ o, H a = some o → K.lookup a = none ∧ ∃ ob xs, o = .frz ob (.lst xs)
theorem call_ofT {H : Hp} (KX : K.In s.heap) (hns : s.heap.Ns mainGlobals mg) (hb : s.heap.Ns builtinsNs mb) (hbb : ∀ x : Str, x ≠ "__name__" → mb x = bootBuiltins x) (hlim : s.heap.NoLimit) (hg : s.gens = #[])
    (ha : s.heap.get? a = some { cls := .type "list", data := .seq vs.toArray }) (ht : EmptyTab s.heap p) (np : K.lookup p = none) (C : PySem.W.CodeHd s.heap c p)
    (hbm : ∃ (bm : Addr) (ob : Obj), mg "__builtins__" = some (.ref bm) ∧ bm ≠ builtinsNs ∧ s.heap.get? bm = some ob ∧ ob.cls = .type "module" ∧ ob.dict = some builtinsNs ∧ ob.data = .plain)
    (hok : HOk P w H s.heap) (O : Only K a p H) : K.In (hidT s.heap H) ∧ (hidT s.heap H).Ns mainGlobals mg ∧ Env0 P w K mg (hidT s.heap H) callerA [] s H ∧ TabB (hidT s.heap H) mg c p := by
  -- what is neither the script nor the table is seen
  have see : ∀ {b : Addr} {o : Obj}, s.heap.get? b = some o → o.data ≠ .seq vs.toArray → o.data ≠ .fields #[] → (hidT s.heap H).get? b = some o := fun {b o} e n1 n2 => by
    refine hidT_get e (O.oth b (fun z => ?_) fun z => ?_)
    · rw [z, ha] at e
      cases e
      exact n1 rfl
    · rw [z, show s.heap.get? p = _ from ht] at e
      cases e
      exact n2 rfl
  have ns_ : ∀ {b : Addr} {m : Str → Option Value}, s.heap.Ns b m → (hidT s.heap H).Ns b m := by
    rintro b m ⟨o, es, ep, e, d, r⟩
    exact ⟨o, es, ep, see e (by rw [d]; nofun) (by rw [d]; nofun), d, r⟩
  have kin : K.In (hidT s.heap H) := fun b o e => hidT_get (KX b o e) (by
    by_cases zp : b = p
    · rw [zp, np] at e
      cases e
    · by_cases za : b = a
      · cases q : H b with
        | none => rfl
        | some u =>
          rw [za] at q e
          rw [(O.frz u q).1] at e
          cases e
      · exact O.oth b za zp)
  obtain ⟨mc, l1, l2⟩ := hlim
  refine ⟨kin, ns_ hns, ⟨rfl, ⟨kin, ns_ hns, ⟨mb, ns_ hb, hbb⟩, ⟨mc, ns_ l1, l2⟩⟩, fun b o e => of_hidT e, Nat.le_of_eq (hidT_size _ _), trivial, fun b z => absurd (show b ∈ ([] : List Addr) from z) (by simp), hok, .of_eq hg⟩, ?_, ?_, ?_⟩
  · obtain ⟨o, us, file, tf, flags, tg, inF, text, tt, e1, r1, r2, r3, rest⟩ := C
    refine ⟨o, us, file, tf, flags, tg, inF, text, tt, see e1 (by rw [r2]; nofun) (fun z => ?_), r1, r2, r3, rest⟩
    rw [r2] at z
    have z' : us = #[] := by injection z
    rw [z'] at r3
    exact nomatch r3
  · obtain ⟨bm, ob, b1, b2, b3, b4, b5, b6⟩ := hbm
    refine ⟨bm, ob, b1, b2, fun z => ?_, fun z => ?_, see b3 (by rw [b6]; nofun) (by rw [b6]; nofun), b4, b5, b6⟩
    · obtain ⟨o, es, ep, e, d, _⟩ := hns
      rw [← z, b3] at e
      cases e
      rw [b6] at d
      cases d
    · rw [z, show s.heap.get? p = _ from ht] at b3
      cases b3
      cases b6
  · intro z
    obtain ⟨o, es, ep, e, d, _⟩ := hns
    rw [z, show s.heap.get? p = _ from ht] at e
    cases e
    cases d
theorem law_callT (KX : K.In s.heap) (hns : s.heap.Ns mainGlobals mg) (hb : s.heap.Ns builtinsNs mb) (hbb : ∀ x : Str, x ≠ "__name__" → mb x = bootBuiltins x) (hlim : s.heap.NoLimit) (hg : s.gens = #[])
    (ha : s.heap.get? a = some { cls := .type "list", data := .seq vs.toArray }) (ht : EmptyTab s.heap p) (np : K.lookup p = none) (C : PySem.W.CodeHd s.heap c p) (TA : s.heap.TableAt c p #[])
    (hbm : ∃ (bm : Addr) (ob : Obj), mg "__builtins__" = some (.ref bm) ∧ bm ≠ builtinsNs ∧ s.heap.get? bm = some ob ∧ ob.cls = .type "module" ∧ ob.dict = some builtinsNs ∧ ob.data = .plain)
    (hi : IntsAre vs ns) (hl : ns.length ≤ sizeLine) (hr : Room k callerA)
    (F : ∀ base : Heap, K.In base → base.Ns mainGlobals mg → TabB base mg c p → FnG P w K mg base k fa fd [x] sp) (hbind : ∀ (s : Shared) (u : Value), BindsTo s fd ⟨[u], []⟩ [(x, u)])
    (hsp : ∀ H : Hp, H p = some (.tbl #[]) → SqL K H a (ns.map V.int) → sp [.ref a] H (fun v _ => v = .bl true) fun _ _ _ => False) :
    codeAny (model P w) callerA (.call (.ref fa) ⟨[.ref a], []⟩) (fun r s' => r = .ok (.ret (.bool true)) ∧ OldK s.heap s'.heap ∧ s'.os = s.os ∧ AllBare s'.gens) s := by
  have rv := vals_ints hi
  have pa : p ≠ a := fun z => by
    have e : s.heap.get? p = some { cls := .none, data := .fields #[] } := ht
    rw [z, ha] at e
    cases e
  have go : ∀ H : Hp, SqL K H a (ns.map V.int) → HOk P w H s.heap → Only K a p H →
      codeAny (model P w) callerA (.call (.ref fa) ⟨[.ref a], []⟩) (fun r s' => r = .ok (.ret (.bool true)) ∧ OldK s.heap s'.heap ∧ s'.os = s.os ∧ AllBare s'.gens) s := by
    intro H hS hok O
    obtain ⟨k1, k2, e0, tb⟩ := call_ofT KX hns hb hbb hlim hg ha ht np C hbm hok O
    refine codeAny_mono ((F _ k1 k2 tb).run callerA [] s H ⟨[.ref a], []⟩ [.ref a] [.ref a] _ _ rfl hr e0 (hbind s (.ref a)) (.cons rfl .nil) (hsp H O.tab hS)) fun r s' h => ?_
    cases r with
    | error _ => exact False.elim h
    | ok fl =>
      cases fl with
      | next => exact False.elim h
      | brk => exact False.elim h
      | cont => exact False.elim h
      | ret u =>
        obtain ⟨v, H', os, bare, un, hok', ru, ev⟩ := h
        subst ev
        obtain rfl : u = Value.bool true := ru
        obtain ⟨more, zt⟩ := un.tbls p #[] O.tab
        have now := hok' p _ zt
        have kept : ∀ b o, b ≠ p → s.heap.get? b = some o → s'.heap.get? b = some o := fun b o nb e => by
          cases q : H b with
          | none => exact un.keep b o e q (fun z => absurd (show b ∈ ([] : List Addr) from z) (by simp)) (by simp)
          | some oo =>
            have zb : b = a := Classical.byContradiction fun z => by rw [O.oth b z nb] at q; cases q
            subst zb
            obtain ⟨_, ob, xs, rfl⟩ := O.frz oo q
            obtain ⟨e1, _⟩ := hok b _ q
            obtain ⟨e2, _⟩ := hok' b _ (un.frzs b ob _ q)
            rw [e] at e1
            cases e1
            exact e2
        refine ⟨rfl, ⟨fun b o e => ?_, fun b o e => ?_⟩, os, bare⟩
        · by_cases zb : b = p
          · subst zb
            rw [show s.heap.get? b = _ from ht] at e
            cases e
            exact .inr (.inl ⟨TA.isCodeTable, rfl, #[], more, rfl, by rw [Array.empty_append] at now ⊢; exact now⟩)
          · exact .inl (kept b o zb e)
        · by_cases zb : b = p
          · exact ⟨_, by rw [zb]; exact now⟩
          · exact ⟨o, kept b o zb e⟩
  cases hk : K.lookup a with
  | some o =>
    have e := KX a o hk
    rw [ha] at e
    cases e
    refine go (upd (fun _ => none) p (.tbl #[])) (.inr ⟨_, vs.toArray, _, hk, rfl, rfl, rfl, by rw [List.size_toArray, hi.length]; exact hl, by simpa using rv⟩) (fun b u z => ?_) ⟨upd_same, fun b _ n => upd_ne n, fun o z => ?_⟩
    · by_cases q : b = p
      · subst q
        rw [upd_same] at z
        cases z
        exact ht
      · rw [upd_ne q] at z
        cases z
    · rw [upd_ne pa.symm] at z
      cases z
  | none =>
    let ob : Obj := { cls := .type "list", data := .seq vs.toArray }
    refine go (upd (upd (fun _ => none) p (.tbl #[])) a (.frz ob (.lst (ns.map V.int)))) (.inl (.inr ⟨ob, upd_same⟩)) (fun b u z => ?_) ⟨by rw [upd_ne pa, upd_same], fun b n1 n2 => by rw [upd_ne n1, upd_ne n2], fun o z => ?_⟩
    · by_cases q : b = a
      · subst q
        rw [upd_same] at z
        cases z
        exact ⟨ha, by rw [List.length_map]; exact hl, vs, _, rv, ha⟩
      · rw [upd_ne q] at z
        by_cases q2 : b = p
        · subst q2
          rw [upd_same] at z
          cases z
          exact ht
        · rw [upd_ne q2] at z
          cases z
    · rw [upd_same] at z
      cases z
      exact ⟨hk, ob, _, rfl⟩
end
/-- the end of a law that makes lambdas; p: its table -/
theorem walk_TE {l : PySem.W.OpenLaw} {n k : Nat} {q : Program} {loose : List Str} {XP : (Str → Option Value) → Heap → Prop} {YP : World → Heap → Prop} {d : DefRec} {x : Str}
    (hn : l.most = some n) (hn2 : n ≤ sizeLine) (hdf : d.params.defaults = []) (hr : Room k callerA) (hrec : ((recsOf q).any fun e => e.name == d.name) = true)
    (F : ∀ (w : World) (mg : Str → Option Value) (fa : Addr) (h : Heap), YP w h → h.Ns mainGlobals mg → mg d.name = some (.ref fa) →
      ∃ (K : PySem.W.Frag) (fd : FuncData) (c : Addr) (sp : Addr → Sp), K.In h ∧ tabB K = true ∧ (∃ o, K.lookup fa = some o ∧ o.data = .func fd ∧ fd.code = .ref c) ∧ (∀ (s : Shared) (u : Value), BindsTo s fd ⟨[u], []⟩ [(x, u)]) ∧
        (∀ (p : Addr) (H : Hp) (a : Addr) (ns : List Int), ns.length ≤ n → H p = some (.tbl #[]) → SqL K H a (ns.map V.int) → sp p [.ref a] H (fun v _ => v = .bl true) fun _ _ _ => False) ∧
        ∀ (p : Addr) (base : Heap), K.In base → base.Ns mainGlobals mg → TabB base mg c p → FnG l.prog w K mg base k fa fd [x] (sp p)) :
    PySem.W.WalkO q loose XP YP l.row.toRowW d [] (fun f vs => PySem.call f vs) := by
  refine Att.attach_call hn hdf fun w _ s mg mb fa _ _ _ _ a vs ns G Y _ _ _ hmg hobj hints hlen hg => ?_
  obtain ⟨K, fd, c, sp, KX, tb, ⟨o, lo, od, oc⟩, hb, hsp, hF⟩ := F w mg fa _ Y G.T.g hmg
  obtain ⟨dL, hm, hn1⟩ := List.any_eq_true.mp hrec
  obtain ⟨a', o', fd', c', p, h1, h2, h3, h4, h5, h6⟩ := G.T.tab dL hm
  rw [beq_iff_eq.mp hn1, hmg] at h1
  cases h1
  rw [KX _ _ lo] at h2
  cases h2
  rw [od] at h3
  cases h3
  rw [oc] at h4
  cases h4
  have ht : EmptyTab s.heap p := h6.2
  exact law_callT KX G.T.g G.T.b G.T.builtins G.T.nolimit hg hobj ht (tabB_ok tb KX ht) (PySem.W.CodeHd.of h5 h6) h6 G.T.bmain hints (Nat.le_trans hlen hn2) hr (hF p) hb fun H h1 h2 => hsp p H a ns hlen h1 h2
/-! ## A def whose code object is known -/
section
variable {P : Program} {w : World} {K : PySem.W.Frag} {mg : Str → Option Value} {base : Heap}
theorem Fun.okGc {x qual : Str} {st : Stmt} {f c : Addr} {fd : FuncData} {N ps : List Str} {k : Nat} {sp : Sp} (F : Fun K x qual st f fd) (hc : fd.code = .ref c) (S : FnScope N ps (defScope st)) (len : ∀ vs H Q E, sp vs H Q E → vs.length = ps.length)
    (go : ∀ (A : Around) (outer : List Env) (s : Shared) (H : Hp) (vs : List V) (Q : VK) (E : XK), A.guards = some [] → Room k (A.deeper (envOfC qual (defScope st) s.heap.objs.size f (.ref c))) → sp vs H Q E →
      ∃ t, PSs (cxOf CX0 P w K mg base N qual (defScope st) f (.ref c) A outer s H E).nox (defBody st) t ∧ t { nx := fun _ H' => Q .non H', rt := Q } (start N vs) H) : FnG P w K mg base (k + 1) f fd ps sp := by
  obtain ⟨oc, od, kV, doc, pm, an, cdv, ct, osl, rfl, lk, hcd⟩ := F.ex
  obtain rfl : cdv = .ref c := hc
  refine ⟨len, fun A outer s H args us vs Q E hg hr e0 hb r hsp => ?_⟩
  have up : ∀ b o, base.get? b = some o → s.heap.get? b = some o := fun b o z => (e0.bs b o z).1
  have KX := e0.mod.kin.keeps up
  refine codeAny_call_function hr.depth (KX _ _ lk) rfl S.co S.gen rfl (PySem.W.codeRec_of KX hcd) (hb _ _ _ _ ?_)
  refine wpAny_newFunctionEnv_cells S.kind (fun y hy => ?_) fun env he s1 x => ?_
  · rcases S.par y.1 (List.of_mem_zip (a := y.1) (b := y.2) hy).1 with z | z
    · exact .inl z
    · exact .inr ⟨z, PySem.W.cellsFrom_some _ _ _ (.inl z)⟩
  subst he
  obtain ⟨t, ht, hq⟩ := go A outer s H vs Q E hg (hr.deeper _) hsp
  have I : Inv (cxOf CX0 P w K mg base N qual (defScope st) f (.ref c) A outer s H E) [] (start N vs) H s1 := inv_start S hr.hd e0 (len _ _ _ _ hsp) r x
  refine ⟨(e0.mod.nolimit.keeps up).keeps x.toInCall.keep, codeAny_func (wpAny_mono (ht.nox.run [] s1 (start N vs) H _ I hq) (fun fl s' hs => ?_) fun _ _ z => z)⟩
  cases fl with
  | ret u => obtain ⟨v, _, H', J, rv, q⟩ := hs; exact ⟨v, H', J.os, J.bare, J.base, J.hok, rv, q⟩
  | next => obtain ⟨_, H', J, q⟩ := hs; exact ⟨V.non, H', J.os, J.bare, J.base, J.hok, rfl, q⟩
  | brk => obtain ⟨_, _, _, q⟩ := hs; exact q.elim
  | cont => obtain ⟨_, _, _, q⟩ := hs; exact q.elim
end
/-! ## What stays: all but the tape and the tables -/
def Stp (t : Addr) (H H' : Hp) : Prop := ∀ b o, b ≠ t → (∀ ps, o ≠ .tbl ps) → H b = some o → H' b = some o
theorem Stp.refl (t : Addr) (H : Hp) : Stp t H H := fun _ _ _ _ e => e
theorem Stp.trans {t : Addr} {H H1 H2 : Hp} (a : Stp t H H1) (b : Stp t H1 H2) : Stp t H H2 := fun c o n m e => b c o n m (a c o n m e)
theorem Stp.of {t : Addr} {H H' : Hp} (s : Same H H') : Stp t H H' := fun b o _ _ e => s b o e
theorem Stp.b {t : Addr} {H H' : Hp} (s : SameB t H H') : Stp t H H' := fun b o n _ e => s b o n e
theorem Stp.n {t : Addr} {H H' : Hp} (s : ExtN H H') : Stp t H H' := fun b o _ m e => s b o e m
/-- the tape and the tables stand -/
structure Stands (T : List (Addr × Str)) (t : Addr) (H : Hp) : Prop where
  tp : Tape H t
  tb : Tabs T H
theorem Stands.same {T : List (Addr × Str)} {t : Addr} {H H' : Hp} (J : Stands T t H) (s : Same H H') : Stands T t H' := ⟨J.tp.same s, J.tb.ext s⟩
theorem Stands.b {T : List (Addr × Str)} {t : Addr} {H H' : Hp} (J : Stands T t H) (s : SameB t H H') (z : Tape H' t) : Stands T t H' := by
  refine ⟨z, fun p hp => ?_⟩
  obtain ⟨l, _, _, _, _, ht, _⟩ := J.tp
  obtain ⟨ps, h1, h2, h3⟩ := J.tb p hp
  have ne : ∀ {b : Addr} {o : HO}, H b = some o → (∀ xs, o ≠ .lst xs) → b ≠ t := fun {b o} e n z => by
    rw [z, ht] at e
    exact n _ (Option.some.inj e).symm
  refine ⟨ps, s _ _ (ne h1 nofun) h1, h2, fun pos cv hc => ?_⟩
  obtain ⟨c, e1, e2⟩ := h3 pos cv hc
  exact ⟨c, e1, s _ _ (ne e2 fun xs z => by unfold CodeO at z; cases z) e2⟩
theorem Stands.n {T : List (Addr × Str)} {t : Addr} {H H' : Hp} (J : Stands T t H) (s : ExtN H H') (z : Tabs T H') : Stands T t H' := by
  obtain ⟨l, ns, p, r, m, h1, h2, h3⟩ := J.tp
  exact ⟨⟨l, ns, p, r, m, s _ _ h1 nofun, s _ _ h2 nofun, h3⟩, z⟩
theorem code_of {K : PySem.W.Frag} {x qual : Str} {params : Arguments} {body : List Stmt} {scope : Scope} {dvs : List V} {kws : List (Str × V)} {f : Addr} {fd : FuncData} (F : FunD K x qual params body scope dvs kws f fd) : ∃ c, ∃ o, K.lookup f = some o ∧ o.data = .func fd ∧ fd.code = .ref c := by
  obtain ⟨oc, od, dV, kV, doc, pm, an, cdv, ct, osl, rfl, lk, hcd, _, _⟩ := F.ex
  cases cdv with
  | ref c => exact ⟨c, _, lk, rfl, rfl⟩
  | _ => cases hcd
end Lc
set_option Elab.async false
set_option linter.all false
set_option maxRecDepth 100000
set_option maxHeartbeats 4000000
namespace Lc
open PySem PySem.Spec PyProof.Rows L2 He LamX
/-! ## The head's facts from a few globals alone, the empty tables of code objects left out -/
def asU (sm : Bool) (names : List Str) (g : Addr → Option Obj) (n : Nat) : List Addr := (asM sm names g n).filter fun a => match g a with
  | some o => noTab o
  | none => true
def obsU (sm : Bool) (names : List Str) (n : Nat) (fa : List Fa) (fn : List DefD) (ex : PySem.W.Frag → Bool) (ts : List Tab) (g : Addr → Option Obj) : AlF := obsK fa fn ex ts (frG g (asU sm names g n))
def hookU (sm : Bool) (names : List Str) (n : Nat) (fa : List Fa) (fn : List DefD) (ex : PySem.W.Frag → Bool) (ts : List Tab) : PySem.W.Hook where
  α := AlF
  obs := fun s => obsU sm names n fa fn ex ts s.heap.get?
  val := fun w => ((valD fn, true), ts.map fun t : Tab => some (keysIn w.params t.2))
  says := fun w h => ∃ K : PySem.W.Frag, K.In h ∧ SaysD fa fn K ∧ ex K = true ∧ TabsOk ts w K
  of := fun _ _ e => ⟨_, frG_in, congrArg (fun z : AlF => z.1.1) e, congrArg (fun z : AlF => z.1.2) e, tabs_of (show _ = _ from congrArg (fun z : AlF => z.2) e)⟩
  keeps := fun _ _ _ ⟨K, hK, c⟩ k => ⟨K, PySem.W.Frag.In.keeps hK k, c⟩
theorem obsU_eq {sm : Bool} {names : List Str} {n : Nat} {fa : List Fa} {fn : List DefD} {ex : PySem.W.Frag → Bool} {ts : List Tab} {g : Addr → Option Obj} {s : Shared} (h : ∀ a, g a = s.heap.get? a) : obsU sm names n fa fn ex ts g = (hookU sm names n fa fn ex ts).obs s := by
  have e : g = s.heap.get? := funext h
  rw [e] <;> rfl
/-- the end of a law behind a def that makes lambdas; p: the def's table -/
theorem walk_TE2 {l : PySem.W.OpenLaw} {n k : Nat} {q : Program} {loose : List Str} {XP : (Str → Option Value) → Heap → Prop} {YP : World → Heap → Prop} {d : DefRec} {x x2 : Str}
    (hn : l.most = some n) (hn2 : n ≤ sizeLine) (hdf : d.params.defaults = []) (hr : Room k callerA) (hrec : ((recsOf q).any fun e => e.name == x2) = true)
    (F : ∀ (w : World) (mg : Str → Option Value) (fa : Addr) (h : Heap), YP w h → h.Ns mainGlobals mg → mg d.name = some (.ref fa) →
      ∃ (K : PySem.W.Frag) (fd fd2 : FuncData) (c f2 : Addr) (sp : Addr → Sp), K.In h ∧ tabB K = true ∧ mg x2 = some (.ref f2) ∧ (∃ o, K.lookup f2 = some o ∧ o.data = .func fd2 ∧ fd2.code = .ref c) ∧ (∀ (s : Shared) (u : Value), BindsTo s fd ⟨[u], []⟩ [(x, u)]) ∧
        (∀ (p : Addr) (H : Hp) (a : Addr) (ns : List Int), ns.length ≤ n → H p = some (.tbl #[]) → SqL K H a (ns.map V.int) → sp p [.ref a] H (fun v _ => v = .bl true) fun _ _ _ => False) ∧
        ∀ (p : Addr) (base : Heap), K.In base → base.Ns mainGlobals mg → TabB base mg c p → FnG l.prog w K mg base k fa fd [x] (sp p)) :
    PySem.W.WalkO q loose XP YP l.row.toRowW d [] (fun f vs => PySem.call f vs) := by
  refine Att.attach_call hn hdf fun w _ s mg mb fa _ _ _ _ a vs ns G Y _ _ _ hmg hobj hints hlen hg => ?_
  obtain ⟨K, fd, fd2, c, f2, sp, KX, tb, m2, ⟨o, lo, od, oc⟩, hb, hsp, hF⟩ := F w mg fa _ Y G.T.g hmg
  obtain ⟨dL, hm, hn1⟩ := List.any_eq_true.mp hrec
  obtain ⟨a', o', fd', c', p, h1, h2, h3, h4, h5, h6⟩ := G.T.tab dL hm
  rw [beq_iff_eq.mp hn1, m2] at h1
  cases h1
  rw [KX _ _ lo] at h2
  cases h2
  rw [od] at h3
  cases h3
  rw [oc] at h4
  cases h4
  have ht : EmptyTab s.heap p := h6.2
  exact law_callT KX G.T.g G.T.b G.T.builtins G.T.nolimit hg hobj ht (tabB_ok tb KX ht) (PySem.W.CodeHd.of h5 h6) h6 G.T.bmain hints (Nat.le_trans hlen hn2) hr (hF p) hb fun H h1 h2 => hsp p H a ns hlen h1 h2
end Lc
set_option Elab.async false
set_option linter.all false
set_option maxRecDepth 100000
set_option maxHeartbeats 4000000
namespace Lc
open PySem PySem.Spec PyProof.Rows L2 He
/-! ## an int in a dict of the module with text keys -/
def diB (K : PySem.W.Frag) (d : Addr) (x : Str) (n : Int) : Bool := match PySem.W.nsIn K d x with
  | some (some (.int m _)) => decide (m = n)
  | _ => false
theorem di_ok {K : PySem.W.Frag} {w : World} {d : Addr} {x : Str} {n : Int} (D : ∃ es n, KDict K w d es n) (h : diB K d x n = true) : KDct K w d x (.int n) ∧ ∃ u, PySem.W.nsIn K d x = some (some u) := by
  unfold diB at h
  split at h
  · rename_i m t q
    obtain ⟨es, k, D⟩ := D
    have e : m = n := of_decide_eq_true h
    exact ⟨⟨es, k, _, D.at_, D.lit, q, ⟨t, by rw [e]⟩⟩, _, q⟩
  · cases h
end Lc
set_option Elab.async false
set_option linter.all false
set_option maxRecDepth 100000
set_option maxHeartbeats 8000000
namespace K20
open PySem PySem.Spec PyProof.Rows L2 Lc He
/-! ## the head -/
def dOf (x : Str) (st : Stmt) : DefD := ⟨(x, none), x, x, defArgs st, defBody st, defScope st, [], []⟩
def dMt (c m q : Str) (st : Stmt) : DefD := ⟨(c, some m), m, q, defArgs st, defBody st, defScope st, [], []⟩
def dKw (x : Str) (st : Stmt) (kw : List (Str × Dv)) : DefD := ⟨(x, none), x, x, defArgs st, defBody st, defScope st, [], kw⟩
def dDf (x : Str) (st : Stmt) (df : List Dv) : DefD := ⟨(x, none), x, x, defArgs st, defBody st, defScope st, df, []⟩
def dMd (c m q : Str) (st : Stmt) (df : List Dv) : DefD := ⟨(c, some m), m, q, defArgs st, defBody st, defScope st, df, []⟩
def fn : List DefD := [dMt "Table" "__init__" "Table.__init__" (inClass (top 58) 0), dMt "Table" "columns" "Table.columns" (inClass (top 58) 1), dMt "Table" "rows" "Table.rows" (inClass (top 58) 2), dOf "common_divisor" (top 9), dOf "lowest_terms" (top 12), dOf "is_name" (top 25), dOf "within_limit" (top 26), dOf "limited" (top 41), dOf "total" (top 61), dOf "by_size" (top 62), dOf "common_scale" (top 63), dOf "scaled" (top 64), dOf "sum_of" (top 65), dOf "mean_of" (top 66), dOf "median_of" (top 67), dOf "least_of" (top 68), dOf "greatest_of" (top 69), dOf "names_of" (top 57), dOf "is_tuple_of" (top 79), dOf "kind_in" (top 80), dOf "are_columns" (top 81), dOf "bounded" (top 82), dOf "is_total" (top 92), dOf "behind_group" (top 93), dOf "word_of" (top 97), dOf "columns_behind" (top 98), dOf "resolved" (top 100), dOf "places_of" (top 104), dOf "picked" (top 105), dOf "grouped" (top 114), dOf "union_of" (top 56), dOf "limited_total" (top 118), dOf "group_rows" (top 119), dKw "run" (top 122) [("setting", .non)], dOf "_law_tape" (top 124), dOf "_law_draw" (top 125), dOf "_law_lowest" (top 126), dOf "_law_rational" (top 127), dOf "_law_name" (top 128), dOf "_law_fresh" (top 129), dOf "_law_columns" (top 130), dOf "_law_value" (top 131), dOf "_law_values" (top 132), dOf "_law_pick" (top 133), dOf "_law_group_step" (top 134), dOf "_law_lineage" (top 135), dOf "_law_union" (top 136), dOf "_law_limited" (top 137), dOf "_law_rows" (top 138), dOf "_law_ordered" (top 139), dOf "_law_sum" (top 140), dOf "_law_measure" (top 141), dOf "_law_grouped" (top 142), dOf "_law_group_due" (top 143), dOf "_law_alike" (top 144), dOf "law" (top 145)]
def gl : List Str := (["Table", "LENGTHS", "BEHIND", "ROWS_BEHIND", "OF_SOME", "FUNCTIONS", "common_divisor", "lowest_terms", "is_name", "within_limit", "limited", "total", "by_size", "common_scale", "scaled", "sum_of", "mean_of", "median_of", "least_of", "greatest_of"] : List Str) ++ (["names_of", "is_tuple_of", "kind_in", "are_columns", "bounded", "is_total", "behind_group", "word_of", "columns_behind", "resolved", "places_of", "picked", "grouped", "union_of", "limited_total", "group_rows", "run", "_law_tape", "_law_draw", "_law_lowest"] : List Str) ++ (["_law_rational", "_law_name", "_law_fresh", "_law_columns", "_law_value", "_law_values", "_law_pick", "_law_group_step", "_law_lineage", "_law_union", "_law_limited", "_law_rows", "_law_ordered", "_law_sum", "_law_measure", "_law_grouped", "_law_group_due", "_law_alike"] : List Str)
def loose : List Str := gl ++ (["BadNumber", "BadExpression", "UnknownName", "DivisionByZero", "TooLarge", "BadChoice", "is_whole", "is_rational", "check_rational", "add", "subtract", "multiply", "divide", "compare", "LETTERS", "NAME_SIGNS", "LONGEST_NAME", "KINDS", "LIMIT", "MOST_COLUMNS"] : List Str) ++ (["is_value", "DEEPEST", "OPERANDS", "ARITHMETIC", "PAIRED", "kind_of", "kind_or_none", "kind_at", "has_word", "leaf_kind", "kind_of_value", "check_operands", "result_kind", "plus", "minus", "times", "over", "less", "same", "both"] : List Str) ++ (["either", "STRICT", "LENIENT", "evaluate", "worth", "worth_of_two", "MOST_COUNT", "MOST_WHOLE", "MOST_SEED", "ORDERS", "MOST_KEYS", "MOST_TOTALS", "is_between", "behind_keep", "behind_set", "behind_select", "behind_rename", "behind_sort", "behind_first", "behind_sample"] : List Str) ++ (["behind_join", "behind_union", "behind_distinct", "chosen_index", "MOST_ROWS", "draw", "kept_rows", "set_rows", "selected_rows", "all_rows", "order_key", "sorted_rows", "first_rows", "sampled_rows", "check_size", "joined_rows", "united_rows", "distinct_rows"] : List Str)
def fa : List Fa := (.glo "law") :: gl.map Fa.glo ++ (btNames ++ (["sorted", "set", "zip", "sum", "max"] : List Str)).map Fa.free ++ [.str "LETTERS" letters, .str "NAME_SIGNS" signs, .int "LONGEST_NAME" 12, .int "LIMIT" lim, .int "MOST_COLUMNS" 8, .int "MOST_KEYS" 3, .int "MOST_TOTALS" 6]
def exL (K : PySem.W.Frag) : List Bool := [Fa.ok K (.mkr "Table"), Fa.ok K (.cls "Table"), Fa.ok K (.noat "Table" "shape"), Fa.ok K (.noat "Table" "body"), Fa.ok K (.meth "Table" "columns"), Fa.ok K (.meth "Table" "rows"), tupB K "FUNCTIONS" [.str "count", .str "sum", .str "mean", .str "median", .str "least", .str "greatest"], dfB K (ga K "OF_SOME") "mean" "mean_of", dfB K (ga K "OF_SOME") "median" "median_of", dfB K (ga K "OF_SOME") "least" "least_of", dfB K (ga K "OF_SOME") "greatest" "greatest_of", diB K (ga K "LENGTHS") "group" 3, dfB K (ga K "BEHIND") "group" "behind_group", dfB K (ga K "ROWS_BEHIND") "group" "group_rows"]
def ex (K : PySem.W.Frag) : Bool := (exL K).all id
def ts : List Tab := [((fun K => ga K "LENGTHS"), ["keep", "set", "select", "rename", "sort", "first", "sample", "join", "union", "group", "distinct"]), ((fun K => ga K "BEHIND"), ["keep", "set", "select", "rename", "sort", "first", "sample", "join", "union", "group", "distinct"]), ((fun K => ga K "ROWS_BEHIND"), ["keep", "set", "select", "rename", "sort", "first", "sample", "join", "union", "group", "distinct"]), ((fun K => ga K "OF_SOME"), ["mean", "median", "least", "greatest"])]
def ads : List Addr := ([893, 435, 611, 612, 749, 500, 440, 141, 162, 203, 210, 288, 445, 452, 459, 466, 471, 478, 485, 492, 499, 373, 515, 522, 529, 536, 598, 603, 619, 626, 640, 652, 657, 712, 368, 738, 743, 755, 762, 769] : List Addr) ++ ([776, 783, 788, 795, 802, 809, 814, 821, 826, 833, 838, 845, 850, 857, 864, 869, 874, 879, 886, 892, 434, 543, 548, 553, 558, 565, 572, 579, 584, 591, 610, 662, 669, 674, 681, 693, 700, 705, 724, 731] : List Addr) ++ ([748, 140, 161, 202, 209, 287, 444, 451, 458, 465, 470, 477, 484, 491, 498, 372, 514, 521, 528, 535, 597, 602, 618, 625, 639, 651, 656, 711, 367, 737, 742, 754, 750, 761, 768, 775, 782, 787, 794, 801] : List Addr) ++ ([808, 813, 820, 825, 832, 837, 844, 849, 856, 863, 868, 873, 878, 885, 887, 888, 889, 890, 891, 387, 394, 401, 406, 411, 418, 425, 432, 433, 436, 437, 542, 547, 552, 557, 564, 571, 578, 583, 590, 609] : List Addr) ++ ([661, 668, 673, 680, 692, 699, 704, 723, 730, 747, 135, 136, 137, 138, 139, 156, 157, 158, 159, 160, 199, 200, 201, 204, 205, 206, 207, 208, 282, 283, 284, 285, 286, 441, 442, 443, 446, 447, 448, 449] : List Addr) ++ ([450, 453, 454, 455, 456, 457, 460, 461, 462, 463, 464, 467, 468, 469, 472, 473, 474, 475, 476, 479, 480, 481, 482, 483, 486, 487, 488, 489, 490, 493, 494, 495, 496, 497, 369, 370, 371, 509, 510, 511] : List Addr) ++ ([512, 513, 516, 517, 518, 519, 520, 523, 524, 525, 526, 527, 530, 531, 532, 533, 534, 592, 593, 594, 595, 596, 599, 600, 601, 613, 614, 615, 616, 617, 620, 621, 622, 623, 624, 634, 635, 636, 637, 638] : List Addr) ++ ([648, 649, 650, 653, 654, 655, 706, 707, 708, 709, 710, 364, 365, 366, 732, 733, 734, 735, 736, 739, 740, 741, 751, 752, 753, 756, 757, 758, 759, 760, 763, 764, 765, 766, 767, 770, 771, 772, 773, 774] : List Addr) ++ ([777, 778, 779, 780, 781, 784, 785, 786, 789, 790, 791, 792, 793, 796, 797, 798, 799, 800, 803, 804, 805, 806, 807, 810, 811, 812, 815, 816, 817, 818, 819, 822, 823, 824, 827, 828, 829, 830, 831, 834] : List Addr) ++ ([835, 836, 839, 840, 841, 842, 843, 846, 847, 848, 851, 852, 853, 854, 855, 858, 859, 860, 861, 862, 865, 866, 867, 870, 871, 872, 875, 876, 877, 880, 881, 882, 883, 884, 386, 393, 400, 405, 410, 417] : List Addr) ++ ([424, 431, 537, 538, 539, 540, 541, 544, 545, 546, 549, 550, 551, 554, 555, 556, 559, 560, 561, 562, 563, 566, 567, 568, 569, 570, 573, 574, 575, 576, 577, 580, 581, 582, 585, 586, 587, 588, 589, 604] : List Addr) ++ ([605, 606, 607, 608, 658, 659, 660, 663, 664, 665, 666, 667, 670, 671, 672, 675, 676, 677, 678, 679, 689, 690, 691, 694, 695, 696, 697, 698, 701, 702, 703, 720, 721, 722, 725, 726, 727, 728, 729, 744] : List Addr) ++ ([745, 746, 381, 382, 383, 384, 385, 388, 389, 390, 391, 392, 395, 396, 397, 398, 399, 402, 403, 404, 407, 408, 409, 412, 413, 414, 415, 416, 419, 420, 421, 422, 423, 426, 427, 428, 429, 430] : List Addr)
abbrev R : PySem.W.OpenRow := PySem.W.OpenLaw.row PySem.Challenge.rw_liveclaims_k20_group_totals
abbrev hk : PySem.W.Hook := hookA ads fa fn ex ts
def ob (s : PySem.W.SharedT) : AlF := obsA ads fa fn ex ts (HandSHeadRun.getT s)
theorem ob_eq (s : PySem.W.SharedT) : ob s = hk.obs s.abs := obsA_eq (HandSHeadRun.getT_eq s)
open PySem.W PySem.Calls HandSHeadRun in
theorem pL_false (w : World) (os : OsState) : (endF (stepQ (denQ tabQ) R.prog (w.withFollow "special-get-raises" false)) 20000 R.prog (w.withFollow "special-get-raises" false) os).map (fun s => looksF R.prog (boot_heap (w.withFollow "special-get-raises" false).params) s.abs) = some (true) := by
  kernel_rfl
open PySem.W PySem.Calls HandSHeadRun in
theorem pS_false (w : World) (os : OsState) : (endF (stepQ (denQ tabQ) R.prog (w.withFollow "special-get-raises" false)) 20000 R.prog (w.withFollow "special-get-raises" false) os).map (fun s => (seenQ (PySem.W.view R.prog [145]) loose (importedModules R.prog.main.body) (fun s => xlAt (PySem.W.view R.prog [145]) [] s && recOk R.toRowW.records s) s.abs, (ob s).2)) = some ((openGood (PySem.W.view R.prog [145]) loose, (hk.val (w.withFollow "special-get-raises" false)).2)) := by
  kernel_rfl
open PySem.W PySem.Calls HandSHeadRun in
theorem pA_false (w : World) (os : OsState) : (endF (stepQ (denQ tabQ) R.prog (w.withFollow "special-get-raises" false)) 20000 R.prog (w.withFollow "special-get-raises" false) os).map (fun s => (ob s).1.1) = some ((hk.val (w.withFollow "special-get-raises" false)).1.1) := by
  kernel_rfl
open PySem.W PySem.Calls HandSHeadRun in
theorem pE_false (w : World) (os : OsState) : (endF (stepQ (denQ tabQ) R.prog (w.withFollow "special-get-raises" false)) 20000 R.prog (w.withFollow "special-get-raises" false) os).map (fun s => (ob s).1.2) = some ((hk.val (w.withFollow "special-get-raises" false)).1.2) := by
  kernel_rfl
theorem run_false (w : World) : HandSHeadRun.RunEq R (PySem.W.view R.prog [145]) hk ob 20000 loose (w.withFollow "special-get-raises" false) := fun os => opt_run (pL_false w os) (pS_false w os) (pA_false w os) (pE_false w os)
open PySem.W PySem.Calls HandSHeadRun in
theorem pL_true (w : World) (os : OsState) : (endF (stepQ (denQ tabQ) R.prog (w.withFollow "special-get-raises" true)) 20000 R.prog (w.withFollow "special-get-raises" true) os).map (fun s => looksF R.prog (boot_heap (w.withFollow "special-get-raises" true).params) s.abs) = some (true) := by
  kernel_rfl
open PySem.W PySem.Calls HandSHeadRun in
theorem pS_true (w : World) (os : OsState) : (endF (stepQ (denQ tabQ) R.prog (w.withFollow "special-get-raises" true)) 20000 R.prog (w.withFollow "special-get-raises" true) os).map (fun s => (seenQ (PySem.W.view R.prog [145]) loose (importedModules R.prog.main.body) (fun s => xlAt (PySem.W.view R.prog [145]) [] s && recOk R.toRowW.records s) s.abs, (ob s).2)) = some ((openGood (PySem.W.view R.prog [145]) loose, (hk.val (w.withFollow "special-get-raises" true)).2)) := by
  kernel_rfl
open PySem.W PySem.Calls HandSHeadRun in
theorem pA_true (w : World) (os : OsState) : (endF (stepQ (denQ tabQ) R.prog (w.withFollow "special-get-raises" true)) 20000 R.prog (w.withFollow "special-get-raises" true) os).map (fun s => (ob s).1.1) = some ((hk.val (w.withFollow "special-get-raises" true)).1.1) := by
  kernel_rfl
open PySem.W PySem.Calls HandSHeadRun in
theorem pE_true (w : World) (os : OsState) : (endF (stepQ (denQ tabQ) R.prog (w.withFollow "special-get-raises" true)) 20000 R.prog (w.withFollow "special-get-raises" true) os).map (fun s => (ob s).1.2) = some ((hk.val (w.withFollow "special-get-raises" true)).1.2) := by
  kernel_rfl
theorem run_true (w : World) : HandSHeadRun.RunEq R (PySem.W.view R.prog [145]) hk ob 20000 loose (w.withFollow "special-get-raises" true) := fun os => opt_run (pL_true w os) (pS_true w os) (pA_true w os) (pE_true w os)
theorem run (w : World) : HandSHeadRun.RunEq R (PySem.W.view R.prog [145]) hk ob 20000 loose w := PySem.W.byRow2 "special-get-raises" (P := fun w => HandSHeadRun.RunEq R (PySem.W.view R.prog [145]) hk ob 20000 loose w) run_false run_true w
end K20
set_option Elab.async false
set_option linter.all false
set_option maxRecDepth 100000
set_option maxHeartbeats 4000000
namespace K20
open PySem PySem.Spec PyProof.Rows L2 Lc
def spLNm : Sp := fun vs H Q _ => ∃ (t l : Addr), vs = [.ref t] ∧ TapeL l H t ∧ ∀ (x : Str) (H' : Hp), Sh 12 x → nameB (.str x) = true → TapeL l H' t → SameB t H H' → Q (.str x) H'
abbrev sLnm : Stmt := top 128
section
variable {P : Program} {w : World} {K : PySem.W.Frag} {mg : Str → Option Value} {base : Heap} {f fD : Addr} {fd fdD : FuncData}
theorem scLnm : FnScope ["_law_tape_here", "_law_letters", "_law_size", "_law_place", "_law_sign", "_law_k"] ["_law_tape_here"] (defScope sLnm) := ⟨rfl, rfl, rfl, by decide +kernel, rfl, by decide +kernel, by decide +kernel⟩
theorem ok_lnm (F : Fun K "_law_name" "_law_name" sLnm f fd) (T : Bt mg) (GD : FnOk P w K mg base CX0 1 fD fdD ["_law_tape_here", "_law_many"] spDrawL) (mD : mg "_law_draw" = some (.ref fD)) (kD : PySem.W.keepIn K (.ref fD) = true) (bD : Binds K fdD ["_law_tape_here", "_law_many"] []) :
    FnOk P w K mg base CX0 2 f fd ["_law_tape_here"] spLNm := by
  refine F.ok scLnm (fun vs H Q E h => ?_) (fun cdv A outer s H vs Q E hr h => ?_)
  · obtain ⟨t, l, rfl, _⟩ := h
    rfl
  · obtain ⟨t, l, rfl, hT, k⟩ := h
    replace hT : TapeL l H t := hT
    refine ⟨_, pss_cons (ps_set (i := 1) scLnm.nd rfl (Or.inr rfl) pe_str)
      (pss_cons (ps_set (i := 2) scLnm.nd rfl (Or.inl rfl) (pe_op op_add pe_int (pe_call GD hr (by rfl) mD kD bD .nil pass0 (pa_cons (pv 0) (pa_cons pe_int pa_nil)))))
      (pss_cons (ps_if (pt_cmpR op_eq (pe_call GD hr (by rfl) mD kD bD .nil pass0 (pa_cons (pv 0) (pa_cons pe_int pa_nil))) pe_int (nomark _))
        (pss_cons (ps_set (i := 3) scLnm.nd rfl (Or.inl rfl) (pe_call GD hr (by rfl) mD kD bD .nil pass0 (pa_cons (pv 0) (pa_cons (pv 2) pa_nil))))
        (pss_cons (ps_set (i := 4) scLnm.nd rfl (Or.inl rfl) (pe_ix ix_str (pv 1) (pe_call GD hr (by rfl) mD kD bD .nil pass0 (pa_cons (pv 0) (pa_cons (pe_op op_add pe_int (pe_op op_mul pe_int (pe_callTy call_int1 (by rfl) T.int boot_int (pa_cons (pe_cmpR op_gt (pv 3) pe_int (nomark _)) pa_nil)))) pa_nil))) (fun _ _ => rfl)))
        (pss_one (ps_ret (pe_op op_add_str (pe_op op_add_str (pe_op op_mulS pe_str (pv 3)) (pv 4)) (pe_op op_mulS pe_str (pe_op op_sub (pe_op op_sub (pv 2) pe_int) (pv 3)))))))) pss_nil)
      (pss_one (ps_ret (pe_join pe_str (pe_lc (own := [("_law_k", 5)]) (g := gName 5) (tt := tYes) (te := tOp rIxS (tVar 1) (tCall spDrawL [] E0 (tCons (tVar 0) (tCons (tOp (rI0 fun i j => .int (i + j)) (tC (.int 26)) (tOp (rI CMul fun i j => .int (i * j)) (tC (.int 10)) (tCB (fun xs H Q => (∃ i, xs = [.int i] ∧ Q (.int i) H) ∨ ∃ k, xs = [.bl k] ∧ Q (.int (if k then 1 else 0)) H) (tCons (tOp (rI0 fun i j => .bl (decide (j < i))) (tVar 5) (tC (.int 0))) tNil)))) tNil)))) (by rfl) scLnm.nd (pi_range1 (by rfl) T.range (pa_cons (pv 2) pa_nil))
        (blkOk_by (own := [("_law_k", 5)]) (N := ["_law_tape_here", "_law_letters", "_law_size", "_law_place", "_law_sign", "_law_k"]) (sc := defScope sLnm) (by decide +kernel)) (fun _ _ _ _ _ => pg_name (i := 5) scLnm.nd rfl (Or.inl rfl)) (fun _ _ _ _ _ => pts_nil)
        (fun _ _ _ _ _ => pe_ix ix_str (pv 1) (pe_call GD hr (by rfl) mD kD bD .nil pass0 (pa_cons (pv 0) (pa_cons (pe_op op_add pe_int (pe_op op_mul pe_int (pe_callTy call_int1 (by rfl) T.int boot_int (pa_cons (pe_cmpR op_gt (pv 5) pe_int (nomark _)) pa_nil)))) pa_nil))) (fun _ _ => rfl)))))))), ?_⟩
    have big : ∀ z : Int, 0 ≤ z → z ≤ 1000 → z.natAbs < 2 ^ 4000 := fun z h1 h2 => big1000 h1 h2
    have sl : (signs.cps.toList.length : Int) = 36 := by rw [signs_len]; rfl
    have sz : signs.length ≤ sizeLine := by rw [lenL, signs_len]; decide
    refine ⟨_, rfl, t, l, _, rfl, hT, by decide, big _ (by decide) (by decide), fun k1 H1 u1 v1 T1 S1 => ⟨_, _, rfl, rfl, ?_⟩⟩
    refine ⟨_, rfl, t, l, _, rfl, T1, by decide, big _ (by decide) (by decide), fun k2 H2 u2 v2 T2 S2 => ⟨rfl, _, rfl, ?_⟩⟩
    refine ite2 (fun _ => ?_) (fun _ => ?_)
    · refine ⟨_, rfl, _, rfl, t, l, _, rfl, T2, by omega, big _ (by omega) (by omega), fun k3 H3 u3 v3 T3 S3 => ?_⟩
      refine ⟨_, rfl, _, rfl, _, rfl, _, _, rfl, rfl, .inr ⟨_, rfl, _, _, rfl, rfl, .inl ⟨by decide, by decide⟩, _, _, rfl, rfl, t, l, _, rfl, T3, by split <;> decide, big _ (by split <;> decide) (by split <;> decide), fun k4 H4 u4 v4 T4 S4 => ?_⟩⟩
      obtain ⟨c, hc, mc, isc, ilc⟩ := sgn_at (i := k4) u4 (by split at v4 <;> omega)
      refine ⟨signs, k4, c, rfl, rfl, sz, hc, ?_⟩
      have m1 : Sh k3.toNat (Txt.mul (PySem.Str.ofString "a") k3) := sh_mul sh_a (Nat.le_refl _) (Nat.le_refl _)
      have m2 : Sh 1 (⟨#[c]⟩ : Str) := sh_one (signs_ok c mc)
      have m3 : Sh (1 + k1 - 1 - k3).toNat (Txt.mul (PySem.Str.ofString "a") (1 + k1 - 1 - k3)) := sh_mul sh_a (Nat.le_refl _) (Nat.le_refl _)
      have ss : (100 : Nat) ≤ sizeLine := by decide
      refine ⟨_, rfl, _, _, rfl, rfl, mul_ok a_size (by omega) (by omega), _, rfl, _, _, rfl, rfl, ?_, _, rfl, _, _, rfl, rfl, _, rfl, _, _, rfl, rfl, _, _, rfl, rfl, mul_ok a_size (by omega) (by omega), _, _, rfl, rfl, ?_, ?_⟩
      · have := sh_len m1
        have := sh_len m2
        omega
      · have := sh_len (sh_app m1 m2)
        have := sh_len m3
        omega
      · exact k _ _ ((sh_app (sh_app m1 m2) m3).mono (by omega)) (name_one u3 (by omega) (by omega) isc (fun z => ilc (by rw [z] at v4; simpa using v4))) T4 (((S1.trans S2).trans S3).trans S4)
    · refine ⟨⟨_, rfl⟩, _, rfl, _, rfl, by omega, by omega, fun D hD => ?_⟩
      have nD : D ≠ t := T2.tape.ne hD
      have nL : D ≠ l := by
        obtain ⟨xs, z⟩ := T2.list
        exact Ne.symm (ne_of_none z hD)
      let one : Nat → Str := fun c => ⟨#[c]⟩
      refine lc_it walk_range (fun i H' => ∃ cs : List Nat, H' D = some (.lst ((cs.map one).map V.str)) ∧ cs.length = i ∧ (∀ c ∈ cs, c ∈ signs.cps.toList ∧ inS c = true) ∧ (∀ c r, cs = c :: r → inL c = true) ∧ TapeL l H' t ∧ SameB t H2 H') ⟨[], upd_same, rfl, by simp, nofun, T2.same (Same.upd hD), Same.b t (Same.upd hD)⟩ (fun _ _ _ _ => True.intro) ?_ ?_
      · rintro i y H' H'' hi ⟨cs, h1, h2, h3, h3b, h4, h5⟩ ⟨rfl, rfl⟩
        refine ⟨rfl, ?_⟩
        change tOp rIxS (tVar 1) _ _ _ _
        refine ⟨_, rfl, _, rfl, _, rfl, _, _, rfl, rfl, .inr ⟨_, rfl, _, _, rfl, rfl, .inl ⟨by decide, by decide⟩, _, _, rfl, rfl, t, l, _, rfl, h4, by split <;> decide, big _ (by split <;> decide) (by split <;> decide), fun k4 H4 u4 v4 T4 S4 => ?_⟩⟩
        obtain ⟨c, hc, mc, isc, ilc⟩ := sgn_at (i := k4) u4 (by split at v4 <;> omega)
        refine ⟨signs, k4, c, rfl, rfl, sz, hc, _, S4 _ _ nD h1, by rw [List.length_map, List.length_map, h2]; exact Nat.lt_trans hi (Nat.lt_of_le_of_lt (show (1 + k1).toNat ≤ 12 by omega) (by decide)), ?_⟩
        refine ⟨cs ++ [c], by rw [upd_same, List.map_append, List.map_append]; rfl, by rw [List.length_append, h2]; rfl, fun y hy => ?_, fun c' r' e => ?_, T4.upd nD nL, fun b o n e => ?_⟩
        · rcases List.mem_append.mp hy with hy | hy
          · exact h3 y hy
          · rw [List.mem_singleton.mp hy]
            exact ⟨mc, isc⟩
        · cases cs with
          | nil =>
            have e : c = c' := by injection e
            rw [← e]
            have i0 : i = 0 := by rw [← h2]; rfl
            subst i0
            exact ilc (by simpa using v4)
          | cons d r =>
            injection e with e _
            rw [← e]
            exact h3b d r rfl
        · rw [upd_ne (ne_of_none e hD)]
          exact (h5.trans S4) b o n e
      · rintro H' ⟨cs, h1, h2, h3, h3b, h4, h5⟩
        have e12 : cs.length ≤ 12 := by omega
        have s1 : ∀ y ∈ cs.map one, Sh 1 y := fun y hy => by
          obtain ⟨c, hc, rfl⟩ := List.mem_map.mp hy
          exact sh_one (signs_ok c (h3 c hc).1)
        have sum : ∀ l : List Str, (∀ y ∈ l, Sh 1 y) → (l.map (·.length)).sum ≤ l.length := by
          intro l
          induction l with
          | nil => intro _; simp
          | cons y l ih =>
            intro h
            have := ih fun z hz => h z (List.mem_cons_of_mem _ hz)
            have := sh_len (h y List.mem_cons_self)
            simp only [List.map_cons, List.sum_cons, List.length_cons]
            omega
        have lm : (cs.map one).length = cs.length := List.length_map ..
        refine ⟨_, D, cs.map one, rfl, rfl, .inl (SqL.of h1), by have := sum _ s1; show _ + (cs.map one).length * 0 ≤ _; omega, ?_⟩
        exact k _ _ ((join_sh _ s1).mono (by omega)) (name_join (fun z => by rw [z] at h2; have : (0 : Nat) = (1 + k1).toNat := h2; omega) e12 h3b (fun c hc => (h3 c hc).2)) h4 ((S1.trans S2).trans h5)
end
end K20
set_option Elab.async false
set_option linter.all false
set_option maxRecDepth 100000
set_option maxHeartbeats 4000000
namespace Lc
open PySem PySem.Spec PyProof.Rows L2
theorem ud_entry : entryFor table "dict.update.loop" = some Builtin.«dict.update.loop» := entryFor_of_tree (by kernel_rfl)
theorem ud_plain : plainId "dict.update.loop" = true := by decide +kernel
section
variable {prog : Program} {w : World} {A : Around} {E : Value → Shared → Prop}
/-- the walk over the pairs -/
theorem upd_loopT {R : Result → Shared → Prop} {S I l : Addr} {items : Array Value} {res : Value} (hh : A.handled = none) (hlI : l ≠ I) (hSI : S ≠ I) (hSl : S ≠ l) :
    ∀ (rest : List (Key × Value)) (i : Nat) (acc : List (Key × Value)) (ix : Int) (t : Tok) (s : Shared), items.size = i + rest.length → acc.length + rest.length ≤ sizeLine →
      (∀ (j : Nat) (q : Key × Value), rest[j]? = some q → ∃ (b : Addr) (u : Value), items[i + j]? = some (.ref b) ∧ b ≠ S ∧ b ≠ I ∧ IsTup s.heap b #[u, q.2] ∧ keyIs q.1 u = true) →
      s.heap.IsTupleIter I l i → s.heap.IsTuple l items → s.heap.DictOf (mixKind prog w) S acc →
      (∀ h' tk, h'.DictOf (mixKind prog w) S (merged acc rest) → (∀ b o, b ≠ S → b ≠ I → s.heap.get? b = some o → h'.get? b = some o) → R (.ok (.ret res)) { s with heap := h', toks := tk }) →
      codeAny (model prog w) A (.builtin "dict.update.loop" ⟨[.ref S, .ref I, .int ix t, res], []⟩) R s
  | [], i, acc, ix, t, s, hsz, hln, ht, hit, hl, hm, hR => by
    refine codeAny_builtin ud_entry ?_
    rw [Around.under_plainId ud_plain _]
    show wpAny _ A.in1 (pyNext (.ref I) >>= _) _ _ s
    refine wpAny_bind (wpAny_pyNext_tuple_end (A := A.in1) hh hit hl (by first | exact Array.getElem?_eq_none (Nat.le_of_eq hsz) | (simp at hsz; simp; omega)) fun h' he => ?_)
    show wpAny _ A.in1 (Builtin.Dict.addKeywords S [] >>= _) _ _ _
    refine wpAny_bind (wpAny_pure (wpAny_pure ?_))
    exact hR h' s.toks (hm.extBut he hSI) fun b o _ hb e => he b o hb e
  | q :: rest, i, acc, ix, t, s, hsz, hln, ht, hit, hl, hm, hR => by
    obtain ⟨b, u, hb, hbS, hbI, htup, hk⟩ := ht 0 q rfl
    rw [List.length_cons] at hsz hln
    refine codeAny_builtin ud_entry ?_
    rw [Around.under_plainId ud_plain _]
    show wpAny _ A.in1 (pyNext (.ref I) >>= _) _ _ s
    refine wpAny_bind (wpAny_pyNext_tuple_item (x := .ref b) hit hl (by simpa using hb) fun h1 hit1 hs1 => ?_)
    have ht1 : IsTup h1 b #[u, q.2] := htup.extBut hs1.extBut hbI
    have hl1 : h1.IsTuple l items := hl.extBut hs1.extBut hlI
    have hm1 : h1.DictOf (mixKind prog w) S acc := hm.extBut hs1.extBut hSI
    obtain ⟨o, ho, hc, n, hd⟩ := id ht1
    show wpAny _ A.in1 (holding [Value.ref b] _ >>= _) _ _ _
    refine wpAny_bind (wpAny_holding ?_)
    refine wpAny_bind (wpAny_tryCatch ?_)
    unfold Builtin.Dict.pairItems
    refine wpAny_bind (wpAny_typeOf (T := "tuple") ⟨o, ho, hc⟩ ?_)
    rw [if_pos (by first | decide | rfl | simp)]
    refine wpAny_bind (wpAny_seqItems ho hd (wpAny_pure ?_))
    show wpAny _ A.in1 (holding [u, q.2] (dictSet S u q.2)) _ _ _
    refine wpAny_holding (wpAny_dictSet_pairs (knd := mixKind prog w) (k := q.1) hk hm1 (fun h2 hm2 hs2 => ?_) (by omega))
    refine wpAny_pure ⟨plainId_quiet ud_plain _, upd_loopT (items := items) hh hlI hSI hSl rest (i + 1) (stored acc q.1 q.2) (ix + 1) 0 _ (show items.size = i + 1 + rest.length by omega) ?_ (fun j q' e => ?_) ?_ ?_ hm2 fun h' tk hd' k => ?_⟩
    · have z := stored_length_le acc q.1 q.2
      omega
    · obtain ⟨b', u', hb', hbS', hbI', htup', hk'⟩ := ht (j + 1) q' (by simpa using e)
      refine ⟨b', u', ?_, hbS', hbI', (htup'.extBut hs1.extBut hbI').extBut hs2.extBut hbS', hk'⟩
      rw [show i + 1 + j = i + (j + 1) by omega]
      exact hb'
    · exact hit1.at fun o' e => hs2.extBut I o' (Ne.symm hSI) e
    · exact hl1.extBut hs2.extBut (Ne.symm hSl)
    · exact hR h' tk hd' fun c oc h3 h4 e => k c oc h3 h4 (hs2.extBut c oc h3 (hs1.extBut c oc h4 e))
/-- dict(t) of a tuple of pairs -/
theorem call_dict_pairsT {s : Shared} {l : Addr} {ol : Obj} {items : Array Value} {n : Nat} {prs : List (Key × Value)} {Q : Value → Shared → Prop} (hh : A.handled = none) (hl : s.heap.get? l = some ol) (hc : ol.cls = .type "tuple") (hd : ol.dict = none)
    (hdat : ol.data = .seq items n) (hsz : items.size = prs.length) (hln : prs.length ≤ sizeLine)
    (ht : ∀ (j : Nat) (q : Key × Value), prs[j]? = some q → ∃ (b : Addr) (u : Value), items[j]? = some (.ref b) ∧ IsTup s.heap b #[u, q.2] ∧ keyIs q.1 u = true)
    (h : ∀ h' tk, h'.DictOf (mixKind prog w) s.heap.objs.size (merged [] prs) → (∀ b o, s.heap.get? b = some o → h'.get? b = some o) → Q (.ref s.heap.objs.size) { s with heap := h', toks := tk }) :
    wpAny (model prog w) A (call (.type "dict") [.ref l]) Q E s := by
  refine callType_codes (Q₁ := fun obj s₁ => obj = .ref s.heap.objs.size ∧ s₁ = { s with heap := s.heap.push { cls := .type "dict", data := .dict #[] } }) PySem.F.kt_called_dict (PySem.F.kt_typeCall_dict_1 _) PySem.F.entry_dict_init (kt_code_dict_new _ ⟨rfl, rfl⟩) ?_
  rintro obj s₁ ⟨rfl, rfl⟩
  have hnew : (s.heap.push { cls := .type "dict", data := .dict #[] }).DictOf (mixKind prog w) s.heap.objs.size [] := Heap.DictOf.new s.heap
  have k0 : ∀ b o, s.heap.get? b = some o → (s.heap.push { cls := .type "dict", data := .dict #[] }).get? b = some o := fun b o e => Heap.get?_push_of_some _ e
  refine ⟨hnew.typeIs, PySem.F.args_dict_init_2 _ _, ?_⟩
  unfold Builtin.«dict.__init__»
  refine wpAny_bind ?_
  unfold Builtin.Dict.selfAndRest
  refine wpAny_bind (wpAny_notOrdered_dict hnew.typeIs ?_)
  show wpAny _ _ (pure (s.heap.objs.size, [Value.ref l])) _ _ _
  refine wpAny_pure ?_
  show wpAny _ _ (Builtin.Dict.updateFrom "dict.__init__" s.heap.objs.size (.ref l) [] .none) _ _ _
  unfold Builtin.Dict.updateFrom
  refine wpAny_bind (wpAny_typeOf (T := "tuple") ⟨ol, k0 _ _ hl, hc⟩ ?_)
  rw [if_pos (by first | decide | rfl | simp)]
  refine wpAny_bind (getAttrOr_miss_tuple (k0 _ _ hl) hc hdat hd tuple_no_keys (by decide +kernel) hh fun h1 tk1 hk1 => ?_)
  rw [if_pos (show (none : Option Value).isNone = true from rfl)]
  refine wpAny_bind (wpAny_rule ?_)
  have hl1 : h1.IsTuple l items := ⟨ol, hk1 _ _ (k0 _ _ hl), hc, n, hdat⟩
  have hS1 : s.heap.objs.size < h1.objs.size := by
    have e : (s.heap.push { cls := .type "dict", data := .dict #[] }).get? s.heap.objs.size = some { cls := .type "dict", data := .dict #[] } := Heap.get?_push_size _ rfl
    exact Heap.lt_size (hk1 _ _ e)
  refine wpAny_bind (wpAny_pyIter_tuple hl1 ?_)
  have k2 : ∀ b o, h1.get? b = some o → (h1.push { cls := .type "tuple_iterator", data := .fields #[.ref l, .int 0 0] }).get? b = some o := fun b o e => Heap.get?_push_of_some _ e
  have hlt : l < s.heap.objs.size := Heap.lt_size hl
  have key := upd_loopT (prog := prog) (w := w) (A := A.in1) (R := wants (fun r s₂ => r = .none ∧ Q (.ref s.heap.objs.size) s₂) E) (S := s.heap.objs.size) (I := h1.objs.size) (l := l) (items := items) (res := Value.none) hh
    (Nat.ne_of_lt (Nat.lt_trans hlt hS1)) (Nat.ne_of_lt hS1) (Nat.ne_of_gt hlt) prs 0 [] 0 0
    { s with heap := h1.push { cls := .type "tuple_iterator", data := .fields #[.ref l, .int 0 0] }, toks := tk1 } (by rw [hsz, Nat.zero_add]) (by rw [List.length_nil, Nat.zero_add]; exact hln)
    (fun j q e => by
      obtain ⟨b, u, e1, e2, e3⟩ := ht j q e
      have hb : b < s.heap.objs.size := e2.lt
      exact ⟨b, u, by rw [Nat.zero_add]; exact e1, Nat.ne_of_lt hb, Nat.ne_of_lt (Nat.lt_trans hb hS1), e2.keeps fun c o z => k2 _ _ (hk1 _ _ (k0 _ _ z)), e3⟩)
    ⟨_, Heap.get?_push_size _ rfl, rfl, rfl⟩ (hl1.at fun o e => k2 _ _ e) ((hnew.at fun o e => hk1 _ _ e).at fun o e => k2 _ _ e)
    (fun h' tk hd' k => ⟨rfl, h h' tk hd' fun b o e => k b o (Nat.ne_of_lt (Heap.lt_size e)) (Nat.ne_of_lt (Nat.lt_trans (Heap.lt_size e) hS1)) (k2 _ _ (hk1 _ _ (k0 _ _ e)))⟩)
  first
    | exact wpAny_pure ⟨plainId_quiet ud_plain _, key⟩
    | exact wpAny_bind (wpAny_pure (wpAny_pure ⟨plainId_quiet ud_plain _, key⟩))
end
/-! ## tuples whose very object is known: they have no table of their own -/
def ZT (H : Hp) (a : Addr) (xs : List V) : Prop := ∃ ob : Obj, ob.cls = .type "tuple" ∧ ob.dict = none ∧ H a = some (.frz ob (.tup xs))
theorem ZT.rd {H : Hp} {a : Addr} {xs : List V} (h : ZT H a xs) : Rd H a (.tup xs) := let ⟨ob, _, _, e⟩ := h; .inr ⟨ob, e⟩
theorem ZT.sq {K : PySem.W.Frag} {H : Hp} {a : Addr} {xs : List V} (h : ZT H a xs) : SqT K H a xs := .inl h.rd
theorem ZT.same {H H' : Hp} {a : Addr} {xs : List V} (h : ZT H a xs) (s : Same H H') : ZT H' a xs := let ⟨ob, c, d, e⟩ := h; ⟨ob, c, d, s _ _ e⟩
theorem _root_.L2.Rd.same {H H' : Hp} {a : Addr} {xs : List V} (h : Rd H a (.tup xs)) (s : Same H H') : Rd H' a (.tup xs) := by
  rcases h with h | ⟨o, h⟩
  · exact .inl (s _ _ h)
  · exact .inr ⟨o, s _ _ h⟩
theorem _root_.L2.Rd.sq {K : PySem.W.Frag} {H : Hp} {a : Addr} {xs : List V} (h : Rd H a (.tup xs)) : SqT K H a xs := .inl h
theorem Tape.neR {t p : Addr} {H : Hp} {xs : List V} (h : Tape H t) (e : Rd H p (.tup xs)) : p ≠ t := by
  intro z
  subst z
  obtain ⟨_, _, _, _, _, h1, _⟩ := h
  rcases e with e | ⟨o, e⟩ <;> (rw [h1] at e; cases e)
theorem _root_.L2.Rd.b {t : Addr} {H H' : Hp} {a : Addr} {xs : List V} (h : Rd H a (.tup xs)) (T : Tape H t) (s : SameB t H H') : Rd H' a (.tup xs) := by
  have n := T.neR h
  rcases h with h | ⟨o, h⟩
  · exact .inl (s _ _ n h)
  · exact .inr ⟨o, s _ _ n h⟩
theorem ZT.b {t : Addr} {H H' : Hp} {a : Addr} {xs : List V} (h : ZT H a xs) (T : Tape H t) (s : SameB t H H') : ZT H' a xs := by
  have n := T.neR h.rd
  obtain ⟨ob, c, d, e⟩ := h
  exact ⟨ob, c, d, s _ _ n e⟩
section
variable {X : Cx}
theorem zt_new {pins : List (Addr × Obj)} {σ : L2.St} {H : Hp} {s : Shared} {ys : List V} {its : List Value} (I : Inv X pins σ H s) (hz : ys.length ≤ sizeLine) (r : Vals ys its) :
    Inv X pins σ (upd H s.heap.objs.size (.frz { cls := .type "tuple", data := .seq its.toArray } (.tup ys))) { s with heap := s.heap.push { cls := .type "tuple", data := .seq its.toArray } } :=
  I.laid (t' := s.toks) (fun b o e => Heap.get?_push_of_some _ e) (Nat.le_refl _) (show ObjOk X.prog X.w _ _ _ (.frz _ (.tup ys)) from ⟨Heap.get?_push_size _ rfl, hz, its, r, IsTup.new _ _⟩)
/-- tuple(list): what is made is known to be plain -/
theorem call_tupleZ : CallR X (.type "tuple") (fun xs H Q => ∃ p ys, xs = [.ref p] ∧ SqL X.K H p ys ∧ ∀ l ob, H l = none → ob.cls = .type "tuple" → ob.dict = none → Q (.ref l) (upd H l (.frz ob (.tup ys)))) := by
  intro pins s σ H xs us Q I r h
  obtain ⟨p, ys, rfl, hq, q⟩ := h
  obtain ⟨u, rfl, rx⟩ := vals1 r
  cases rx
  obtain ⟨its, r', pl, hz⟩ := I.list hq
  have hlen := r'.length
  refine call_tuple_list pl.isList (fun h' kp => ?_) (by simp only [List.size_toArray] <;> omega)
  have I1 : Inv X pins σ H { s with heap := h' } := I.kept (t' := s.toks) kp
  exact ⟨.ref h'.objs.size, _, zt_new I1 hz r', rfl, q _ _ (I1.hok.fresh (Nat.le_refl _)) rfl rfl⟩
abbrev rCatZ (K : PySem.W.Frag) : V → V → Hp → VK → Prop := fun x y H Q => ∃ (a b : Addr) (xs ys : List V), x = .ref a ∧ y = .ref b ∧ SqT K H a xs ∧ SqT K H b ys ∧ xs ≠ [] ∧ xs.length + ys.length ≤ sizeLine ∧ (ys = [] → Q (.ref a) H) ∧ (ys ≠ [] → ∀ p ob, H p = none → ob.cls = .type "tuple" → ob.dict = none → Q (.ref p) (upd H p (.frz ob (.tup (xs ++ ys)))))
theorem op_catZ : OpR X (binaryOp .Add) (rCatZ X.K) := by
  intro pins s σ H x y v u Q I rx ry h
  obtain ⟨a, b, xs, ys, rfl, rfl, ha, hb, hx, hz, q1, q2⟩ := h
  cases rx
  cases ry
  obtain ⟨its, r1, p1, _⟩ := I.tuple ha
  obtain ⟨its2, r2, p2, _⟩ := I.tuple hb
  refine HT.cat_tup p1 p2 (fun z => hx (r1.nil_iff.mp z)) (fun z => ⟨.ref a, H, I, rfl, q1 (r2.nil_iff.mp z)⟩) (fun z => ?_) (by rw [← r1.length, ← r2.length]; exact hz)
  exact ⟨.ref s.heap.objs.size, _, zt_new I (by rw [List.length_append]; exact hz) (r1.append r2), rfl, q2 (fun w => z (r2.nil_iff.mpr w)) _ _ (I.hok.fresh (Nat.le_refl _)) rfl rfl⟩
/-- dict(t) of a plain tuple of pairs: later pairs win -/
theorem call_dictZ (hcalm : X.calm = true) : CallR X (.type "dict") (fun xs H Q => ∃ (a : Addr) (ps : List Addr) (kvs : List (Key × V)), xs = [.ref a] ∧ ZT H a (ps.map V.ref) ∧ Paired (fun p kv => SqT X.K H p [kV kv.1, kv.2]) ps kvs ∧
    ∀ p, H p = none → Q (.ref p) (upd H p (.dK (mergeK [] kvs)))) := by
  intro pins s σ H xs us Q I r q
  obtain ⟨a, ps, kvs, ex, ⟨o, hc, hd, hq⟩, hp, q⟩ := q
  subst ex
  obtain ⟨u, eu, rx⟩ := vals1 r
  subst eu
  cases rx
  obtain ⟨ho, hz, its, rv, o', ho', _, n, hdat⟩ := I.hok a _ hq
  rw [ho] at ho'
  cases ho'
  have ei := refs_at rv
  subst ei
  rw [List.length_map] at hz
  obtain ⟨prs, rel, hl, hpr⟩ := pairs_of I hp
  refine call_dict_pairsT (prs := prs) (I.ok.hd hcalm) ho hc hd hdat (by simp [hl]) (by rw [hl]; exact hz) (fun j q' e => ?_) fun h' tk hd' k => ?_
  · obtain ⟨b, u, e1, e2, e3⟩ := hpr j q' e
    exact ⟨b, u, by simp [e1], e2, e3⟩
  · have hm : (s.heap.objs.size == sysModules) = false := beq_eq_false_iff_ne.mpr (Nat.ne_of_gt I.big)
    have hlen : (mergeK [] kvs).length ≤ sizeLine := by
      refine Nat.le_trans (length_mergeK kvs []) ?_
      rw [List.length_nil, Nat.zero_add, rel.length, hl]
      exact hz
    exact ⟨.ref s.heap.objs.size, upd H s.heap.objs.size (.dK (mergeK [] kvs)), I.laid (t' := tk) k (Nat.le_refl _) (show ObjOk X.prog X.w _ _ _ (.dK (mergeK [] kvs)) from ⟨hlen, hm, merged [] prs, KV.merge rel .nil, hd'⟩), rfl, q _ (I.hok.fresh (Nat.le_refl _))⟩
end
end Lc
namespace Lc
open PySem PySem.Spec PyProof.Rows L2
/-- a tuple, or a list -/
def LT (H : Hp) (a : Addr) (xs : List V) : Prop := H a = some (.tup xs) ∨ H a = some (.lst xs)
theorem LT.same {H H' : Hp} {a : Addr} {xs : List V} (h : LT H a xs) (s : Same H H') : LT H' a xs := h.imp (s _ _) (s _ _)
theorem LT.sq {K : PySem.W.Frag} {H : Hp} {a : Addr} {xs : List V} (h : LT H a xs) : SqL K H a xs ∨ SqT K H a xs := h.symm.imp SqL.of SqT.of
end Lc
set_option Elab.async false
set_option linter.all false
set_option maxRecDepth 100000
set_option maxHeartbeats 4000000
namespace K20
open PySem PySem.Spec PyProof.Rows L2 Lc
abbrev sFr : Stmt := top 129
def spFr : Sp := fun vs H Q _ => ∃ (t c l : Addr) (ss : List Str), vs = [.ref t, .ref l] ∧ TapeL c H t ∧ H l = some (.lst (ss.map V.str)) ∧ ss.length < 36 ∧ ∀ (x : Str) (H' : Hp), Sh 12 x → nameB (.str x) = true → x ∉ ss → TapeL c H' t → SameB t H H' → Q (.str x) H'
theorem ne_tape {H : Hp} {t l : Addr} {ss : List Str} (T : Tape H t) (h : H l = some (.lst (ss.map V.str))) : l ≠ t := fun z => by
  obtain ⟨a, _, _, _, _, ht, _⟩ := T
  rw [z, ht] at h
  cases ss with
  | nil => cases h
  | cons x r =>
    injection h with h
    injection h with h
    injection h with h1 _
    cases h1
section
variable {P : Program} {w : World} {K : PySem.W.Frag} {mg : Str → Option Value} {base : Heap} {f fN : Addr} {fd fdN : FuncData}
theorem scFr : FnScope ["_law_tape_here", "_law_taken", "_law_name_here", "_law_letter"] ["_law_tape_here", "_law_taken"] (defScope sFr) := ⟨rfl, rfl, rfl, by decide +kernel, rfl, by decide +kernel, by decide +kernel⟩
theorem ok_fr (F : Fun K "_law_fresh" "_law_fresh" sFr f fd) (GN : FnOk P w K mg base CX0 2 fN fdN ["_law_tape_here"] spLNm) (mN : mg "_law_name" = some (.ref fN)) (kN : PySem.W.keepIn K (.ref fN) = true) (bN : Binds K fdN ["_law_tape_here"] []) :
    FnOk P w K mg base CX0 3 f fd ["_law_tape_here", "_law_taken"] spFr := by
  refine F.ok scFr (fun vs H Q E h => ?_) (fun cdv A outer s H vs Q E hr h => ?_)
  · obtain ⟨t, c, l, ss, rfl, _⟩ := h
    rfl
  · obtain ⟨t, tl, l, ss, rfl, hT, hl, l36, k⟩ := h
    refine ⟨_, pss_cons (ps_set (i := 2) scFr.nd rfl (Or.inl rfl) (pe_call GN hr (by rfl) mN kN bN .nil pass0 (pa_cons (pv 0) pa_nil)))
      (pss_cons (ps_if (pt_cmpR op_notIn_seq (pv 2) (pv 1) (by rfl)) (pss_one (ps_ret (pv 2))) pss_nil)
      (pss_cons (ps_for PassesOwn.never rfl (pi_str pe_str) (pg_name (i := 3) scFr.nd rfl (Or.inl rfl))
        (pss_one (ps_if (pt_cmpR op_notIn_seq (pe_op op_add_str (pe_slice sl_str (pv 2) po_none (po_some pe_int)) (pv 3)) (pv 1) (by rfl)) (pss_one (ps_ret (pe_op op_add_str (pe_slice sl_str (pv 2) po_none (po_some pe_int)) (pv 3)))) pss_nil)))
      (pss_one (ps_ret (pv 2))))), ?_⟩
    refine ⟨_, rfl, t, tl, rfl, hT, fun x H1 hx nx T1 S1 => ?_⟩
    have hl1 := S1 _ _ (ne_tape hT.tape hl) hl
    have fl : (ss.map V.str).all flatV = true := by simp [flatV]
    have ln := hx.line (by decide)
    refine ⟨_, rfl, _, rfl, l, _, rfl, .inl (SqL.of hl1), rfl, fl, _, rfl, ite2 (fun y => ?_) (fun y => ?_)⟩
    · refine ⟨_, rfl, k x H1 hx nx (fun m => ?_) T1 S1⟩
      rw [if_pos rfl, in_strs, decide_eq_true m] at y
      cases y
    · refine ⟨_, rfl, for_it walk_str (fun i σ H' => (∃ x3 : Option V, σ = [some (.ref t), some (.ref l), some (.str x), x3]) ∧ H' = H1 ∧ ∀ (j : Nat) (c : Nat), j < i → signs.cps[j]? = some c → cutS x none (some 11) ++ (⟨#[c]⟩ : Str) ∈ ss) ⟨⟨_, rfl⟩, rfl, fun j c h => absurd h (Nat.not_lt_zero _)⟩ (fun _ _ _ _ _ => trivial) ?_ ?_⟩
      · rintro i v σ Ha Hb hi ⟨⟨x3, rfl⟩, rfl, all⟩ ⟨rfl, c, hc, rfl⟩
        have hc : signs.cps[i]? = some c := hc
        have mc : c ∈ signs.cps.toList := Array.mem_toList_iff.mpr (Array.mem_of_getElem? hc)
        have isc : inS c = true := decide_eq_true mc
        have cs : c < 1114112 := signs_ok c mc
        have sc : Sh 11 (cutS x none (some 11)) := ⟨by rw [cut_list, List.length_take]; omega, (sh_cut none (some 11) hx).ok⟩
        have so : Sh 1 (⟨#[c]⟩ : Str) := sh_one cs
        have lt : (cutS x none (some 11)).length + (⟨#[c]⟩ : Str).length ≤ sizeLine := Nat.le_trans (Nat.add_le_add (sh_len sc) (sh_len so)) (by decide)
        refine ⟨_, rfl, 11, rfl, x, rfl, ln, _, rfl, _, _, rfl, rfl, lt, _, rfl, l, _, rfl, .inl (SqL.of hl1), rfl, fl, _, rfl, ite2 (fun y => ?_) (fun y => ?_)⟩
        · refine ⟨_, rfl, 11, rfl, x, rfl, ln, _, rfl, _, _, rfl, rfl, lt, k _ _ (sh_app sc so) (name_cut nx isc) (fun m => ?_) T1 S1⟩
          rw [if_pos rfl, in_strs, decide_eq_true m] at y
          cases y
        · refine ⟨⟨_, rfl⟩, rfl, fun j c' hj hc' => ?_⟩
          by_cases e : j = i
          · subst e
            rw [hc] at hc'
            cases hc'
            rw [if_pos rfl, in_strs] at y
            exact of_decide_eq_true (by simpa using y)
          · exact all j c' (by omega) hc'
      · rintro σ H' ⟨⟨x3, rfl⟩, rfl, all⟩
        refine (free_letter (x := x) l36 fun c mc => ?_).elim
        obtain ⟨j, hj⟩ := List.mem_iff_getElem?.mp mc
        rw [Array.getElem?_toList] at hj
        exact all j c (Array.getElem?_eq_some_iff.mp hj).1 hj
end
theorem Same.gone {H H' : Hp} {p : Addr} (s : Same H H') (e : H' p = none) : H p = none := by
  cases q : H p with
  | none => rfl
  | some o => rw [s p o q] at e; cases e
abbrev sCls : Stmt := top 130
/-! ## columns: pairs of texts -/
inductive Cols (H : Hp) : List V → List (Str × Str) → Prop
  | nil : Cols H [] []
  | cons {a : Addr} {z k : Str} {xs : List V} {ps : List (Str × Str)} (e : H a = some (.tup [.str z, .str k])) (r : Cols H xs ps) : Cols H (.ref a :: xs) ((z, k) :: ps)
theorem Cols.t {H H' : Hp} (s : SameT H H') : ∀ {xs : List V} {ps : List (Str × Str)}, Cols H xs ps → Cols H' xs ps
  | _, _, .nil => .nil
  | _, _, .cons e r => .cons (s _ _ e) (Cols.t s r)
theorem Cols.app {H : Hp} : ∀ {xs ys : List V} {ps qs : List (Str × Str)}, Cols H xs ps → Cols H ys qs → Cols H (xs ++ ys) (ps ++ qs)
  | _, _, _, _, .nil, r => r
  | _, _, _, _, .cons e h, r => .cons e (Cols.app h r)
theorem Cols.len {H : Hp} : ∀ {xs : List V} {ps : List (Str × Str)}, Cols H xs ps → xs.length = ps.length
  | _, _, .nil => rfl
  | _, _, .cons _ r => by rw [List.length_cons, List.length_cons, Cols.len r]
def colP (p : Str × Str) : PyData := .tuple [.str p.1, .str p.2]
theorem Cols.dh {H : Hp} : ∀ {xs : List V} {ps : List (Str × Str)}, Cols H xs ps → DhAll H xs (ps.map colP)
  | _, _, .nil => .nil
  | _, _, .cons e r => .cons (.tup e (.cons (.str _) (.cons (.str _) .nil))) (Cols.dh r)
def KindS (k : Str) : Prop := k = "number" ∨ k = "word" ∨ k = "flag"
theorem KindS.sh {k : Str} (h : KindS k) : Sh 100 k := by
  rcases h with rfl | rfl | rfl <;> exact ⟨by decide +kernel, by decide +kernel⟩
def spCls : Sp := fun vs H Q _ => ∃ (t c l n : Addr) (m : Int) (lead tk : List Str), vs = [.ref t, .ref l, .int m, .ref n] ∧ TapeL c H t ∧ LT H l (lead.map V.str) ∧ LT H n (tk.map V.str) ∧ tk.length ≤ 8 ∧ 0 ≤ m ∧ m ≤ 7 ∧ lead.length + m.toNat ≤ 8 ∧ (∀ k ∈ lead, KindS k) ∧
  ∀ (r : Addr) (xs : List V) (ps : List (Str × Str)) (H' : Hp), ZT H' r xs → Cols H' xs ps → (∀ p ∈ ps, Sh 12 p.1 ∧ nameB (.str p.1) = true ∧ KindS p.2) → (ps.map (·.1)).Nodup → (∀ p ∈ ps, p.1 ∉ tk) → lead.length ≤ ps.length → (ps.map (·.2)).take lead.length = lead → ps.length ≤ lead.length + m.toNat → TapeL c H' t → SameB t H H' → Q (.ref r) H'
section
variable {P : Program} {w : World} {K : PySem.W.Frag} {mg : Str → Option Value} {base : Heap} {f fD fF : Addr} {fd fdD fdF : FuncData}
theorem scCls : FnScope ["_law_tape_here", "_law_lead", "_law_many", "_law_taken", "_law_names", "_law_columns_here", "_law_kinds", "_law_k", "_law_kind"] ["_law_tape_here", "_law_lead", "_law_many", "_law_taken"] (defScope sCls) := ⟨rfl, rfl, rfl, by decide +kernel, rfl, by decide +kernel, by decide +kernel⟩
theorem ok_cls (F : Fun K "_law_columns" "_law_columns" sCls f fd) (T : Bt mg) (GD : FnOk P w K mg base CX0 1 fD fdD ["_law_tape_here", "_law_many"] spDrawL) (mD : mg "_law_draw" = some (.ref fD)) (kD : PySem.W.keepIn K (.ref fD) = true) (bD : Binds K fdD ["_law_tape_here", "_law_many"] [])
    (GF : FnOk P w K mg base CX0 3 fF fdF ["_law_tape_here", "_law_taken"] spFr) (mF : mg "_law_fresh" = some (.ref fF)) (kF : PySem.W.keepIn K (.ref fF) = true) (bF : Binds K fdF ["_law_tape_here", "_law_taken"] []) :
    FnOk P w K mg base CX0 4 f fd ["_law_tape_here", "_law_lead", "_law_many", "_law_taken"] spCls := by
  refine F.ok scCls (fun vs H Q E h => ?_) (fun cdv A outer s H vs Q E hr h => ?_)
  · obtain ⟨t, c, l, n, m, lead, tk, rfl, _⟩ := h
    rfl
  · obtain ⟨t, c, l, n, m, lead, tk, rfl, hT, hl, hn, tk8, m0, m7, ld8, hkl, k⟩ := h
    have hr1 : Room 1 _ := hr.mono (by decide)
    refine ⟨_, pss_cons (ps_set (i := 4) scCls.nd rfl (Or.inl rfl) (pe_callTy call_list_of (by rfl) T.list boot_list (pa_cons (pv 3) pa_nil)))
      (pss_cons (ps_set (i := 5) scCls.nd rfl (Or.inl rfl) (pe_lst pa_nil))
      (pss_cons (ps_set (i := 6) scCls.nd rfl (Or.inl rfl) (pe_callTy call_list_of (by rfl) T.list boot_list (pa_cons (pv 1) pa_nil)))
      (Evl.pss_cut (ps_for PassesOwn.never rfl (pi_range1 (by rfl) T.range (pa_cons (pe_call GD hr1 (by rfl) mD kD bD .nil pass0 (pa_cons (pv 0) (pa_cons (pe_op op_add (pv 2) pe_int) pa_nil))) pa_nil)) (pg_name (i := 7) scCls.nd rfl (Or.inl rfl))
        (pss_one (ps_expr (pe_bm PySem.F.plainAttrs_list PySem.F.slot_list_append PySem.F.type_list_append mt_append (pv 6) (pa_cons (pe_ix ix_list (pe_lst (pa_cons pe_str (pa_cons pe_str (pa_cons pe_str pa_nil)))) (pe_call GD hr1 (by rfl) mD kD bD .nil pass0 (pa_cons (pv 0) (pa_cons pe_int pa_nil))) (fun _ _ => rfl)) pa_nil)))))
      (pss_cons (ps_for PassesOwn.never rfl (pi_list (pv 6)) (pg_name (i := 8) scCls.nd rfl (Or.inl rfl))
        (pss_cons (ps_expr (pe_bm PySem.F.plainAttrs_list PySem.F.slot_list_append PySem.F.type_list_append mt_append (pv 4) (pa_cons (pe_call GF hr (by rfl) mF kF bF .nil pass0 (pa_cons (pv 0) (pa_cons (pv 4) pa_nil))) pa_nil)))
        (pss_one (ps_expr (pe_bm PySem.F.plainAttrs_list PySem.F.slot_list_append PySem.F.type_list_append mt_append (pv 5) (pa_cons (pe_tup (pa_cons (pe_ix ix_list (pv 4) (pe_un un_neg pe_int) (fun _ _ => rfl)) (pa_cons (pv 8) pa_nil))) pa_nil))))))
      (pss_one (ps_ret (pe_callTy call_tupleZ (by rfl) T.tuple boot_tuple (pa_cons (pv 5) pa_nil)))))))), ?_⟩
    refine ⟨_, rfl, n, _, rfl, hn.sq, fun L hL => ⟨by show 0 ≤ sizeLine; decide, fun M hM => ?_⟩⟩
    have yL := Same.upd (o := .lst (tk.map V.str)) hL
    have yM := Same.upd (o := .lst []) hM
    refine ⟨_, rfl, l, _, rfl, (hl.same (yL.trans yM)).sq, fun N hN => ?_⟩
    have yN := Same.upd (o := .lst (lead.map V.str)) hN
    have nLt := hT.tape.ne hL
    have nMt := (hT.same yL).tape.ne hM
    have nNt := (hT.same (yL.trans yM)).tape.ne hN
    obtain ⟨ys, hc⟩ := hT.list
    have nLc : L ≠ c := Ne.symm (ne_of_none hc hL)
    have nMc : M ≠ c := Ne.symm (ne_of_none (yL _ _ hc) hM)
    have nNc : N ≠ c := Ne.symm (ne_of_none ((yL.trans yM) _ _ hc) hN)
    have eL : upd H L (.lst (tk.map V.str)) L = some (.lst (tk.map V.str)) := upd_same
    have nML : L ≠ M := ne_of_none eL hM
    have nNL : L ≠ N := ne_of_none (yM _ _ eL) hN
    have nNM : M ≠ N := ne_of_none (show upd (upd H L (.lst (tk.map V.str))) M (.lst []) M = some (.lst []) from upd_same) hN
    have hL3 := (yM.trans yN) _ _ eL
    have hM3 := yN _ _ (show upd (upd H L (.lst (tk.map V.str))) M (.lst []) M = some (.lst []) from upd_same)
    have hN3 : upd (upd (upd H L (.lst (tk.map V.str))) M (.lst [])) N (.lst (lead.map V.str)) N = some (.lst (lead.map V.str)) := upd_same
    have s3 := yL.trans (yM.trans yN)
    have gM := Same.gone yL hM
    have gN := Same.gone (yL.trans yM) hN
    have hT3 := hT.same s3
    generalize upd (upd (upd H L (.lst (tk.map V.str))) M (.lst [])) N (.lst (lead.map V.str)) = H3 at hL3 hM3 hN3 s3 hT3 yN ⊢
    clear yN yM yL eL
    have o3 : 3 ≤ sizeLine := by decide
    let Md : Option V → Option V → List Str → L2.St → Hp → Prop := fun x7 x8 ks σ H' => σ = [some (.ref t), some (.ref l), some (.int m), some (.ref n), some (.ref L), some (.ref M), some (.ref N), x7, x8] ∧ H' N = some (.lst (ks.map V.str)) ∧ (∀ k ∈ ks, KindS k) ∧ TapeL c H' t ∧ SameB t H H'
    refine ⟨fun σ H' => ∃ x7 ks, Md x7 none ks σ H' ∧ H' L = some (.lst (tk.map V.str)) ∧ H' M = some (.lst []) ∧ (lead.length ≤ ks.length ∧ ks.take lead.length = lead) ∧ ks.length ≤ lead.length + m.toNat, ?_, ?_⟩
    · refine ⟨_, rfl, _, rfl, _, _, rfl, rfl, t, c, _, rfl, hT3, by omega, big1000 (by omega) (by omega), fun k2 H4 u2 w2 T4 S4 => ⟨k2, rfl, by omega, by omega, for_range (n := k2.toNat) (fun i σ H' => ∃ x7 ks, Md x7 none ks σ H' ∧ H' L = some (.lst (tk.map V.str)) ∧ H' M = some (.lst []) ∧ (ks.length = i + lead.length ∧ ks.take lead.length = lead))
        ⟨_, lead, ⟨rfl, S4 _ _ nNt hN3, hkl, T4, (Same.b t s3).trans S4⟩, S4 _ _ nLt hL3, S4 _ _ nMt hM3, (Nat.zero_add _).symm, List.take_length⟩ ?_ ?_⟩⟩
      · rintro i σ H5 hi ⟨x7, ks, ⟨rfl, hN5, hk5, T5, S5⟩, hL5, hM5, e5, ep⟩
        refine ⟨_, rfl, .inl ⟨rfl, _, SqL.of hN5⟩, o3, fun q hq => ?_⟩
        have zq := Same.upd (o := .lst [.str "number", .str "word", .str "flag"]) hq
        have nq := T5.tape.ne hq
        refine ⟨_, rfl, t, c, _, rfl, T5.same zq, by decide, big1000 (by decide) (by decide), fun k3 H6 u3 w3 T6 S6 => ?_⟩
        obtain ⟨kk, hkk, skk⟩ : ∃ kk : Str, ([.str "number", .str "word", .str "flag"] : List V)[k3.toNat]? = some (.str kk) ∧ KindS kk := by
          have : k3.toNat = 0 ∨ k3.toNat = 1 ∨ k3.toNat = 2 := by omega
          rcases this with e | e | e <;> rw [e]
          · exact ⟨_, rfl, .inl rfl⟩
          · exact ⟨_, rfl, .inr (.inl rfl)⟩
          · exact ⟨_, rfl, .inr (.inr rfl)⟩
        have S7 : SameB t H5 H6 := (Same.b t zq).trans S6
        have hN6 := S7 _ _ nNt hN5
        refine ⟨q, _, _, _, rfl, rfl, SqL.of (S6 _ _ nq upd_same), at_of (j := k3.toNat) (by omega) hkk, N, _, _, rfl, rfl, hN6, ?_, ?_⟩
        · rw [List.length_map, e5]
          exact Nat.lt_of_le_of_lt (show i + lead.length ≤ 8 by omega) (by decide)
        · refine ⟨_, ks ++ [kk], ⟨rfl, by rw [upd_same, List.map_append]; rfl, fun k hk => ?_, T6.upd nNt nNc, fun b o n e => ?_⟩, by rw [upd_ne nNL]; exact S7 _ _ nLt hL5, by rw [upd_ne nNM]; exact S7 _ _ nMt hM5, by rw [List.length_append, e5, List.length_singleton]; omega, by rw [List.take_append_of_le_length (by omega)]; exact ep⟩
          · rcases List.mem_append.mp hk with hk | hk
            · exact hk5 k hk
            · rw [List.mem_singleton.mp hk]; exact skk
          · rw [upd_ne (fun z => by rw [z, gN] at e; cases e)]
            exact (S5.trans S7) b o n e
      · rintro σ H5 ⟨x7, ks, h5, hL5, hM5, e5, ep⟩
        exact ⟨x7, ks, h5, hL5, hM5, ⟨by omega, ep⟩, by omega⟩
    · rintro σ H5 ⟨x7, ks, ⟨rfl, hN5, hk5, T5, S5⟩, hL5, hM5, ⟨e5, ep⟩, e6⟩
      refine ⟨_, rfl, N, rfl, ⟨_, SqL.of hN5⟩, for_list (K := K) (a := N) (xs := ks.map V.str) (fun i σ H' => ∃ (x8 : Option V) (ns : List Str) (xs : List V) (ps : List (Str × Str)), Md x7 x8 ks σ H' ∧ H' L = some (.lst ((tk ++ ns).map V.str)) ∧ H' M = some (.lst xs) ∧ Cols H' xs ps ∧ (∀ p ∈ ps, Sh 12 p.1 ∧ nameB (.str p.1) = true ∧ KindS p.2) ∧ ns.length = i ∧ (ps.length = i ∧ ps.map (·.2) = ks.take i) ∧ ps.map (·.1) = ns ∧ ns.Nodup ∧ ∀ x ∈ ns, x ∉ tk)
        ⟨_, [], [], [], ⟨rfl, hN5, hk5, T5, S5⟩, by rw [List.append_nil]; exact hL5, hM5, .nil, nofun, rfl, ⟨rfl, rfl⟩, rfl, List.nodup_nil, nofun⟩ (fun i σ H' _ p => by obtain ⟨_, _, _, _, ⟨_, z, _⟩, _⟩ := p; exact SqL.of z) ?_ ?_⟩
      · rintro i x σ H6 hx ⟨x8, ns, xs, ps, ⟨rfl, hN6, _, T6, S6⟩, hL6, hM6, hc6, hp6, e7, ⟨e8, ek⟩, en, nd, ntk⟩
        obtain ⟨kk, hkk, rfl⟩ : ∃ kk, ks[i]? = some kk ∧ V.str kk = x := by
          rw [List.getElem?_map] at hx
          cases q : ks[i]? with
          | none => rw [q] at hx; cases hx
          | some kk => rw [q] at hx; exact ⟨kk, rfl, Option.some.inj hx⟩
        have hi8 : i < 8 := Nat.lt_of_lt_of_le (List.getElem?_eq_some_iff.mp hkk).1 (show ks.length ≤ 8 by omega)
        have skk := hk5 kk (List.mem_of_getElem? hkk)
        have lim : ∀ {m : Nat}, m ≤ 8 → m < sizeLine := fun h => Nat.lt_of_le_of_lt h (by decide)
        refine ⟨_, rfl, .inl ⟨rfl, _, SqL.of hL6⟩, _, rfl, _, rfl, t, c, L, tk ++ ns, rfl, T6, hL6, by rw [List.length_append]; omega, fun z H7 hz nz fz T7 S7 => ?_⟩
        have hL7 := S7 _ _ nLt hL6
        have hM7 := S7 _ _ nMt hM6
        have hN7 := S7 _ _ nNt hN6
        have hc7 := hc6.t (SameT.b T6.tape S7)
        refine ⟨L, _, _, rfl, rfl, hL7, by rw [List.length_map, List.length_append, e7]; exact Nat.lt_of_le_of_lt (show _ ≤ 16 by omega) (by decide), ?_⟩
        have hc8 := hc7.t (SameT.lst (o := .lst ((tk ++ ns).map V.str ++ [.str z])) hL7)
        have T8 := T7.upd (o := .lst ((tk ++ ns).map V.str ++ [.str z])) nLt nLc
        have hL8 : upd H7 L (.lst ((tk ++ ns).map V.str ++ [.str z])) L = some (.lst ((tk ++ ns).map V.str ++ [.str z])) := upd_same
        have hM8 : upd H7 L (.lst ((tk ++ ns).map V.str ++ [.str z])) M = some (.lst xs) := by rw [upd_ne (Ne.symm nML)]; exact hM7
        have hN8 : upd H7 L (.lst ((tk ++ ns).map V.str ++ [.str z])) N = some (.lst (ks.map V.str)) := by rw [upd_ne (Ne.symm nNL)]; exact hN7
        have S8 : SameB t H (upd H7 L (.lst ((tk ++ ns).map V.str ++ [.str z]))) := fun b o n e => by
          rw [upd_ne (fun z => by rw [z, hL] at e; cases e)]
          exact (S6.trans S7) b o n e
        generalize upd H7 L (.lst ((tk ++ ns).map V.str ++ [.str z])) = H8 at hc8 T8 hL8 hM8 hN8 S8 ⊢
        refine ⟨_, rfl, .inl ⟨rfl, _, SqL.of hM8⟩, _, rfl, _, rfl, L, _, _, _, rfl, rfl, SqL.of hL8, (show atI ((tk ++ ns).map V.str ++ [.str z]) (-1) = some (.str z) from ?_), _, rfl, by show 2 ≤ sizeLine; decide, fun q hq => ?_⟩
        · unfold atI
          rw [show ixN ((tk ++ ns).map V.str ++ [V.str z]).length (-1) = some (tk ++ ns).length from ?_]
          · simp
          · have hl : ((tk ++ ns).map V.str ++ [V.str z]).length = (tk ++ ns).length + 1 := by rw [List.length_append, List.length_map]; rfl
            unfold ixN
            rw [hl, if_neg (by decide), if_pos (by omega)]
            exact congrArg some (by omega)
        have zq := Same.upd (o := .tup [.str z, .str kk]) hq
        have hM9 := zq _ _ hM8
        have lx := hc6.len
        refine ⟨M, _, _, rfl, rfl, hM9, lim (by omega), ?_⟩
        refine ⟨_, ns ++ [z], xs ++ [.ref q], ps ++ [(z, kk)], ⟨rfl, by rw [upd_ne (Ne.symm nNM)]; exact zq _ _ hN8, hk5, (T8.same zq).upd nMt nMc, fun b o n e => ?_⟩, by rw [upd_ne nML, zq _ _ hL8, ← List.append_assoc, List.map_append (l₁ := tk ++ ns)]; rfl, upd_same, ?_, ?_, by rw [List.length_append, e7]; rfl, ⟨by rw [List.length_append, e8]; rfl, by rw [List.map_append, ek, List.take_add_one, hkk]; rfl⟩, by rw [List.map_append, en]; rfl, List.nodup_append.mpr ⟨nd, List.nodup_cons.mpr ⟨nofun, List.nodup_nil⟩, fun a ha b hb => by rw [List.mem_singleton.mp hb]; exact fun e => fz (List.mem_append_right _ (by rw [← e]; exact ha))⟩, fun x hx => ?_⟩
        · rw [upd_ne (fun z => by rw [z, gM] at e; cases e)]
          exact (S8.trans (Same.b t zq)) b o n e
        · have eq : upd H8 q (.tup [.str z, .str kk]) q = some (.tup [.str z, .str kk]) := upd_same
          have hc9 := (hc8.t (SameT.of zq)).app (.cons eq .nil)
          exact hc9.t (SameT.lst hM9)
        · intro p hp
          rcases List.mem_append.mp hp with hp | hp
          · exact hp6 p hp
          · rw [List.mem_singleton.mp hp]; exact ⟨hz, nz, skk⟩
        · rcases List.mem_append.mp hx with hx | hx
          · exact ntk x hx
          · rw [List.mem_singleton.mp hx]; exact fun q => fz (List.mem_append_left _ q)
      · rintro σ H6 ⟨x8, ns, xs, ps, ⟨rfl, hN6, _, T6, S6⟩, hL6, hM6, hc6, hp6, e7, ⟨e8, ek⟩, en, nd, ntk⟩
        rw [List.length_map] at e8
        refine ⟨_, rfl, M, xs, rfl, SqL.of hM6, fun r ob hr c1 c2 => ?_⟩
        have zr := Same.upd (o := .frz ob (.tup xs)) hr
        exact k r xs ps _ ⟨ob, c1, c2, upd_same⟩ (hc6.t (SameT.of zr)) hp6 (by rw [en]; exact nd) (fun p hp => ntk p.1 (by rw [← en]; exact List.mem_map_of_mem hp)) (by omega) (by rw [ek, List.length_map, List.take_length]; exact ep) (by omega) (T6.same zr) (S6.trans (Same.b t zr))
end
end K20
set_option Elab.async false
set_option linter.all false
set_option maxRecDepth 100000
set_option maxHeartbeats 4000000
namespace K20
open PySem PySem.Spec PyProof.Rows L2 Lc
def spRatL : Sp := fun vs H Q _ => ∃ (t c : Addr) (b : Bool), vs = [.ref t, .bl b] ∧ TapeL c H t ∧ ∀ (p : Addr) (n d : Int) (H' : Hp), Rt n d → n.natAbs ≤ 10000000000000000000000000000000000000000 → d.natAbs ≤ 10000000000000000000000000000000000000000 → H' p = some (.tup [.int n, .int d]) → H p = none → TapeL c H' t → SameB t H H' → Q (.ref p) H'
abbrev sRat : Stmt := top 127
section
variable {P : Program} {w : World} {K : PySem.W.Frag} {mg : Str → Option Value} {base : Heap} {f : Addr} {fd : FuncData}
theorem scRat : FnScope ["_law_tape_here", "_law_wide", "_law_size", "_law_number", "_law_edge"] ["_law_tape_here", "_law_wide"] (defScope sRat) := ⟨rfl, rfl, rfl, by decide +kernel, rfl, by decide +kernel, by decide +kernel⟩
theorem ok_rat {fD fL : Addr} {fdD fdL : FuncData} (F : Fun K "_law_rational" "_law_rational" sRat f fd) (T : Bt mg) (GD : FnOk P w K mg base CX0 1 fD fdD ["_law_tape_here", "_law_many"] spDrawL) (mD : mg "_law_draw" = some (.ref fD)) (kD : PySem.W.keepIn K (.ref fD) = true) (bD : Binds K fdD ["_law_tape_here", "_law_many"] [])
    (GL : FnOk P w K mg base CX0 1 fL fdL ["_law_n", "_law_d"] spLowest) (mL : mg "_law_lowest" = some (.ref fL)) (kL : PySem.W.keepIn K (.ref fL) = true) (bL : Binds K fdL ["_law_n", "_law_d"] []) : FnOk P w K mg base CX0 2 f fd ["_law_tape_here", "_law_wide"] spRatL := by
  refine F.ok scRat (fun vs H Q E h => ?_) (fun cdv A outer s H vs Q E hr h => ?_)
  · obtain ⟨t, c, b, rfl, _⟩ := h
    rfl
  · obtain ⟨t, c, b, rfl, hT, k⟩ := h
    refine ⟨_, pss_cons (ps_set (i := 2) scRat.nd rfl (Or.inl rfl) (pe_call GD hr (by rfl) mD kD bD .nil pass0 (pa_cons (pv 0) (pa_cons (pe_op op_add pe_int (pe_op op_mul pe_int (pe_callTy call_int1 (by rfl) T.int boot_int (pa_cons (pv 1) pa_nil)))) pa_nil))))
      (pss_cons (ps_if (pt_cmpR op_lt (pv 2) pe_int (nomark _)) (pss_one (ps_ret (pe_tup (pa_cons (pe_op op_sub (pe_call GD hr (by rfl) mD kD bD .nil pass0 (pa_cons (pv 0) (pa_cons pe_int pa_nil))) pe_int) (pa_cons pe_int pa_nil))))) pss_nil)
      (pss_cons (ps_if (pt_cmpR op_lt (pv 2) pe_int (nomark _)) (pss_one (ps_ret (pe_call GL hr (by rfl) mL kL bL .nil pass0 (pa_cons (pe_op op_sub (pe_call GD hr (by rfl) mD kD bD .nil pass0 (pa_cons (pv 0) (pa_cons pe_int pa_nil))) pe_int) (pa_cons (pe_op op_add pe_int (pe_call GD hr (by rfl) mD kD bD .nil pass0 (pa_cons (pv 0) (pa_cons pe_int pa_nil)))) pa_nil))))) pss_nil)
      (pss_cons (ps_if (pt_cmpR op_eq (pv 2) pe_int (nomark _)) (pss_cons (ps_set (i := 3) scRat.nd rfl (Or.inl rfl) (pe_op op_sub (pe_call GD hr (by rfl) mD kD bD .nil pass0 (pa_cons (pv 0) (pa_cons (pe_op op_add (pe_op op_mul pe_int (pe_op op_pow pe_int pe_int)) pe_int) pa_nil))) (pe_op op_pow pe_int pe_int)))
          (pss_one (ps_ret (pe_call GL hr (by rfl) mL kL bL .nil pass0 (pa_cons (pv 3) (pa_cons (pe_op op_add pe_int (pe_call GD hr (by rfl) mD kD bD .nil pass0 (pa_cons (pv 0) (pa_cons (pe_op op_pow pe_int pe_int) pa_nil)))) pa_nil)))))) pss_nil)
      (pss_cons (ps_set (i := 4) scRat.nd rfl (Or.inl rfl) (pe_op op_sub (pe_op op_pow pe_int pe_int) (pe_call GD hr (by rfl) mD kD bD .nil pass0 (pa_cons (pv 0) (pa_cons pe_int pa_nil)))))
      (pss_one (ps_ret (pe_ix ix_list (pe_lst (pa_cons (pe_tup (pa_cons (pv 4) (pa_cons pe_int pa_nil))) (pa_cons (pe_tup (pa_cons (pe_op op_sub pe_int (pv 4)) (pa_cons pe_int pa_nil))) (pa_cons (pe_tup (pa_cons pe_int (pa_cons (pv 4) pa_nil))) (pa_cons (pe_tup (pa_cons (pe_un un_neg pe_int) (pa_cons (pv 4) pa_nil))) pa_nil)))))
        (pe_call GD hr (by rfl) mD kD bD .nil pass0 (pa_cons (pv 0) (pa_cons pe_int pa_nil))) (fun _ _ => rfl)))))))), ?_⟩
    have two : 2 ≤ sizeLine := by decide
    have pw18 : CPow 10 18 := ⟨by decide, by decide, by decide⟩
    have pw40 : CPow 10 40 := ⟨by decide, by decide, by decide⟩
    have b140 : ∀ z : Int, -100000000000000000000000000000000000000000 ≤ z → z ≤ 100000000000000000000000000000000000000000 → z.natAbs < 2 ^ 140 := by
      intro z h1 h2
      have : (2 : Nat) ^ 140 = 1393796574908163946345982392040522594123776 := by decide
      omega
    have big : ∀ z : Int, -100000000000000000000000000000000000000000 ≤ z → z ≤ 100000000000000000000000000000000000000000 → z.natAbs < 2 ^ 4000 := fun z h1 h2 => Nat.lt_of_lt_of_le (b140 z h1 h2) (Nat.pow_le_pow_right (by decide) (by decide))
    have b40 : ∀ z : Int, -10000000000000000000000000000000000000000 ≤ z → z ≤ 10000000000000000000000000000000000000000 → z.natAbs ≤ 10000000000000000000000000000000000000000 := by
      intro z h1 h2
      omega
    refine ⟨_, rfl, _, rfl, .inr ⟨b, rfl, _, _, rfl, rfl, .inl ⟨by decide, by decide⟩, _, _, rfl, rfl, t, c, _, rfl, hT, by cases b <;> decide, by cases b <;> exact big _ (by decide) (by decide), fun k1 H1 u1 v1 T1 S1 => ?_⟩⟩
    refine ⟨_, rfl, _, _, rfl, rfl, _, rfl, ?_⟩
    refine ite2 (fun _ => ?_) (fun _ => ?_)
    · refine ⟨_, rfl, t, c, _, rfl, T1, by decide, big _ (by decide) (by decide), fun k2 H2 u2 v2 T2 S2 => ?_⟩
      refine ⟨_, _, rfl, rfl, two, fun p hp => ?_⟩
      exact k p (k2 - 7) 1 _ (rt_one _) (b40 _ (by omega) (by omega)) (b40 _ (by decide) (by decide)) upd_same ((S1.trans S2).free T2.tape hp) (T2.same (Same.upd hp)) ((S1.trans S2).trans (Same.b t (Same.upd hp)))
    · refine ⟨_, rfl, _, _, rfl, rfl, _, rfl, ?_⟩
      refine ite2 (fun _ => ?_) (fun _ => ?_)
      · refine ⟨_, rfl, t, c, _, rfl, T1, by decide, big _ (by decide) (by decide), fun k2 H2 u2 v2 T2 S2 => ?_⟩
        refine ⟨_, _, rfl, rfl, _, rfl, t, c, _, rfl, T2, by decide, big _ (by decide) (by decide), fun k3 H3 u3 v3 T3 S3 => ?_⟩
        refine ⟨_, _, rfl, rfl, _, _, rfl, by omega, big _ (by omega) (by omega), fun p hp => ?_⟩
        have le := low_le (n := k2 - 200) (d := 1 + k3) (by omega)
        exact k p _ _ _ (low_rt (by omega)) (Nat.le_trans le.1 (b40 _ (by omega) (by omega))) (Nat.le_trans le.2 (b40 _ (by omega) (by omega))) upd_same (((S1.trans S2).trans S3).free T3.tape hp) (T3.same (Same.upd hp)) (((S1.trans S2).trans S3).trans (Same.b t (Same.upd hp)))
      · refine ⟨_, rfl, rfl, _, rfl, ?_⟩
        refine ite2 (fun _ => ?_) (fun _ => ?_)
        · refine ⟨_, rfl, _, _, rfl, rfl, pw18, _, _, rfl, rfl, .inl ⟨by decide, by decide⟩, _, _, rfl, rfl, t, c, _, rfl, T1, ?_, ?_, fun k2 H2 u2 v2 T2 S2 => ?_⟩
          · rw [p18]
            decide
          · rw [p18]
            exact big _ (by decide) (by decide)
          rw [p18] at v2
          refine ⟨_, _, rfl, rfl, pw18, _, _, rfl, rfl, _, rfl, _, rfl, _, _, rfl, rfl, pw18, t, c, _, rfl, T2, ?_, ?_, fun k3 H3 u3 v3 T3 S3 => ?_⟩
          · rw [p18]
            decide
          · rw [p18]
            exact big _ (by decide) (by decide)
          rw [p18] at v3
          refine ⟨_, _, rfl, rfl, _, _, rfl, by omega, big _ (by omega) (by omega), fun p hp => ?_⟩
          have le := low_le (n := k2 - 10 ^ (18 : Int).toNat) (d := 1 + k3) (by omega)
          rw [p18] at le
          refine k p _ _ _ (low_rt (by omega)) ?_ (Nat.le_trans le.2 (b40 _ (by omega) (by omega))) upd_same (((S1.trans S2).trans S3).free T3.tape hp) (T3.same (Same.upd hp)) (((S1.trans S2).trans S3).trans (Same.b t (Same.upd hp)))
          exact Nat.le_trans le.1 (b40 _ (by omega) (by omega))
        · refine ⟨_, _, rfl, rfl, pw40, _, rfl, t, c, _, rfl, T1, by decide, big _ (by decide) (by decide), fun k2 H2 u2 v2 T2 S2 => ?_⟩
          refine ⟨_, _, rfl, rfl, ?_⟩
          rw [p40]
          obtain ⟨ed, he⟩ : ∃ ed : Int, ed = 10000000000000000000000000000000000000000 - k2 := ⟨_, rfl⟩
          rw [show (fun i j : Int => V.int (i - j)) 10000000000000000000000000000000000000000 k2 = V.int ed by rw [he]]
          refine ⟨_, rfl, two, fun a1 ha1 => ⟨_, rfl, _, _, rfl, rfl, two, fun a2 ha2 => ⟨_, rfl, two, fun a3 ha3 => ⟨_, rfl, _, rfl, two, fun a4 ha4 => ⟨by show 4 ≤ sizeLine; decide, fun a5 ha5 => ?_⟩⟩⟩⟩⟩
          have z1 := Same.upd (o := .tup [.int ed, .int 1]) ha1
          have z2 := Same.upd (o := .tup [.int (0 - ed), .int 1]) ha2
          have z3 := Same.upd (o := .tup [.int 1, .int ed]) ha3
          have z4 := Same.upd (o := .tup [.int (-1), .int ed]) ha4
          have z5 := Same.upd (o := .lst [.ref a1, .ref a2, .ref a3, .ref a4]) ha5
          have zz := z1.trans (z2.trans (z3.trans (z4.trans z5)))
          have T5 := T2.same zz
          refine ⟨_, rfl, t, c, _, rfl, T5, by decide, big _ (by decide) (by decide), fun k3 H3 u3 v3 T3 S3 => ?_⟩
          have n5 : a5 ≠ t := (T2.same (z1.trans (z2.trans (z3.trans z4)))).tape.ne ha5
          have n1 : a1 ≠ t := T2.tape.ne ha1
          have n2 : a2 ≠ t := (T2.same z1).tape.ne ha2
          have n3 : a3 ≠ t := (T2.same (z1.trans z2)).tape.ne ha3
          have n4 : a4 ≠ t := (T2.same (z1.trans (z2.trans z3))).tape.ne ha4
          have f0 := S1.trans S2
          have g1 : H a1 = none := f0.free T2.tape ha1
          have g2 : H a2 = none := f0.free T2.tape (z1.free ha2)
          have g3 : H a3 = none := f0.free T2.tape ((z1.trans z2).free ha3)
          have g4 : H a4 = none := f0.free T2.tape ((z1.trans (z2.trans z3)).free ha4)
          have sb := (f0.trans (Same.b t zz)).trans S3
          have e1 := S3 _ _ n1 ((z2.trans (z3.trans (z4.trans z5))) _ _ upd_same)
          have e2 := S3 _ _ n2 ((z3.trans (z4.trans z5)) _ _ upd_same)
          have e3 := S3 _ _ n3 ((z4.trans z5) _ _ upd_same)
          have e4 := S3 _ _ n4 (z5 _ _ upd_same)
          have hL := S3 _ _ n5 (upd_same)
          rcases (by omega : k3 = 0 ∨ k3 = 1 ∨ k3 = 2 ∨ k3 = 3) with rfl | rfl | rfl | rfl
          · exact ⟨a5, _, _, _, rfl, rfl, SqL.of hL, rfl, k a1 _ _ _ (rt_one _) (b40 _ (by omega) (by omega)) (b40 _ (by omega) (by omega)) e1 g1 T3 sb⟩
          · exact ⟨a5, _, _, _, rfl, rfl, SqL.of hL, rfl, k a2 _ _ _ (rt_one _) (b40 _ (by omega) (by omega)) (b40 _ (by omega) (by omega)) e2 g2 T3 sb⟩
          · exact ⟨a5, _, _, _, rfl, rfl, SqL.of hL, rfl, k a3 _ _ _ (rt_inv (by omega)) (b40 _ (by omega) (by omega)) (b40 _ (by omega) (by omega)) e3 g3 T3 sb⟩
          · exact ⟨a5, _, _, _, rfl, rfl, SqL.of hL, rfl, k a4 _ _ _ (rt_ninv (by omega)) (b40 _ (by omega) (by omega)) (b40 _ (by omega) (by omega)) e4 g4 T3 sb⟩
end
end K20
set_option Elab.async false
set_option linter.all false
set_option maxRecDepth 100000
set_option maxHeartbeats 4000000
namespace K20
open PySem PySem.Spec PyProof.Rows L2 Lc
abbrev sLv : Stmt := top 131
abbrev sLvs : Stmt := top 132
/-! ## values -/
inductive Vk : Str → PyData → Prop
  | non (k : Str) : Vk k .none
  | num {n d : Int} (h : Rt n d) (h1 : n.natAbs ≤ 10000000000000000000000000000000000000000) (h2 : d.natAbs ≤ 10000000000000000000000000000000000000000) : Vk "number" (.tuple [.int n, .int d])
  | flag (b : Bool) : Vk "flag" (.bool b)
  | word {x : Str} (h : Sh 12 x) (hn : nameB (.str x) = true) : Vk "word" (.str x)
inductive Vks : List Str → List PyData → Prop
  | nil : Vks [] []
  | cons {k : Str} {d : PyData} {ks : List Str} {ds : List PyData} (h : Vk k d) (r : Vks ks ds) : Vks (k :: ks) (d :: ds)
theorem Vks.app {k : Str} {d : PyData} (h : Vk k d) : ∀ {ks : List Str} {ds : List PyData}, Vks ks ds → Vks (ks ++ [k]) (ds ++ [d])
  | _, _, .nil => .cons h .nil
  | _, _, .cons a r => .cons a (Vks.app h r)
theorem Vks.len : ∀ {ks : List Str} {ds : List PyData}, Vks ks ds → ks.length = ds.length
  | _, _, .nil => rfl
  | _, _, .cons _ r => by rw [List.length_cons, List.length_cons, Vks.len r]
/-- v is d, all its parts are new since H -/
def DhF (H H' : Hp) (v : V) (d : PyData) : Prop := ∀ H2 : Hp, (∀ b o, H b = none → H' b = some o → H2 b = some o) → Dh H2 v d
theorem DhF.now {H H' : Hp} {v : V} {d : PyData} (h : DhF H H' v d) : Dh H' v d := h H' fun _ _ _ e => e
def spVal : Sp := fun vs H Q _ => ∃ (t c : Addr) (kind : Str) (b : Bool), vs = [.ref t, .str kind, .bl b] ∧ TapeL c H t ∧ KindS kind ∧ ∀ (v : V) (d : PyData) (H' : Hp), DhF H H' v d → Vk kind d → TapeL c H' t → SameB t H H' → Q v H'
def spVals : Sp := fun vs H Q _ => ∃ (t c L : Addr) (b : Bool) (xs : List V) (ps : List (Str × Str)), vs = [.ref t, .ref L, .bl b] ∧ TapeL c H t ∧ Rd H L (.tup xs) ∧ Cols H xs ps ∧ (∀ p ∈ ps, KindS p.2) ∧ ps.length ≤ 8 ∧
  ∀ (r : Addr) (ds : List PyData) (H' : Hp), DhF H H' (.ref r) (.tuple ds) → Vks (ps.map (·.2)) ds → TapeL c H' t → SameB t H H' → Q (.ref r) H'
abbrev teVs : TE := tCall spVal [] E0 (tCons (tVar 0) (tCons (tVar 4) (tCons (tVar 2) tNil)))
theorem Cols.get {H : Hp} : ∀ {xs : List V} {ps : List (Str × Str)}, Cols H xs ps → ∀ (i : Nat) (x : V), xs[i]? = some x → ∃ a z kk, x = .ref a ∧ H a = some (.tup [.str z, .str kk]) ∧ ps[i]? = some (z, kk)
  | _, _, .nil, i, x, e => by simp at e
  | _, _, .cons h r, 0, x, e => by
    obtain rfl := Option.some.inj e
    exact ⟨_, _, _, rfl, h, rfl⟩
  | _, _, .cons h r, i + 1, x, e => by
    obtain ⟨a, z, kk, h1, h2, h3⟩ := Cols.get r i x (by simpa using e)
    exact ⟨a, z, kk, h1, h2, by simpa using h3⟩
section
variable {P : Program} {w : World} {K : PySem.W.Frag} {mg : Str → Option Value} {base : Heap} {f fD fR fN fV : Addr} {fd fdD fdR fdN fdV : FuncData}
theorem scLv : FnScope ["_law_tape_here", "_law_kind", "_law_wide"] ["_law_tape_here", "_law_kind", "_law_wide"] (defScope sLv) := ⟨rfl, rfl, rfl, by decide +kernel, rfl, by decide +kernel, by decide +kernel⟩
theorem ok_lv (F : Fun K "_law_value" "_law_value" sLv f fd) (GD : FnOk P w K mg base CX0 1 fD fdD ["_law_tape_here", "_law_many"] spDrawL) (mD : mg "_law_draw" = some (.ref fD)) (kD : PySem.W.keepIn K (.ref fD) = true) (bD : Binds K fdD ["_law_tape_here", "_law_many"] [])
    (GR : FnOk P w K mg base CX0 2 fR fdR ["_law_tape_here", "_law_wide"] spRatL) (mR : mg "_law_rational" = some (.ref fR)) (kR : PySem.W.keepIn K (.ref fR) = true) (bR : Binds K fdR ["_law_tape_here", "_law_wide"] [])
    (GN : FnOk P w K mg base CX0 2 fN fdN ["_law_tape_here"] spLNm) (mN : mg "_law_name" = some (.ref fN)) (kN : PySem.W.keepIn K (.ref fN) = true) (bN : Binds K fdN ["_law_tape_here"] []) : FnOk P w K mg base CX0 3 f fd ["_law_tape_here", "_law_kind", "_law_wide"] spVal := by
  refine F.ok scLv (fun vs H Q E h => ?_) (fun cdv A outer s H vs Q E hr h => ?_)
  · obtain ⟨t, c, kind, b, rfl, _⟩ := h
    rfl
  · obtain ⟨t, c, kind, b, rfl, hT, hk, k⟩ := h
    have hr1 : Room 1 _ := hr.mono (by decide)
    refine ⟨_, pss_cons (ps_if (pt_cmpR op_eq (pe_call GD hr1 (by rfl) mD kD bD .nil pass0 (pa_cons (pv 0) (pa_cons pe_int pa_nil))) pe_int (nomark _)) (pss_one (ps_ret pe_non)) pss_nil)
      (pss_cons (ps_if (pt_cmpR op_eq (pv 1) pe_str (nomark _)) (pss_one (ps_ret (pe_call GR hr (by rfl) mR kR bR .nil pass0 (pa_cons (pv 0) (pa_cons (pv 2) pa_nil))))) pss_nil)
      (pss_cons (ps_if (pt_cmpR op_eq (pv 1) pe_str (nomark _)) (pss_one (ps_ret (pe_cmpR op_eq (pe_call GD hr1 (by rfl) mD kD bD .nil pass0 (pa_cons (pv 0) (pa_cons pe_int pa_nil))) pe_int (nomark _)))) pss_nil)
      (pss_cons (ps_if (pt_cmpR op_gt (pe_call GD hr1 (by rfl) mD kD bD .nil pass0 (pa_cons (pv 0) (pa_cons pe_int pa_nil))) pe_int (nomark _)) (pss_one (ps_ret (pe_ix ix_list (pe_lst (pa_cons pe_str (pa_cons pe_str (pa_cons pe_str (pa_cons pe_str pa_nil))))) (pe_call GD hr1 (by rfl) mD kD bD .nil pass0 (pa_cons (pv 0) (pa_cons pe_int pa_nil))) (fun _ _ => rfl)))) pss_nil)
      (pss_one (ps_ret (pe_call GN hr (by rfl) mN kN bN .nil pass0 (pa_cons (pv 0) pa_nil))))))), ?_⟩
    have sh : ∀ {x : Str}, kind ≠ "number" → kind ≠ "flag" → Sh 12 x → nameB (.str x) = true → Vk kind (.str x) := fun n1 n2 h1 h2 => by
      rcases hk with rfl | rfl | rfl
      · exact absurd rfl n1
      · exact .word h1 h2
      · exact absurd rfl n2
    refine ⟨_, rfl, t, c, _, rfl, hT, by decide, big1000 (by decide) (by decide), fun k1 H1 u1 w1 T1 S1 => ⟨rfl, _, rfl, ite2 (fun _ => ?_) (fun _ => ?_)⟩⟩
    · exact k .non .none H1 (fun _ _ => .non) (.non _) T1 S1
    refine ⟨_, rfl, rfl, _, rfl, ite2 (fun y => ?_) (fun y => ?_)⟩
    · have ek : kind = "number" := by have := of_decide_eq_true y; injection this
      refine ⟨_, rfl, _, rfl, t, c, b, rfl, T1, fun p n d H2 rt h1 h2 hp gp T2 S2 => k (.ref p) _ H2 (fun H3 s3 => ?_) (by rw [ek]; exact .num rt h1 h2) T2 (S1.trans S2)⟩
      have gH : H p = none := by
        cases q : H p with
        | none => rfl
        | some o =>
          by_cases z : p = t
          · obtain ⟨_, _, _, _, ht, _⟩ := T1
            rw [z, ht] at gp
            cases gp
          · rw [S1 p o z q] at gp
            cases gp
      exact .tup (s3 _ _ gH hp) (.cons (.int n) (.cons (.int d) .nil))
    have n1 : kind ≠ "number" := fun e => y (decide_eq_true (by rw [e]))
    refine ⟨_, rfl, rfl, _, rfl, ite2 (fun y => ?_) (fun y => ?_)⟩
    · have ek : kind = "flag" := by have := of_decide_eq_true y; injection this
      exact ⟨_, rfl, t, c, _, rfl, T1, by decide, big1000 (by decide) (by decide), fun k2 H2 u2 w2 T2 S2 => ⟨rfl, k _ (.bool _) H2 (fun _ _ => .bl _) (by rw [ek]; exact .flag _) T2 (S1.trans S2)⟩⟩
    have n2 : kind ≠ "flag" := fun e => y (decide_eq_true (by rw [e]))
    refine ⟨_, rfl, t, c, _, rfl, T1, by decide, big1000 (by decide) (by decide), fun k2 H2 u2 w2 T2 S2 => ⟨_, _, rfl, rfl, _, rfl, ite2 (fun _ => ?_) (fun _ => ?_)⟩⟩
    · refine ⟨by show 4 ≤ sizeLine; decide, fun q hq => ?_⟩
      have zq := Same.upd (o := .lst [.str "a", .str "b", .str "ab", .str "b0"]) hq
      have nq := T2.tape.ne hq
      refine ⟨_, rfl, t, c, _, rfl, T2.same zq, by decide, big1000 (by decide) (by decide), fun k3 H3 u3 w3 T3 S3 => ?_⟩
      obtain ⟨x, hx, sx, nx⟩ : ∃ x : Str, ([.str "a", .str "b", .str "ab", .str "b0"] : List V)[k3.toNat]? = some (.str x) ∧ Sh 12 x ∧ nameB (.str x) = true := by
        have : k3.toNat = 0 ∨ k3.toNat = 1 ∨ k3.toNat = 2 ∨ k3.toNat = 3 := by omega
        rcases this with e | e | e | e <;> rw [e]
        · exact ⟨_, rfl, ⟨by decide +kernel, by decide +kernel⟩, by decide +kernel⟩
        · exact ⟨_, rfl, ⟨by decide +kernel, by decide +kernel⟩, by decide +kernel⟩
        · exact ⟨_, rfl, ⟨by decide +kernel, by decide +kernel⟩, by decide +kernel⟩
        · exact ⟨_, rfl, ⟨by decide +kernel, by decide +kernel⟩, by decide +kernel⟩
      exact ⟨q, _, _, _, rfl, rfl, SqL.of (S3 _ _ nq upd_same), at_of (j := k3.toNat) (by omega) hx, k _ (.str x) H3 (fun _ _ => .str x) (sh n1 n2 sx nx) T3 (((S1.trans S2).trans (Same.b t zq)).trans S3)⟩
    · exact ⟨_, rfl, t, c, rfl, T2, fun x H3 hx nx T3 S3 => k _ (.str x) H3 (fun _ _ => .str x) (sh n1 n2 hx nx) T3 ((S1.trans S2).trans S3)⟩
theorem scLvs : FnScope ["_law_tape_here", "_law_columns_here", "_law_wide", "_law_name_here", "_law_kind"] ["_law_tape_here", "_law_columns_here", "_law_wide"] (defScope sLvs) := ⟨rfl, rfl, rfl, by decide +kernel, rfl, by decide +kernel, by decide +kernel⟩
theorem ok_lvs (F : Fun K "_law_values" "_law_values" sLvs f fd) (T : Bt mg) (GV : FnOk P w K mg base CX0 3 fV fdV ["_law_tape_here", "_law_kind", "_law_wide"] spVal) (mV : mg "_law_value" = some (.ref fV)) (kV : PySem.W.keepIn K (.ref fV) = true) (bV : Binds K fdV ["_law_tape_here", "_law_kind", "_law_wide"] []) : FnOk P w K mg base CX0 4 f fd ["_law_tape_here", "_law_columns_here", "_law_wide"] spVals := by
  refine F.ok scLvs (fun vs H Q E h => ?_) (fun cdv A outer s H vs Q E hr h => ?_)
  · obtain ⟨t, c, L, b, xs, ps, rfl, _⟩ := h
    rfl
  · obtain ⟨t, c, L, b, xs, ps, rfl, hT, hL, hc, hk, l8, k⟩ := h
    refine ⟨_, pss_one (ps_ret (pe_callTy call_tuple_of (by rfl) T.tuple boot_tuple (pa_cons (pe_lc (own := [("_law_name_here", 3), ("_law_kind", 4)]) (g := gTup K 2 (gCons (gName 3) (gCons (gName 4) gNil))) (tt := tYes) (te := teVs) (by rfl) scLvs.nd (pi_tup (pv 1)) (blkOk_by (own := [("_law_name_here", 3), ("_law_kind", 4)]) (N := ["_law_tape_here", "_law_columns_here", "_law_wide", "_law_name_here", "_law_kind"]) (sc := defScope sLvs) (by decide +kernel))
      (fun _ _ _ _ _ => pg_tup rfl (pgs_cons (pg_name (i := 3) scLvs.nd rfl (.inl rfl)) (pgs_cons (pg_name (i := 4) scLvs.nd rfl (.inl rfl)) pgs_nil))) (fun _ _ _ _ _ => pts_nil) (fun _ _ _ _ _ => pe_call GV hr (by rfl) mV kV bV .nil pass0 (pa_cons (pv 0) (pa_cons (pv 4) (pa_cons (pv 2) pa_nil))))) pa_nil))), ?_⟩
    refine ⟨_, rfl, L, rfl, ⟨_, hL.sq⟩, fun D hD => lc_tup (K := K) (a := L) (xs := xs) (fun i H' => ∃ (ys : List V) (ds : List PyData), H' D = some (.lst ys) ∧ ys.length = i ∧ (∀ H2 : Hp, (∀ b o, b ≠ D → H b = none → H' b = some o → H2 b = some o) → DhAll H2 ys ds) ∧ Vks ((ps.take i).map (·.2)) ds ∧ TapeL c H' t ∧ SameB t H H')
      ⟨[], [], upd_same, rfl, fun _ _ => .nil, .nil, hT.same (Same.upd hD), Same.b t (Same.upd hD)⟩ (fun i H' _ p => by obtain ⟨_, _, _, _, _, _, _, s'⟩ := p; exact (hL.b hT.tape s').sq) ?_ ?_⟩
    · rintro i x H1 hx ⟨ys, ds, hD1, rfl, hds, hv, T1, S1⟩
      obtain ⟨a, z, kk, rfl, ea, ep⟩ := hc.get _ _ hx
      have ea1 := S1 _ _ (hT.tape.neT ea) ea
      have lx := hc.len
      have hi : ys.length < xs.length := (List.getElem?_eq_some_iff.mp hx).1
      have nD := hT.tape.ne hD
      refine ⟨a, _, rfl, SqT.of ea1, rfl, _, _, rfl, _, _, rfl, rfl, rfl, ?_⟩
      change teVs _ _ _
      refine ⟨_, rfl, _, rfl, _, rfl, t, c, kk, b, rfl, T1, hk _ (List.mem_of_getElem? ep), fun v d H2 hv2 vk T2 S2 => ?_⟩
      refine ⟨ys, S2 _ _ nD hD1, Nat.lt_of_lt_of_le hi (Nat.le_trans (show xs.length ≤ 8 by omega) (by decide)), ys ++ [v], ds ++ [d], upd_same, by rw [List.length_append]; rfl, fun H3 h3 => ?_, ?_, ?_, fun b' o n e => ?_⟩
      · refine DhAll.append (hds H3 fun b' o n1 n2 e => h3 b' o n1 n2 ?_) (.cons (hv2 H3 fun b' o n2 e => ?_) .nil)
        · rw [upd_ne n1]
          exact S2 b' o (hT.tape.ne n2) e
        · have nb : b' ≠ D := fun z => by rw [z, hD1] at n2; cases n2
          have nh : H b' = none := by
            cases q : H b' with
            | none => rfl
            | some o' =>
              by_cases z : b' = t
              · obtain ⟨_, _, _, _, ht, _⟩ := T1
                rw [z, ht] at n2
                cases n2
              · rw [S1 b' o' z q] at n2
                cases n2
          exact h3 b' o nb nh (by rw [upd_ne nb]; exact e)
      · rw [List.take_add_one, ep, List.map_append]
        exact Vks.app vk hv
      · have nc : D ≠ c := by
          obtain ⟨zs, hz⟩ := hT.list
          exact Ne.symm (ne_of_none hz hD)
        exact T2.upd nD nc
      · rw [upd_ne (ne_of_none e hD)]
        exact (S1.trans S2) b' o n e
    · rintro H1 ⟨ys, ds, hD1, _, hds, hv, T1, S1⟩
      refine ⟨D, ys, rfl, .inl ⟨SqL.of hD1, fun r hr => ?_⟩⟩
      have zr := Same.upd (o := .tup ys) hr
      have lx := hc.len
      rw [lx, List.take_length] at hv
      have nt := T1.tape.ne hr
      have gr : H r = none := S1.free T1.tape hr
      refine k r ds _ (fun H2 h2 => .tup (h2 _ _ gr upd_same) (hds H2 fun b' o n1 n2 e => h2 b' o n2 (zr _ _ e))) hv (T1.same zr) (S1.trans (Same.b t zr))
end
end K20
set_option Elab.async false
set_option linter.all false
set_option maxRecDepth 100000
set_option maxHeartbeats 4000000
namespace K20
open PySem PySem.Spec PyProof.Rows L2 Lc
/-! ## columns and steps -/
inductive Ps where
  | group (ks : List Str) (ts : List (Str × Str × Str))
def strT (ns : List Str) : PyData := .tuple (ns.map PyData.str)
def totS3 (t : Str × Str × Str) : PyData := .tuple [.str t.1, .str t.2.1, .str t.2.2]
def Ps.d : Ps → PyData
  | .group ks ts => .tuple [.str "group", strT ks, .tuple (ts.map totS3)]
def Ps.w : Ps → Str
  | .group _ _ => "group"
abbrev nmS (x : Str) : Prop := nameB (.str x) = true
def fnS : List Str := ["count", "sum", "mean", "median", "least", "greatest"]
structure GrpOk (ks : List Str) (ts : List (Str × Str × Str)) : Prop where
  k : ∀ x ∈ ks, nmS x
  t : ∀ x ∈ ts, nmS x.1 ∧ x.2.1 ∈ fnS ∧ nmS x.2.2
  nd : (ks ++ ts.map (·.1)).Nodup
  kl : ks.length ≤ 3
  tl : 1 ≤ ts.length ∧ ts.length ≤ 6
  al : ks.length + ts.length ≤ 8
abbrev vS (ss : List Str) : List V := ss.map V.str
abbrev CsL : Type := List (Str × Str)
structure ColP (ps : CsL) : Prop where
  ok : ∀ p ∈ ps, Sh 12 p.1 ∧ nameB (.str p.1) = true ∧ KindS p.2
  nd : (ps.map (·.1)).Nodup
  l1 : 1 ≤ ps.length
  l8 : ps.length ≤ 8
abbrev nms (ps : CsL) : List Str := ps.map (·.1)
theorem ColP.nm {ps : CsL} (h : ColP ps) {x : Str} (hx : x ∈ nms ps) : Sh 12 x ∧ nmS x := by
  obtain ⟨p, hp, rfl⟩ := List.mem_map.mp hx
  exact ⟨(h.ok p hp).1, (h.ok p hp).2.1⟩
def kdOf (ps : CsL) (n : Str) : Str := ((ps.find? fun p => decide (p.1 = n)).map (·.2)).getD ""
theorem kdOf_mem {ps : CsL} (h : (ps.map (·.1)).Nodup) {p : Str × Str} (hp : p ∈ ps) : kdOf ps p.1 = p.2 := by
  induction ps with
  | nil => cases hp
  | cons q r ih =>
    unfold kdOf
    rw [List.find?_cons]
    rcases List.mem_cons.mp hp with rfl | hp
    · rw [decide_eq_true rfl]
      rfl
    · rw [List.map_cons, List.nodup_cons] at h
      have : ¬ q.1 = p.1 := fun e => h.1 (by rw [e]; exact List.mem_map_of_mem hp)
      rw [decide_eq_false this]
      exact ih h.2 hp
theorem ColP.kd {ps : CsL} (h : ColP ps) {x : Str} (hx : x ∈ nms ps) : (x, kdOf ps x) ∈ ps ∧ KindS (kdOf ps x) := by
  obtain ⟨p, hp, rfl⟩ := List.mem_map.mp hx
  rw [kdOf_mem h.nd hp]
  exact ⟨hp, (h.ok p hp).2.2⟩
theorem Vk.noL {k : Str} {d : PyData} (h : Vk k d) : noL d = true := by cases h <;> rfl
inductive Lead (os : List (Str × CsL)) (ps : CsL) : Ps → CsL → Prop
  | group {ks : List Str} {ts : List (Str × Str × Str)} (hk : ∀ k ∈ ks, k ∈ nms ps) (g : GrpOk ks ts) (ht : ∀ t ∈ ts, Sh 12 t.1 ∧ t.2.2 ∈ nms ps ∧ (t.2.1 ≠ "count" → kdOf ps t.2.2 = "number")) : Lead os ps (.group ks ts) (ks.map (fun n => (n, kdOf ps n)) ++ ts.map fun t => (t.1, ("number" : Str)))
theorem nodup_map {α β : Type} {f : α → β} {l : List α} (h : l.Nodup) (inj : ∀ a ∈ l, ∀ b ∈ l, f a = f b → a = b) : (l.map f).Nodup := by
  induction l with
  | nil => exact List.nodup_nil
  | cons a r ih =>
    rw [List.nodup_cons] at h
    rw [List.map_cons, List.nodup_cons]
    refine ⟨fun m => ?_, ih h.2 fun x hx y hy => inj x (List.mem_cons_of_mem _ hx) y (List.mem_cons_of_mem _ hy)⟩
    obtain ⟨b, hb, e⟩ := List.mem_map.mp m
    exact h.1 (by rw [← inj b (List.mem_cons_of_mem _ hb) a List.mem_cons_self e]; exact hb)
theorem Lead.go {os : List (Str × CsL)} {ps qs : CsL} {p : Ps} (h : Lead os ps p qs) (c : ColP ps) : ColP qs := by
  have sel : ∀ {ns : List Str}, (∀ n ∈ ns, n ∈ nms ps) → ∀ p ∈ ns.map (fun n => (n, kdOf ps n)), Sh 12 p.1 ∧ nameB (.str p.1) = true ∧ KindS p.2 := fun {ns} h p hp => by
    obtain ⟨n, hn, rfl⟩ := List.mem_map.mp hp
    exact ⟨(c.nm (h n hn)).1, (c.nm (h n hn)).2, (c.kd (h n hn)).2⟩
  have idm : ∀ ns : List Str, (ns.map (fun n => (n, kdOf ps n))).map (·.1) = ns := fun ns => by rw [List.map_map]; exact List.map_id' ns
  cases h with
  | @group ks ts hk g ht =>
    refine ⟨?_, ?_, ?_, ?_⟩
    · intro p hp
      rcases List.mem_append.mp hp with hp | hp
      · exact sel hk p hp
      · obtain ⟨t, h1, rfl⟩ := List.mem_map.mp hp
        exact ⟨(ht t h1).1, (g.t t h1).1, .inl rfl⟩
    · rw [List.map_append, idm, List.map_map]
      exact g.nd
    · rw [List.length_append, List.length_map, List.length_map]
      have := g.tl
      omega
    · rw [List.length_append, List.length_map, List.length_map]
      exact g.al
theorem Cols.b {t : Addr} {H H' : Hp} {xs : List V} {ps : List (Str × Str)} (h : Cols H xs ps) (T : Tape H t) (s : SameB t H H') : Cols H' xs ps := h.t (SameT.b T s)
/-! ## columns in the heap -/
def dl (t : Addr) (H : Hp) : Hp := fun b => if b = t then none else H b
theorem dl_at {t a : Addr} {H : Hp} {o : HO} (n : a ≠ t) (e : H a = some o) : dl t H a = some o := by
  unfold dl
  rw [if_neg n]
  exact e
theorem dl_of {t a : Addr} {H : Hp} {o : HO} (e : dl t H a = some o) : a ≠ t ∧ H a = some o := by
  unfold dl at e
  by_cases q : a = t
  · rw [if_pos q] at e; cases e
  · rw [if_neg q] at e; exact ⟨q, e⟩
theorem dl_same {t : Addr} {H H' : Hp} (s : SameB t H H') : Same (dl t H) (dl t H') := fun b o e => dl_at (dl_of e).1 (s b o (dl_of e).1 (dl_of e).2)
theorem dl_here {t : Addr} {H : Hp} : Same (dl t H) H := fun b o e => (dl_of e).2
abbrev DhT (t : Addr) (H : Hp) (v : V) (d : PyData) : Prop := Dh (dl t H) v d
theorem dts {t : Addr} {H H1 : Hp} {v : V} {d : PyData} (h : DhT t H v d) (s : Same H H1) : DhT t H1 v d := h.same (dl_same (Same.b t s))
theorem dtb {t : Addr} {H H1 : Hp} {v : V} {d : PyData} (h : DhT t H v d) (s : SameB t H H1) : DhT t H1 v d := h.same (dl_same s)
theorem dtsA {t : Addr} {H H1 : Hp} {vs : List V} {ds : List PyData} (h : DhAll (dl t H) vs ds) (s : Same H H1) : DhAll (dl t H1) vs ds := h.same (dl_same (Same.b t s))
theorem dtbA {t : Addr} {H H1 : Hp} {vs : List V} {ds : List PyData} (h : DhAll (dl t H) vs ds) (s : SameB t H H1) : DhAll (dl t H1) vs ds := h.same (dl_same s)
theorem DhF.t {t : Addr} {H H' : Hp} {v : V} {d : PyData} (T : Tape H t) (h : DhF H H' v d) : DhT t H' v d := h (dl t H') fun b o n e => dl_at (T.ne n) e
/-- a new tuple of data -/
theorem dh_tupT {t p : Addr} {H : Hp} {vs : List V} {ds : List PyData} (T : Tape H t) (h : DhAll (dl t H) vs ds) (hp : H p = none) : DhT t (upd H p (.tup vs)) (.ref p) (.tuple ds) := .tup (dl_at (T.ne hp) upd_same) (dtsA h (Same.upd hp))
def CA (H : Hp) (L : Addr) (ps : CsL) : Prop := ∃ xs, ZT H L xs ∧ Cols H xs ps
theorem CA.b {t : Addr} {H H' : Hp} {L : Addr} {ps : CsL} (h : CA H L ps) (T : Tape H t) (s : SameB t H H') : CA H' L ps := by
  obtain ⟨xs, z, c⟩ := h
  exact ⟨xs, z.b T s, c.b T s⟩
theorem CA.same {H H' : Hp} {L : Addr} {ps : CsL} (h : CA H L ps) (s : Same H H') : CA H' L ps := by
  obtain ⟨xs, z, c⟩ := h
  exact ⟨xs, z.same s, c.t (SameT.of s)⟩
theorem SameT.b2 {t : Addr} {H H' : Hp} (T : Tape H t) (s : SameB t H H') : SameT H H' := SameT.b T s
/-- a text of these columns as it is: the names -/
theorem cols_at {H : Hp} {xs : List V} {ps : CsL} (c : Cols H xs ps) {i : Nat} {x : V} (h : xs[i]? = some x) : ∃ a z k, x = .ref a ∧ H a = some (.tup [.str z, .str k]) ∧ ps[i]? = some (z, k) := c.get _ _ h
/-- what is new stays when the tape is drawn from and when a list is written -/
theorem dlT {t a : Addr} {H : Hp} {zs ys : List V} (e : H a = some (.lst zs)) : SameT (dl t H) (dl t (upd H a (.lst ys))) := fun b xs q => by
  obtain ⟨n, q⟩ := dl_of q
  exact dl_at n (by rw [upd_ne (ne_of q e nofun)]; exact q)
theorem DhT.upd {t a : Addr} {H : Hp} {zs ys : List V} {v : V} {d : PyData} (h : DhT t H v d) (n : noL d = true) (e : H a = some (.lst zs)) : DhT t (L2.upd H a (.lst ys)) v d := h.t (dlT e) n
theorem dhtA_upd {t a : Addr} {H : Hp} {zs ys vs : List V} {ds : List PyData} (h : DhAll (dl t H) vs ds) (n : ∀ d ∈ ds, noL d = true) (e : H a = some (.lst zs)) : DhAll (dl t (L2.upd H a (.lst ys))) vs ds := by
  induction ds generalizing vs with
  | nil => cases h; exact .nil
  | cons d ds ih =>
    cases h with
    | cons h r => exact .cons (DhT.upd h (n d List.mem_cons_self) e) (ih r fun x hx => n x (List.mem_cons_of_mem _ hx))
end K20
set_option Elab.async false
set_option linter.all false
set_option maxRecDepth 100000
set_option maxHeartbeats 4000000
namespace Lc
open PySem PySem.Spec PyProof.Rows L2
/-! ## sorted(xs), xs a list of things that are read as alike data -/
abbrev dLe : PyData → PyData → Bool := PySem.W.dataLe false (fun d : PyData => d)
def rSortD (K : PySem.W.Frag) : List V → Hp → VK → Prop := fun vs H Q => ∃ (a : Addr) (xs : List V) (ds : List PyData), vs = [.ref a] ∧ SqL K H a xs ∧ (∀ x ∈ xs, ∃ b, x = V.ref b) ∧ DhAll H xs ds ∧ PySem.W.AllAlike ds ∧ PySem.W.Sortable ds ∧ (∀ d ∈ ds, d.hasDict = false ∧ d.depth ≤ 50) ∧
  ∀ (ys : List V) (p : Addr), ys.Perm xs → DhAll H ys (ds.mergeSort dLe) → H p = none → Q (.ref p) (upd H p (.lst ys))
theorem back_perm {us out : List Value} {xs : List V} (e : xs = us.map backV) (h : out.Perm us) : (out.map backV).Perm xs := by
  rw [e]
  exact h.map backV
theorem each_dh {H : Hp} : ∀ {us : List Value} {ds : List PyData}, PySem.W.EachIs (fun (v : Value) d => Dh H (backV v) d) us ds → DhAll H (us.map backV) ds
  | _, _, .nil => .nil
  | _, _, .cons h r => .cons h (each_dh r)
theorem dh_each {H : Hp} : ∀ {us : List Value} {ds : List PyData}, DhAll H (us.map backV) ds → PySem.W.EachIs (fun (v : Value) d => Dh H (backV v) d) us ds
  | [], _, .nil => .nil
  | _ :: _, _, .cons h r => .cons h (dh_each r)
section
variable {X : Cx}
theorem dh_readsAll {pins : List (Addr × Obj)} {σ : L2.St} {H : Hp} {s : Shared} (I : Inv X pins σ H s) : ∀ {xs : List V} {us : List Value} {ds : List PyData}, Vals xs us → DhAll H xs ds → (∀ d ∈ ds, d.hasDict = false ∧ d.depth ≤ 50) → PySem.W.EachIs (fun v d => ∃ as, Reads s.heap v d as) us ds
  | _, _, _, .nil, .nil, _ => .nil
  | _, _, _, .cons r rs, .cons h hs, n => by
    obtain ⟨as, q⟩ := Dp.reads I _ _ _ (h.dp (n _ List.mem_cons_self).1) r
    exact .cons ⟨as, q⟩ (dh_readsAll I rs hs fun d hd => n d (List.mem_cons_of_mem _ hd))
theorem each_mono' {α β : Type} {R S : α → β → Prop} (f : ∀ a b, R a b → S a b) : ∀ {as : List α} {bs : List β}, PySem.W.EachIs R as bs → PySem.W.EachIs S as bs
  | _, _, .nil => .nil
  | _, _, .cons h r => .cons (f _ _ h) (each_mono' f r)
theorem call_sortedDt (hu : X.A.units + 64 < cLine) : CallR X (.builtin "sorted") (rSortD X.K) := by
  intro pins s σ H vs us Q I r h
  obtain ⟨a, xs, ds, rfl, hs, hx, hd, al, so, dp, q⟩ := h
  obtain ⟨its, rv, hl, hz⟩ := I.list hs
  obtain ⟨u, rfl, ru⟩ := vals1 r
  obtain rfl : u = Value.ref a := ru
  obtain ⟨e1, e2⟩ := refs_back rv hx
  have rd : PySem.W.EachIs (fun v d => ∃ as, Reads s.heap v d as) its ds := dh_readsAll I rv hd dp
  have lz : its.length ≤ sizeLine := by rw [← rv.length]; exact hz
  have keep : ∀ b o, s.heap.get? b = some o → (PySem.W.sortingHeap (PySem.W.copyHeap s.heap its) (s.heap.objs.size + 1) its).get? b = some o := fun b o e => PySem.W.sorting_copy_old e
  have rd2 : PySem.W.EachIs (fun v d => ∃ as, Reads (PySem.W.sortingHeap (PySem.W.copyHeap s.heap its) (s.heap.objs.size + 1) its) v d as) its ds := each_mono' (fun v d ⟨as, r⟩ => ⟨as, Reads.keeps keep r⟩) rd
  have S := PySem.W.SortsAt.data (prog := X.prog) (w := X.w) (A := X.A.in1.in1) (s := { s with heap := PySem.W.sortingHeap (PySem.W.copyHeap s.heap its) (s.heap.objs.size + 1) its }) rd2 al so fun d hm => by
    have := (dp d hm).2
    show X.A.units + 1 + 1 + d.depth < cLine
    omega
  have e3 : PySem.W.EachIs (fun (v : Value) d => Dh H (backV v) d) (PySem.W.sortVals (PySem.W.dataKind (PySem.W.sortingHeap (PySem.W.copyHeap s.heap its) (s.heap.objs.size + 1) its) ds) false its its) (ds.mergeSort dLe) :=
    PySem.W.sortVals_each (κ := PySem.W.dataKind (PySem.W.sortingHeap (PySem.W.copyHeap s.heap its) (s.heap.objs.size + 1) its) ds) (rev := false) (fun d : PyData => PySem.W.keyToks d) (dh_each (by rw [← e1]; exact hd)) (PySem.W.each_keys al rd2)
  have pm : (PySem.W.sortVals (PySem.W.dataKind (PySem.W.sortingHeap (PySem.W.copyHeap s.heap its) (s.heap.objs.size + 1) its) ds) false its its).Perm its := by
    unfold PySem.W.sortVals
    have z := (List.mergeSort_perm (its.zip its) (PySem.W.sortLe (PySem.W.dataKind (PySem.W.sortingHeap (PySem.W.copyHeap s.heap its) (s.heap.objs.size + 1) its) ds).toKeyOrd false fun p : Keyed => PySem.W.keyD (PySem.W.dataKind (PySem.W.sortingHeap (PySem.W.copyHeap s.heap its) (s.heap.objs.size + 1) its) ds) p.1)).map Prod.snd
    rw [List.map_snd_zip (Nat.le_refl _)] at z
    exact z
  refine PySem.W.sorted_vals hl.isList S lz ?_
  generalize PySem.W.sortVals (PySem.W.dataKind (PySem.W.sortingHeap (PySem.W.copyHeap s.heap its) (s.heap.objs.size + 1) its) ds) false its its = out at e3 pm ⊢
  have h3 : ∀ u ∈ out, ∃ a, u = Value.ref a := fun u hu => e2 u (pm.mem_iff.mp hu)
  obtain ⟨n, hn⟩ := sortedAll_at s.heap its out.toArray
  refine ⟨.ref _, upd H (s.heap.objs.size + 1) (.lst (out.map backV)), I.laid (t' := s.toks) (fun b o e => sortedAll_old e) (Nat.le_succ _) ⟨?_, out, n, vals_back h3, hn⟩, rfl, q _ _ (back_perm e1 pm) (each_dh e3) (I.hok.fresh (Nat.le_succ _))⟩
  rw [List.length_map, pm.length_eq]
  exact lz
end
end Lc
set_option Elab.async false
set_option linter.all false
set_option maxRecDepth 100000
set_option maxHeartbeats 4000000
namespace Lc
open PySem PySem.Spec PyProof.Rows L2
/-! ## sets whose members are keys that stand in the heap, at most 63 of them -/
section
variable {P : Program} {w : World} {J : Type} [DecidableEq J]
/-- what a set asks of such a kind of keys -/
structure Mem (κ : HeapKind P w J) : Prop where
  stay : ∀ {h h' : Heap} {j : J} {b : Addr}, κ.is h j b → (∀ c o vs n, h.get? c = some o → o.data = .seq vs n → h'.get? c = some o) → κ.is h' j b
  value : ∀ {A : Around} {E : Value → Shared → Prop} {s : Shared} {j : J} {b : Addr} {Q : Bool → Shared → Prop}, κ.is s.heap j b → (∀ v, Q v s) → wpAny (model P w) A (hashByValue 8 (.ref b)) Q E s
  class_ : ∀ {A : Around} {E : Value → Shared → Prop} {s : Shared} {j : J} {b : Addr} {Q : Bool → Shared → Prop}, κ.is s.heap j b → Q false s → wpAny (model P w) A (ofAClassStatement 8 (.ref b)) Q E s
variable {κ : HeapKind P w J}
theorem Mem.keep (m : Mem κ) {h h' : Heap} {j : J} {b : Addr} (x : κ.is h j b) (up : ∀ c o, h.get? c = some o → h'.get? c = some o) : κ.is h' j b := m.stay x fun c o _ _ e _ => up c o e
/-- a member is not the set -/
theorem Mem.but (m : Mem κ) {h h' : Heap} {j : J} {a b : Addr} {o : Obj} {es : Array (Int × Value)} {ep : Nat} {t : SetTable} (x : κ.is h j b) (e : h.get? a = some o) (d : o.data = .set es ep t) (sb : Heap.SameBut a h h') : κ.is h' j b :=
  m.stay x fun c u vs n eu du => (sb.2 c fun z => by
    rw [z, e] at eu
    rw [Option.some.inj eu] at d
    rw [d] at du
    cases du).trans eu
/-! ### a search shows nothing -/
theorem Mem.unseen (m : Mem κ) {A : Around} {E : Value → Shared → Prop} {s : Shared} {j : J} {b : Addr} {Q : Bool → Shared → Prop} (x : κ.is s.heap j b) {us : List Value} (all : ∀ u ∈ us, ∃ i c, u = .ref c ∧ κ.is s.heap i c) (q : Q false s) :
    wpAny (model P w) A (searchCouldBeSeen (.ref b) us) Q E s := by
  unfold searchCouldBeSeen
  refine wpAny_bind (wpAny_forIn_list _ (fun left r s' => r.1 = none ∧ s' = s ∧ ∀ u ∈ left, ∃ i c, u = .ref c ∧ κ.is s.heap i c) _ ?_ ?_ _ _ ⟨rfl, rfl, all⟩)
  · rintro u left r s' ⟨e, rfl, more⟩
    obtain ⟨i, c, rfl, y⟩ := more u List.mem_cons_self
    have back : ∀ v ∈ left, ∃ i c, v = Value.ref c ∧ κ.is s'.heap i c := fun v hv => more v (List.mem_cons_of_mem _ hv)
    dsimp only
    by_cases same : (b == c || (carriedByValue (.ref b) && carriedByValue (.ref c))) = true
    · exact wp_if_pos same (wpAny_pure ⟨rfl, rfl, back⟩)
    · refine wp_if_neg same (wpAny_bind (κ.quiet x ?_))
      rw [Bool.not_true]
      simp only [Bool.false_eq_true, ↓reduceIte]
      refine wpAny_bind (κ.quiet y ?_)
      rw [Bool.not_true]
      simp only [Bool.false_eq_true, ↓reduceIte]
      refine wpAny_bind (m.class_ x ?_)
      simp only [Bool.false_eq_true, ↓reduceIte]
      refine wpAny_bind (m.class_ y ?_)
      simp only [Bool.false_eq_true, ↓reduceIte]
      exact wpAny_pure ⟨rfl, rfl, back⟩
  · rintro ⟨r, z⟩ s' ⟨e, rfl, _⟩
    dsimp only at e
    subst e
    exact wpAny_pure q
/-! ### the set -/
def ents (κ : HeapKind P w J) (L : List (Addr × J)) : List (Int × Value) := L.map fun y => (κ.hash y.2, Value.ref y.1)
structure Ms (κ : HeapKind P w J) (h : Heap) (a : Addr) (L : List (Addr × J)) (es : Array (Int × Value)) (ep : Nat) (t : SetTable) : Prop where
  obj : ∃ o, h.get? a = some o ∧ o.ExactSet ∧ o.data = .set es ep t
  ent : es.toList = ents κ L
  tab : TabOk t (L.map fun y => κ.hash y.2)
  nd : (L.map (·.2)).Nodup
  mem : ∀ y ∈ L, κ.is h y.2 y.1
  led : w.params.followText "set-order" = true ∨ t.led = true
  room : L.length * 5 < t.mask * 3
  few : L.length < 64
variable {h : Heap} {a : Addr} {L : List (Addr × J)} {es : Array (Int × Value)} {ep : Nat} {t : SetTable}
theorem ents_len {κ : HeapKind P w J} {L : List (Addr × J)} {es : Array (Int × Value)} (e : es.toList = ents κ L) : es.size = L.length := by
  rw [← Array.length_toList, e]
  exact List.length_map _
theorem ents_get {κ : HeapKind P w J} {L : List (Addr × J)} {es : Array (Int × Value)} (e : es.toList = ents κ L) {i : Nat} {y : Addr × J} (hy : L[i]? = some y) : es[i]? = some (κ.hash y.2, .ref y.1) := by
  rw [← Array.getElem?_toList, e, ents, List.getElem?_map, hy]
  rfl
theorem tab_fits {hs : List Int} {n : Nat} (T : TabOk t hs) (hn : hs.length = n) (le : n ≤ t.mask) : t.fits n = true := by
  have := T.sz
  unfold SetTable.fits SetTable.fill
  simp only [T.dm, Bool.and_eq_true, beq_iff_eq, decide_eq_true_eq, Array.size_empty]
  omega
theorem Ms.fit (R : Ms κ h a L es ep t) : t.fits es.size = true := by
  have := R.room
  refine tab_fits R.tab ?_ ?_
  · rw [List.length_map, ents_len R.ent]
  · rw [ents_len R.ent]
    omega
theorem Ms.steady (R : Ms κ h a L es ep t) : ¬ t.gaveWay = true := by
  unfold SetTable.gaveWay
  rw [mask_odd R.tab.mok]
  decide
theorem nth_clean (n : Nat) : ∀ (k : Nat) (p : SetTable.Probe), p.dummy = none → (nth n p k).dummy = none
  | 0, _, e => e
  | k + 1, p, e => nth_clean n k (adv n p) (by unfold adv; split <;> exact e)
/-- the search of a key, from any step of its way on -/
theorem Ms.from_ (m : Mem κ) {A : Around} {E : Value → Shared → Prop} {s : Shared} (R : Ms κ s.heap a L es ep t) {x : Addr} {j : J} (hx : κ.is s.heap j x) (rm : κ.room A) {K : Nat} (lim : K < 10 * SetTable.turns t.mask)
    (free : way t.mask (κ.hash j) K ∉ t.place.toList) (full : ∀ c, c < K → way t.mask (κ.hash j) c ∈ t.place.toList) {Q : SetFound → Shared → Prop} (yes : j ∈ L.map (·.2) → Q (.there none) s) (no : j ∉ L.map (·.2) → Q (.free (way t.mask (κ.hash j) K) false) s) :
    ∀ (n c : Nat) (st : Option SetTable.Probe), st.getD (t.probeStart (κ.hash j)) = nth t.mask (t.probeStart (κ.hash j)) c → c ≤ K → K - c < n →
      (∀ (i : Nat) y, L[i]? = some y → y.2 = j → ∃ d, c ≤ d ∧ d < K ∧ t.place.toList[i]? = some (way t.mask (κ.hash j) d)) → wpAny (model P w) A (setSearchFrom a (.ref x) (κ.hash j) true n st) Q E s := by
  obtain ⟨o, eo, ex, ed⟩ := R.obj
  intro n
  induction n with
  | zero => intro c st _ _ z; exact absurd z (Nat.not_lt_zero _)
  | succ n ih =>
    intro c st est le lt ahead
    rw [setSearchFrom_succ]
    refine wpAny_bind (wpAny_setState_of eo ed R.fit ?_)
    dsimp only
    refine wp_if_neg R.steady ?_
    generalize hH : κ.hash j = H at *
    have stp : ∀ k, (nth t.mask (nth t.mask (t.probeStart H) c) k).j = way t.mask H (c + k) := fun k => by rw [← nth_add]; rfl
    have hat : ∀ {i : Nat} {y : Addr × J}, L[i]? = some y → (es[i]?.map (·.1)).getD 0 = κ.hash y.2 := fun e => by rw [ents_get R.ent e]; rfl
    have word := go_spec t R.tab.ris R.tab.dm (fun i => (es[i]?.map (·.1)).getD 0) H (10 * SetTable.turns t.mask) (K - c) (nth t.mask (t.probeStart H) c) (nth_clean _ _ _ rfl) (by omega) (fun k hk => by rw [stp]; exact full _ (by omega)) (by rw [stp, Nat.add_sub_of_le le]; exact free)
    rw [est]
    have opn : ∀ q, t.probe (fun i => (es[i]?.map (·.1)).getD 0) H q = SetTable.probe.go t (fun i => (es[i]?.map (·.1)).getD 0) H (10 * SetTable.turns t.mask) q := fun _ => rfl
    rw [opn]
    rcases word with ⟨k, i, hk, hi, hh, first, eg⟩ | ⟨none_, eg⟩
    · rw [eg]
      dsimp only
      rw [stp] at hi
      have li : i < L.length := by
        have h1 := (List.getElem?_eq_some_iff.mp hi).1
        have h2 := R.tab.sz
        rw [List.length_map] at h2
        rw [Array.length_toList] at h1
        omega
      obtain ⟨y, ey⟩ : ∃ y, L[i]? = some y := ⟨_, List.getElem?_eq_getElem li⟩
      have my := List.mem_of_getElem? ey
      have sl := slot_live R.tab.ris hi
      have next : wpAny (model P w) A (searchRest a (.ref x) H true n es t (nth t.mask (nth t.mask (t.probeStart H) c) k).j i (nth t.mask (nth t.mask (t.probeStart H) c) (k + 1))) Q E s := by
        unfold searchRest
        rw [ents_get R.ent ey]
        dsimp only
        refine wpAny_bind (wpAny_holding (κ.eqBool rm (R.mem y my) hx ?_))
        refine wpAny_bind (wpAny_setState_of eo ed R.fit ?_)
        dsimp only
        by_cases ej : y.2 = j
        · exact wp_if_pos (by simp [ej]) (wpAny_pure (yes (List.mem_map.mpr ⟨y, my, ej⟩)))
        · refine wp_if_neg (by simp [ej]) ?_
          rw [sameMem]
          dsimp only
          rw [stp]
          simp only [↓reduceIte, sl, ents_get R.ent ey]
          refine wpAny_bind (wpAny_isSame_ref_self (wpAny_bind (wpAny_pure ?_)))
          simp only [↓reduceIte]
          refine wp_if_neg (by simp [ej]) ?_
          refine ih (c + (k + 1)) _ (nth_add t.mask c _ (k + 1)).symm (by omega) (by omega) fun i0 y0 e0 j0 => ?_
          obtain ⟨d, d1, d2, d3⟩ := ahead i0 y0 e0 j0
          refine ⟨d, ?_, d2, d3⟩
          rcases Nat.lt_trichotomy d (c + k) with z | z | z
          · refine absurd ((hat e0).trans (by rw [j0]; exact hH)) (first (d - c) i0 (by omega) ?_)
            rw [stp, Nat.add_sub_of_le d1]
            exact d3
          · rw [z] at d3
            have s0 := slot_live R.tab.ris d3
            rw [sl] at s0
            injection s0 with s0
            rw [← s0, ey] at e0
            rw [Option.some.inj e0] at ej
            exact absurd j0 ej
          · exact z
      by_cases ld : t.led = true
      · exact wp_if_neg (by simp [ld]) next
      · refine wp_if_pos (by simp [ld]) (wpAny_bind (m.unseen hx (fun u hu => ?_) (wp_if_neg (by decide) next)))
        obtain ⟨e, he, rfl⟩ := List.mem_map.mp hu
        have he : e ∈ es.toList := by
          have : e ∈ es ∧ e.1 = H := by simpa using he
          simpa using this.1
        rw [R.ent] at he
        obtain ⟨y2, h2, rfl⟩ := List.mem_map.mp he
        exact ⟨y2.2, y2.1, rfl, R.mem y2 h2⟩
    · rw [eg]
      dsimp only
      rw [stp, Nat.add_sub_of_le le]
      refine wpAny_pure (no fun z => ?_)
      obtain ⟨y, my, ej⟩ := List.mem_map.mp z
      obtain ⟨i, hi, ey⟩ := List.getElem_of_mem my
      have ey : L[i]? = some y := by rw [List.getElem?_eq_getElem hi, ey]
      obtain ⟨d, d1, d2, d3⟩ := ahead i y ey ej
      refine none_ (d - c) i (by omega) ?_ ((hat ey).trans (by rw [ej]; exact hH))
      rw [stp, Nat.add_sub_of_le d1]
      exact d3
/-- the search, as adding asks for it -/
theorem Ms.look (m : Mem κ) {A : Around} {E : Value → Shared → Prop} {s : Shared} (R : Ms κ s.heap a L es ep t) {x : Addr} {j : J} (hx : κ.is s.heap j x) (rm : κ.room A) {Q : SetFound → Shared → Prop} (yes : j ∈ L.map (·.2) → Q (.there none) s)
    (no : ∀ K, j ∉ L.map (·.2) → way t.mask (κ.hash j) K ∉ t.place.toList → (∀ c, c < K → way t.mask (κ.hash j) c ∈ t.place.toList) → Q (.free (way t.mask (κ.hash j) K) false) s) : wpAny (model P w) A (setSearch a (.ref x) (κ.hash j) true) Q E s := by
  have rom := R.room
  obtain ⟨K, lim, free, full⟩ := R.tab.first (by rw [List.length_map]; omega) (κ.hash j)
  have small : 10 * SetTable.turns t.mask ≤ 1420 := by
    unfold SetTable.turns
    rcases R.tab.mok with e | e | e <;> rw [e] <;> decide
  unfold setSearch
  refine R.from_ m hx rm lim free full yes (fun n => no K n free full) 100000 0 none rfl (Nat.zero_le _) (by omega) fun i y ey ej => ?_
  have lp : i < t.place.toList.length := by
    have h1 := (List.getElem?_eq_some_iff.mp ey).1
    have h2 := R.tab.sz
    rw [List.length_map] at h2
    rw [Array.length_toList]
    omega
  obtain ⟨c, h1, h2⟩ := R.tab.before (h := κ.hash j) (i := i) free (by rw [List.getElem?_map, ey, ← ej]; rfl) (List.getElem?_eq_getElem lp)
  exact ⟨c, Nat.zero_le _, h1, by rw [h2]; exact List.getElem?_eq_getElem lp⟩
/-! ### laid anew -/
theorem fm_congr {α β : Type} {f g : α → Option β} : ∀ {l : List α}, (∀ i ∈ l, f i = g i) → l.filterMap f = l.filterMap g
  | [], _ => rfl
  | x :: l, e => by
    rw [List.filterMap_cons, List.filterMap_cons, e x List.mem_cons_self, fm_congr fun i hi => e i (List.mem_cons_of_mem _ hi)]
theorem range_all {α : Type} (l : List α) : (List.range l.length).filterMap (fun i => l[i]?) = l := by
  have e : (List.range l.length).map (fun i => l[i]?) = l.map some := by
    refine List.ext_getElem? fun i => ?_
    rw [List.getElem?_map, List.getElem?_map]
    by_cases z : i < l.length
    · rw [List.getElem?_range z, List.getElem?_eq_getElem z]
      simp [List.getElem?_eq_getElem z]
    · rw [List.getElem?_eq_none (by rw [List.length_range]; omega), List.getElem?_eq_none (by omega)]
      rfl
  have f : (List.range l.length).filterMap (fun i => l[i]?) = ((List.range l.length).map fun i => l[i]?).filterMap id := by
    rw [List.filterMap_map]
    rfl
  rw [f, e]
  simp
theorem ents_order {L : List (Addr × J)} {es : Array (Int × Value)} {order : Array Nat} (e : es.toList = ents κ L) (pm : order.toList.Perm (List.range L.length)) :
    ∃ L2 : List (Addr × J), L2.Perm L ∧ (order.filterMap (es[·]?)).toList = ents κ L2 ∧ (L2.map fun y => κ.hash y.2) = order.toList.map fun i => (es.map (·.1)).getD i 0 := by
  refine ⟨order.toList.filterMap fun i => L[i]?, ?_, ?_, ?_⟩
  · have := pm.filterMap fun i => L[i]?
    rw [range_all] at this
    exact this
  · rw [Array.toList_filterMap, ents, List.map_filterMap]
    refine fm_congr fun i _ => ?_
    rw [← Array.getElem?_toList, e, ents, List.getElem?_map]
  · rw [List.map_filterMap, ← List.filterMap_eq_map']
    refine fm_congr fun i hi => ?_
    have li := List.mem_range.mp (pm.mem_iff.mp hi)
    obtain ⟨y, ey⟩ : ∃ y, L[i]? = some y := ⟨_, List.getElem?_eq_getElem li⟩
    have q : (es.map (·.1))[i]? = some (κ.hash y.2) := by rw [Array.getElem?_map, ents_get e ey]; rfl
    rw [ey, Array.getD_eq_getD_getElem?, q]
    rfl
theorem sb_store {h : Heap} {a : Addr} {es : Array (Int × Value)} {t : SetTable} : Heap.SameBut a h (h.update a (Obj.putSet es t)) := Heap.SameBut.update ..
theorem Ms.relay (m : Mem κ) {A : Around} {E : Value → Shared → Prop} {s : Shared} {o : Obj} (eo : s.heap.get? a = some o) (ex : o.ExactSet) (ed : o.data = .set es ep t) (en : es.toList = ents κ L) (sz : t.place.size = es.size) (dm : t.dummies = #[]) (le : es.size ≤ t.mask) (nd : (L.map (·.2)).Nodup)
    (mem : ∀ y ∈ L, κ.is s.heap y.2 y.1) (led : w.params.followText "set-order" = true ∨ t.led = true) (few : L.length < 64) {n M : Nat} (hw : SetTable.sizeAbove n - 1 = M) (hM : MaskOk M) (big : SetTable.sizeAbove n ≤ 128) (room : L.length * 5 < M * 3) {Q : Unit → Shared → Prop}
    (q : ∀ h' L' es' ep' t', Heap.SameBut a s.heap h' → Ms κ h' a L' es' ep' t' → L'.Perm L → Q () { s with heap := h' }) : wpAny (model P w) A (setRelay a n) Q E s := by
  have el := ents_len en
  have ft : t.fits es.size = true := by
    unfold SetTable.fits SetTable.fill
    simp only [dm, Bool.and_eq_true, beq_iff_eq, decide_eq_true_eq, Array.size_empty]
    omega
  obtain ⟨t', order, e1, pm, T, e2, e3, e4, e5⟩ := relaid_ok t (hs := es.map (·.1)) (wanted := n) hw hM (by rw [Array.size_map, el]; omega)
  rw [Array.size_map, el] at pm
  obtain ⟨L2, p2, en2, hh⟩ := ents_order en pm
  rw [← hh] at T
  have sz2 : (order.filterMap (es[·]?)).size = es.size := by rw [ents_len en2, p2.length_eq, el]
  rw [setRelay_eq]
  refine wpAny_bind (wpAny_setState_of eo ed ft ?_)
  dsimp only
  refine wp_if_neg (by rw [sizeLine_eq]; omega) ?_
  rw [e1]
  dsimp only
  refine wpAny_bind (wp_if_neg (by simp [sz2]) (wpAny_pure ?_))
  dsimp only
  refine wpAny_storeSet_of eo ed ?_ (by rw [sz2, el, sizeLine_eq]; omega)
  refine q _ L2 _ (ep + 1) t' sb_store ⟨⟨_, store_at eo ed, ⟨ex.1, ex.2.1, ex.2.2⟩, rfl⟩, en2, T, (p2.map (·.2)).nodup_iff.mpr nd, fun y hy => m.but (mem y (p2.mem_iff.mp hy)) eo ed sb_store, by rw [e3]; exact led, by rw [p2.length_eq, e2]; exact room, by rw [p2.length_eq]; exact few⟩ p2
theorem ents_put (L : List (Addr × J)) (p : Nat) (y : Addr × J) : ents κ (L.take p ++ y :: L.drop p) = (ents κ L).take p ++ (κ.hash y.2, .ref y.1) :: (ents κ L).drop p := by
  unfold ents
  rw [List.map_append, List.map_cons, List.map_take, List.map_drop]
/-- a key is added -/
theorem Ms.add (m : Mem κ) {A : Around} {E : Value → Shared → Prop} {s : Shared} (R : Ms κ s.heap a L es ep t) {x : Addr} {j : J} (hx : κ.is s.heap j x) (rm : κ.room A) (few : L.length + 1 < 64) {Q : Bool → Shared → Prop}
    (q : ∀ b h' L' es' ep' t', Heap.SameBut a s.heap h' → Ms κ h' a L' es' ep' t' → (j ∈ L.map (·.2) → L' = L) → (j ∉ L.map (·.2) → L'.Perm ((x, j) :: L)) → Q b { s with heap := h' }) :
    wpAny (model P w) A (setAddHashed a (.ref x) (κ.hash j)) Q E s := by
  obtain ⟨o, eo, ex, ed⟩ := R.obj
  have el := ents_len R.ent
  have rom := R.room
  unfold setAddHashed
  refine wpAny_holding ?_
  show wpAny _ _ (setAddHashedIn a (.ref x) (κ.hash j) (99999 + 1)) _ _ _
  rw [setAddHashedIn_succ]
  refine wpAny_bind (wpAny_setState_of eo ed R.fit ?_)
  dsimp only
  refine wp_if_neg (by simp [byScan, Value.scannable]) ?_
  refine wpAny_bind (R.look m hx rm (fun z => ?_) fun K z free full => ?_)
  · exact wpAny_pure (q false s.heap L es ep t (Heap.SameBut.refl a s.heap) R (fun _ => rfl) fun n => absurd z n)
  dsimp only
  refine wpAny_bind (wpAny_setState_of eo ed R.fit ?_)
  dsimp only
  obtain ⟨f1, f2, f3, f4, f5, f6, f7, f8, f9⟩ := R.tab.put free full
  generalize t.put (way t.mask (κ.hash j) K) = pt at f1 f3 f4 f5 f6 f7 f8 f9 ⊢
  obtain ⟨t1, p⟩ := pt
  dsimp only at f1 f3 f4 f5 f6 f7 f8 f9 ⊢
  subst f1
  have off : ∀ {t1 : SetTable} {hs : List Int}, TabOk t1 hs → TabOk { t1 with plain := false } hs := fun T => ⟨T.ris, T.dm, T.sz, T.mok, T.bd, T.reach⟩
  -- whether its hash is known by its value
  suffices go : ∀ t1 : SetTable, TabOk t1 ((L.map fun y => κ.hash y.2).take (SetTable.below t.place (way t.mask (κ.hash j) K)) ++ κ.hash j :: (L.map fun y => κ.hash y.2).drop (SetTable.below t.place (way t.mask (κ.hash j) K))) → t1.mask = t.mask → t1.led = t.led → t1.fill = (L.map fun y => κ.hash y.2).length + 1 →
      wpAny (model P w) A (do
        storeSet a (SetTable.insertAt es (SetTable.below t.place (way t.mask (κ.hash j) K)) (κ.hash j, .ref x)) t1
        if (!false && t1.tooFull) = true then do
          setRelay a (SetTable.grown (es.size + 1))
          pure true
        else pure true) Q E s by
    by_cases pt : t1.plain = true
    · refine wp_if_pos pt (wpAny_bind (m.value hx fun v => ?_))
      cases v with
      | true => exact go t1 f3 f4 f5 f9
      | false => exact go { t1 with plain := false } (off f3) f4 f5 f9
    · exact wp_if_neg pt (wpAny_bind (wpAny_pure (go t1 f3 f4 f5 f9)))
  clear f3 f4 f5 f6 f7 f8 f9 off t1
  intro t1 f3 f4 f5 f9
  generalize SetTable.below t.place (way t.mask (κ.hash j) K) = p at f2 f3 ⊢
  have en1 : (SetTable.insertAt es p (κ.hash j, .ref x)).toList = ents κ (L.take p ++ (x, j) :: L.drop p) := by rw [SetTable.toList_insertAt, ents_put, R.ent]
  have pm := put_perm L p (x, j)
  have T1 : TabOk t1 ((L.take p ++ (x, j) :: L.drop p).map fun y => κ.hash y.2) := by
    rw [List.map_append, List.map_cons, List.map_take, List.map_drop]
    exact f3
  generalize SetTable.insertAt es p (κ.hash j, .ref x) = es1 at en1 ⊢
  generalize L.take p ++ (x, j) :: L.drop p = L1 at en1 pm T1
  have l1 : L1.length = L.length + 1 := pm.length_eq
  have el1 := ents_len en1
  have nd1 : (L1.map (·.2)).Nodup := (pm.map (·.2)).nodup_iff.mpr (List.nodup_cons.mpr ⟨z, R.nd⟩)
  refine wpAny_bind (wpAny_storeSet_of eo ed ?_ (by rw [el1, sizeLine_eq]; omega))
  have sb : Heap.SameBut a s.heap (s.heap.update a (Obj.putSet es1 t1)) := sb_store
  have eo1 := store_at (es' := es1) (t' := t1) eo ed
  generalize s.heap.update a (Obj.putSet es1 t1) = h1 at sb eo1 ⊢
  have mem1 : ∀ y ∈ L1, κ.is h1 y.2 y.1 := fun y hy => by
    rcases List.mem_cons.mp (pm.mem_iff.mp hy) with rfl | hy
    · exact m.but hx eo ed sb
    · exact m.but (R.mem y hy) eo ed sb
  have led1 : w.params.followText "set-order" = true ∨ t1.led = true := by rw [f5]; exact R.led
  have ex1 : ({ o with data := .set es1 (ep + 1) t1 } : Obj).ExactSet := ⟨ex.1, ex.2.1, ex.2.2⟩
  by_cases full : t1.tooFull = true
  · refine wp_if_pos (by simp [full]) (wpAny_bind ?_)
    have hf : (L.length + 1) * 5 ≥ t1.mask * 3 := by
      unfold SetTable.tooFull at full
      rw [decide_eq_true_eq, f9, List.length_map] at full
      exact full
    have sz1 : t1.place.size = es1.size := by rw [T1.sz, List.length_map, el1]
    rw [f4] at hf
    rw [el]
    have run : ∀ M, SetTable.sizeAbove (SetTable.grown (L.length + 1)) - 1 = M → MaskOk M → SetTable.sizeAbove (SetTable.grown (L.length + 1)) ≤ 128 → (L.length + 1) * 5 < M * 3 →
        wpAny (model P w) A (setRelay a (SetTable.grown (L.length + 1))) (fun _ s' => wpAny (model P w) A (pure true) Q E s') E { s with heap := h1 } := fun M m1 m2 m3 m4 =>
      Ms.relay m (s := { s with heap := h1 }) eo1 ex1 rfl en1 sz1 T1.dm (by rw [el1, f4, l1]; omega) nd1 mem1 led1 (by rw [l1]; exact few) m1 m2 m3 (by rw [l1]; exact m4) fun h2 L2 es2 ep2 t2 sb2 R2 p2 =>
        wpAny_pure (q true h2 L2 es2 ep2 t2 (sb.trans sb2) R2 (fun y => absurd y z) fun _ => p2.trans pm)
    rcases R.tab.mok with e | e | e
    · have : L.length = 4 := by rw [e] at hf rom; omega
      exact run 31 (by rw [this, size_20]) (.inr (.inl rfl)) (by rw [this, size_20]; decide) (by omega)
    · have : L.length = 18 := by rw [e] at hf rom; omega
      exact run 127 (by rw [this, size_76]) (.inr (.inr rfl)) (by rw [this, size_76]; decide) (by omega)
    · rw [e] at hf
      omega
  · refine wp_if_neg (by simp [full]) ?_
    refine wpAny_pure (q true h1 L1 es1 (ep + 1) t1 sb ⟨⟨_, eo1, ex1, rfl⟩, en1, T1, nd1, mem1, led1, ?_, by rw [l1]; exact few⟩ (fun y => absurd y z) fun _ => pm)
    unfold SetTable.tooFull at full
    rw [decide_eq_true_eq, f9, List.length_map] at full
    rw [l1]
    omega
/-- a new set -/
theorem Ms.new {κ : HeapKind P w J} {h : Heap} {a : Addr} (e : h.get? a = some { cls := .type "set", dict := none, data := .set #[] 0 (.fresh 0 0 (!w.params.followText "set-order")) }) : Ms κ h a [] #[] 0 (.fresh 0 0 (!w.params.followText "set-order")) := by
  refine ⟨⟨_, e, ⟨rfl, rfl, rfl⟩, rfl⟩, rfl, ⟨List.Pairwise.nil, rfl, rfl, .inl rfl, nofun, fun i h j hi => by simp at hi⟩, List.nodup_nil, nofun, ?_, by show 0 * 5 < 7 * 3; decide, by show 0 < 64; decide⟩
  show _ ∨ (!w.params.followText "set-order") = true
  cases w.params.followText "set-order" <;> simp
end
end Lc
set_option Elab.async false
set_option linter.all false
set_option maxRecDepth 100000
set_option maxHeartbeats 4000000
namespace Lc
open PySem PySem.Spec PyProof.Rows L2
/-! ## {x for a in as for x in a}: a set of tuples of texts and whole numbers -/
section
variable {P : Program} {w : World} {A : Around} {E : Value → Shared → Prop} {s : Shared}
theorem plain_class (n : Nat) {k : Key} {v : Value} (x : keyIs k v = true) : ofAClassStatement n v = pure false ∧ hashByValue n v = pure (plainKind v) := by
  rcases keyIs_shape x with ⟨i, t, rfl, rfl⟩ | ⟨y, t, rfl, rfl⟩ <;> exact ⟨by cases n <;> rfl, hashByValue_scannable n rfl⟩
theorem plain_items {ks : List Key} {us : List Value} (x : ItemsAre (mixKind P w) ks us) : ∀ u ∈ us, ∃ k, keyIs k u = true := by
  induction x with
  | nil => exact nofun
  | @cons k v ks us h _ ih =>
    intro u hu
    rcases List.mem_cons.mp hu with rfl | hu
    · exact ⟨k, h⟩
    · exact ih u hu
theorem mem_mix : Mem (tupleKind (mixKind P w)) where
  stay := fun x up => tupleKind_stays.stays up x
  value := fun {A E s j b Q} x q => by
    have ty := IsTupleKey.typeIs x
    obtain ⟨o, us, n, eo, _, ed, ei⟩ := x
    unfold hashByValue
    refine wpAny_bind (wpAny_specialOf ty F.slot_tuple_hash.lookup ?_)
    show wpAny _ _ (seqItems? (.ref b) >>= _) Q E s
    refine wpAny_bind (wpAny_seqItems eo ed (wpAny_bind ?_))
    show wpAny _ _ (forIn us _ _) _ E s
    rw [← Array.forIn_toList]
    refine wpAny_forIn_list _ (fun left r s' => r.1 = none ∧ s' = s ∧ ∀ u ∈ left, ∃ k, keyIs k u = true) _ ?_ ?_ _ _ ⟨rfl, rfl, plain_items ei⟩
    · rintro u left r s' ⟨e, rfl, more⟩
      obtain ⟨k, hk⟩ := more u List.mem_cons_self
      rw [(plain_class _ hk).2]
      refine wpAny_bind (wpAny_pure ?_)
      cases plainKind u with
      | true => exact wp_if_neg (by decide) (wpAny_pure ⟨rfl, rfl, fun v hv => more v (List.mem_cons_of_mem _ hv)⟩)
      | false => exact wp_if_pos rfl (wpAny_pure (wpAny_pure (q false)))
    · rintro ⟨r, z⟩ s' ⟨e, rfl, _⟩
      dsimp only at e
      subst e
      exact wpAny_pure (q true)
  class_ := fun {A E s j b Q} x q => by
    have ty := IsTupleKey.typeIs x
    obtain ⟨o, us, n, eo, _, ed, ei⟩ := x
    unfold ofAClassStatement
    refine wpAny_bind (wpAny_typeOf ty ?_)
    dsimp only
    rw [show (("tuple" : String) == "tuple") = true by decide]
    simp only [Bool.not_true, Bool.false_eq_true, ↓reduceIte]
    show wpAny _ _ (seqItems? (.ref b) >>= _) Q E s
    refine wpAny_bind (wpAny_seqItems eo ed ?_)
    dsimp only
    refine wpAny_bind ?_
    show wpAny _ _ (forIn us _ _) _ E s
    rw [← Array.forIn_toList]
    refine wpAny_forIn_list _ (fun left r s' => r.1 = none ∧ s' = s ∧ ∀ u ∈ left, ∃ k, keyIs k u = true) _ ?_ ?_ _ _ ⟨rfl, rfl, plain_items ei⟩
    · rintro u left r s' ⟨e, rfl, more⟩
      obtain ⟨k, hk⟩ := more u List.mem_cons_self
      rw [(plain_class _ hk).1]
      refine wpAny_bind (wpAny_pure ?_)
      simp only [Bool.false_eq_true, ↓reduceIte]
      exact wpAny_pure ⟨rfl, rfl, fun v hv => more v (List.mem_cons_of_mem _ hv)⟩
    · rintro ⟨r, z⟩ s' ⟨e, rfl, _⟩
      dsimp only at e
      subst e
      exact wpAny_pure q
end
/-! ### the set as a thing of ours -/
abbrev Kt (P : Program) (w : World) : HeapKind P w (List Key) := tupleKind (mixKind P w)
structure MsW (P : Program) (w : World) (h : Heap) (a : Addr) (L : List (Addr × List Key)) (es : Array (Int × Value)) (ep : Nat) (t : SetTable) : Prop where
  obj : ∃ o, h.get? a = some o ∧ o.ExactSet ∧ o.data = .set es ep t
  ent : es.toList = ents (Kt P w) L
  tab : TabOk t (L.map fun y => (Kt P w).hash y.2)
  nd : (L.map (·.2)).Nodup
  led : w.params.followText "set-order" = true ∨ t.led = true
  room : L.length * 5 < t.mask * 3
  few : L.length < 64
def MsO (P : Program) (w : World) (a : Addr) (L : List (Addr × List Key)) : HO := .ext fun h => ∃ es ep t, MsW P w h a L es ep t
section
variable {P : Program} {w : World} {h h' : Heap} {a : Addr} {L : List (Addr × List Key)}
theorem MsW.full {es : Array (Int × Value)} {ep : Nat} {t : SetTable} (R : MsW P w h a L es ep t) (m : ∀ y ∈ L, (Kt P w).is h y.2 y.1) : Ms (Kt P w) h a L es ep t := ⟨R.obj, R.ent, R.tab, R.nd, m, R.led, R.room, R.few⟩
theorem Ms.light {es : Array (Int × Value)} {ep : Nat} {t : SetTable} (R : Ms (Kt P w) h a L es ep t) : MsW P w h a L es ep t := ⟨R.obj, R.ent, R.tab, R.nd, R.led, R.room, R.few⟩
theorem msO_new {H : Hp} (R : ∃ es ep t, MsW P w h a L es ep t) : ObjOk P w H h a (MsO P w a L) := by
  obtain ⟨es, ep, t, R⟩ := id R
  obtain ⟨o, eo, _⟩ := id R.obj
  refine ⟨⟨es, ep, t, R⟩, ⟨o, eo⟩, fun h1 h2 p up => ?_⟩
  obtain ⟨es, ep, t, R⟩ := p
  obtain ⟨o, eo, r⟩ := R.obj
  exact ⟨es, ep, t, ⟨o, up o eo, r⟩, R.ent, R.tab, R.nd, R.led, R.room, R.few⟩
end
section
variable {X : Cx}
theorem msO_get {pins : List (Addr × Obj)} {σ : L2.St} {H : Hp} {s : Shared} {a : Addr} {L : List (Addr × List Key)} (I : Inv X pins σ H s) (e : H a = some (MsO X.prog X.w a L)) : ∃ es ep t, MsW X.prog X.w s.heap a L es ep t := (I.hok a _ e).1
/-- a tuple of ours is such a key -/
theorem items_mix {P : Program} {w : World} : ∀ {j : List Key} {us : List Value}, Vals (j.map kV) us → ItemsAre (mixKind P w) j us
  | [], _, r => by cases r; exact .nil
  | k :: j, _, r => by
    cases r with
    | cons h t =>
      refine .cons ?_ (items_mix t)
      cases k with
      | inl i => obtain ⟨u, rfl⟩ := h; exact keyIs_int i u
      | inr x => obtain ⟨u, rfl⟩ := h; exact keyIs_str x u
theorem Inv.mixT {pins : List (Addr × Obj)} {σ : L2.St} {H : Hp} {s : Shared} {b : Addr} {j : List Key} (I : Inv X pins σ H s) (e : SqT X.K H b (j.map kV)) : (Kt X.prog X.w).is s.heap j b := by
  obtain ⟨us, r, ⟨o, eo, ec, n, ed⟩, _⟩ := I.tuple e
  exact ⟨o, us.toArray, n, eo, ec, ed, by simpa using items_mix r⟩
end
/-! ### set.add -/
section
variable {P : Program} {w : World} {A : Around} {E : Value → Shared → Prop} {s : Shared}
theorem call_setadd {a x : Addr} {j : List Key} {L : List (Addr × List Key)} {es : Array (Int × Value)} {ep : Nat} {t : SetTable} {Q : Value → Shared → Prop} (R : Ms (Kt P w) s.heap a L es ep t) (hx : (Kt P w).is s.heap j x) (rm : A.units + 64 < cLine) (few : L.length + 1 < 64)
    (q : ∀ h' tk L', Heap.SameBut a s.heap h' → (∃ es ep t, MsW P w h' a L' es ep t) → (j ∈ L.map (·.2) → L' = L) → (j ∉ L.map (·.2) → L'.Perm ((x, j) :: L)) → Q .none { s with heap := h', toks := tk }) :
    wpAny (model P w) A (call (.builtin "set.add") [.ref a, .ref x]) Q E s := by
  have ty : s.TypeIs (.ref a) "set" := by
    obtain ⟨o, eo, ex, _⟩ := R.obj
    exact ⟨o, eo, ex.1⟩
  refine wpAny_call_entry F.slot_set_add ty F.entry_set_add ?_ (F.args_set_add_2 _ _)
  unfold Builtin.«set.add» Builtin.Frozenset.oneOther
  simp only [List.isEmpty_nil, bind_assoc]
  unfold Builtin.Frozenset.addrOf setAdd
  refine wpAny_bind (wpAny_pure ?_)
  try dsimp only
  refine wpAny_bind (wpAny_pure ?_)
  try dsimp only
  refine wpAny_bind (wpAny_holding (wpAny_bind ((Kt P w).pyHash (show _ < cLine by first | omega | (show A.in1.units < cLine; have := A.in1_units; omega)) hx ?_)))
  refine Ms.add (s := { s with toks := s.toks + (Kt P w).draws j }) mem_mix R hx (show _ < cLine by first | omega | (show A.in1.units < cLine; have := A.in1_units; omega)) few fun b h' L' es' ep' t' sb R' c1 c2 => ?_
  show wpAny _ _ (ret Value.none) _ _ _
  exact wpAny_pure ⟨_, rfl, q h' _ L' sb ⟨es', ep', t', R'.light⟩ c1 c2⟩
end
/-- the key at y is put into the set at D -/
def PutM (K : PySem.W.Frag) (P : Program) (w : World) (D : Addr) (y : V) (H : Hp) (N : Hp → Prop) : Prop :=
  ∃ (b : Addr) (j : List Key) (L : List (Addr × List Key)), y = .ref b ∧ SqT K H b (j.map kV) ∧ H D = some (MsO P w D L) ∧ (∀ z ∈ L, SqT K H z.1 (z.2.map kV)) ∧ L.length + 1 < 64 ∧
    ∀ L', (j ∈ L.map (·.2) → L' = L) → (j ∉ L.map (·.2) → L'.Perm ((b, j) :: L)) → N (upd H D (MsO P w D L'))
section
variable {X : Cx}
theorem putM_ok {pins : List (Addr × Obj)} {σ : L2.St} {H : Hp} {s : Shared} {E : Value → Shared → Prop} {D : Addr} {y : V} {v : Value} {Q : Value → Shared → Prop} {N : Hp → Prop} (I : Inv X pins σ H s) (hu : X.A.units + 64 < cLine) (r : RelV y v) (p : PutM X.K X.prog X.w D y H N)
    (h : ∀ s' H', Inv X pins σ H' s' → N H' → Q .none s') : wpAny (model X.prog X.w) X.A (call (.builtin "set.add") [.ref D, v]) Q E s := by
  obtain ⟨b, j, L, rfl, e1, e2, e3, few, n⟩ := p
  cases r
  obtain ⟨es, ep, t, R⟩ := msO_get I e2
  refine call_setadd (R.full fun z hz => Inv.mixT I (e3 z hz)) (Inv.mixT I e1) hu few fun h' tk L' sb R' c1 c2 => ?_
  have he : ∃ u, h'.get? D = some u := by
    obtain ⟨_, _, _, R'⟩ := R'
    obtain ⟨o, eo, _⟩ := R'.obj
    exact ⟨o, eo⟩
  exact h _ _ (I.write (e := D) (t' := tk) (by rw [e2]; trivial) (.inl rfl) (fun c u hc hu => (sb.2 c hc).trans hu) he (msO_new R')) (n L' c1 c2)
end
/-! ### the two clauses -/
theorem turn_first (x t0 i0 t1 i1 : Expr) (c0 c1 : List Expr) (sc : Scope) (pos : Pos) (it acc : Value) (env : Env) :
    compTurn (.SetComp x [⟨t0, i0, c0, 0⟩, ⟨t1, i1, c1, 0⟩] sc pos) 0 it acc env = (do
      standAt i0.pos
      match ← pyNext it with
      | none => pure (.done .next)
      | some v =>
        letOwnedTupleGo t0 it v
        assign t0 env v
        let mut go := true
        for c in c0 do
          if go then go ← isTrue c env (eval c env)
        if go then
          let y ← eval i1 env
          standAt i1.pos
          let y ← foldedSetIterable i1 env y
          let _ ← runOwn (.compStart (.SetComp x [⟨t0, i0, c0, 0⟩, ⟨t1, i1, c1, 0⟩] sc pos) 1 (← holding [y] (pyIter y)) acc env) env
        again (.compLoop (.SetComp x [⟨t0, i0, c0, 0⟩, ⟨t1, i1, c1, 0⟩] sc pos) 0 it acc env)) := by rfl
theorem turn_second (x t0 i0 t1 i1 : Expr) (c0 c1 : List Expr) (sc : Scope) (pos : Pos) (it acc : Value) (env : Env) :
    compTurn (.SetComp x [⟨t0, i0, c0, 0⟩, ⟨t1, i1, c1, 0⟩] sc pos) 1 it acc env = (do
      standAt i1.pos
      match ← pyNext it with
      | none => pure (.done .next)
      | some v =>
        letOwnedTupleGo t1 it v
        assign t1 env v
        let mut go := true
        for c in c1 do
          if go then go ← isTrue c env (eval c env)
        if go then
          (do let v ← eval x env; standAt x.pos; let _ ← call (.builtin "set.add") [acc, v])
        again (.compLoop (.SetComp x [⟨t0, i0, c0, 0⟩, ⟨t1, i1, c1, 0⟩] sc pos) 1 it acc env)) := by rfl
section
variable {prog : Program} {w : World} {A : Around} {R : Result → Shared → Prop} {s : Shared} {x t0 i0 t1 i1 : Expr} {c0 c1 : List Expr} {sc : Scope} {pos : Pos} {it acc : Value} {env : Env}
abbrev Oops (prog : Program) (w : World) (A : Around) (env : Env) (R : Result → Shared → Prop) : Value → Shared → Prop := notedBy (model prog w) A env fun e s' => R (.error e) s'
theorem loop_first (hs : ∀ y, foldedSetIterable i1 env y = pure y) (I : Nat → Shared → Prop)
    (turn : ∀ n s, I n s → wpAny (model prog w) A (pyNext it) (fun r s1 => match r with
      | none => R (.ok .next) s1
      | some v => wpAny (model prog w) A (letOwnedTupleGo t0 it v) (fun _ s2 => wpAny (model prog w) A (assign t0 env v) (fun _ s3 =>
          wpAny (model prog w) A (forIn c0 true fun c r => if r = true then do let ok ← isTrue c env (eval c env); pure (ForInStep.yield ok) else pure (ForInStep.yield r)) (fun ok s4 =>
            if ok = true then wpAny (model prog w) A (eval i1 env) (fun y s5 => wpAny (model prog w) A (pyIter y) (fun it1 s6 =>
              codeAny (model prog w) A (.compStart (.SetComp x [⟨t0, i0, c0, 0⟩, ⟨t1, i1, c1, 0⟩] sc pos) 1 it1 acc env) (fun r s' => match r with
                | .ok _ => ∃ m, m < n ∧ I m s'
                | .error _ => False) s6) (Oops prog w A env R) s5) (Oops prog w A env R) s4
            else ∃ m, m < n ∧ I m s4) (Oops prog w A env R) s3) (Oops prog w A env R) s2) (Oops prog w A env R) s1) (Oops prog w A env R) s)
    (n : Nat) (h : I n s) : codeAny (model prog w) A (.compLoop (.SetComp x [⟨t0, i0, c0, 0⟩, ⟨t1, i1, c1, 0⟩] sc pos) 0 it acc env) R s := by
  refine codeAny_loop rfl I (fun n s i => ?_) n h
  show wpAny _ A ((compTurn (.SetComp x [⟨t0, i0, c0, 0⟩, ⟨t1, i1, c1, 0⟩] sc pos) 0 it acc env).onRaise (fun z => do noteFrame z env; theTreesLotGoes z)) _ _ s
  refine wpAny_noted ?_
  rw [turn_first]
  refine wpAny_bind (wpAny_standAt (wpAny_bind (wpAny_mono (turn n s i) (fun r s1 q1 => ?_) fun _ _ z => z)))
  match r, q1 with
  | none, q1 => exact wpAny_pure q1
  | some v, q1 =>
    refine wpAny_bind (wpAny_mono q1 (fun _ s2 q2 => wpAny_bind (wpAny_mono q2 (fun _ s3 q3 => wpAny_bind (wpAny_mono q3 (fun ok s4 q4 => ?_) fun _ _ z => z)) fun _ _ z => z)) fun _ _ z => z)
    cases ok with
    | false => exact wpAny_pure ⟨rfl, q4⟩
    | true =>
      refine wpAny_bind (wpAny_mono q4 (fun y s5 q5 => wpAny_bind (wpAny_standAt (wpAny_bind (wpAny_of_eq (hs y) (wpAny_bind (wpAny_holding (wpAny_mono q5 (fun it1 s6 q6 => ?_) fun _ _ z => z))))))) fun _ _ z => z)
      refine wpAny_bind (wpAny_runOwn ?_)
      rw [Around.mark_none]
      refine codeAny_mono q6 fun r s' q => ?_
      match r, q with
      | .ok f, q =>
        first
          | exact wpAny_pure ⟨rfl, q⟩
          | exact wpAny_bind (wpAny_pure (wpAny_pure ⟨rfl, q⟩))
      | .error e, q => exact q.elim
theorem loop_second (I : Nat → Shared → Prop)
    (turn : ∀ n s, I n s → wpAny (model prog w) A (pyNext it) (fun r s1 => match r with
      | none => R (.ok .next) s1
      | some v => wpAny (model prog w) A (letOwnedTupleGo t1 it v) (fun _ s2 => wpAny (model prog w) A (assign t1 env v) (fun _ s3 =>
          wpAny (model prog w) A (forIn c1 true fun c r => if r = true then do let ok ← isTrue c env (eval c env); pure (ForInStep.yield ok) else pure (ForInStep.yield r)) (fun ok s4 =>
            if ok = true then wpAny (model prog w) A (eval x env) (fun y s5 => wpAny (model prog w) A (call (.builtin "set.add") [acc, y]) (fun _ s6 => ∃ m, m < n ∧ I m s6) (Oops prog w A env R) s5) (Oops prog w A env R) s4
            else ∃ m, m < n ∧ I m s4) (Oops prog w A env R) s3) (Oops prog w A env R) s2) (Oops prog w A env R) s1) (Oops prog w A env R) s)
    (n : Nat) (h : I n s) : codeAny (model prog w) A (.compLoop (.SetComp x [⟨t0, i0, c0, 0⟩, ⟨t1, i1, c1, 0⟩] sc pos) 1 it acc env) R s := by
  refine codeAny_loop rfl I (fun n s i => ?_) n h
  show wpAny _ A ((compTurn (.SetComp x [⟨t0, i0, c0, 0⟩, ⟨t1, i1, c1, 0⟩] sc pos) 1 it acc env).onRaise (fun z => do noteFrame z env; theTreesLotGoes z)) _ _ s
  refine wpAny_noted ?_
  rw [turn_second]
  refine wpAny_bind (wpAny_standAt (wpAny_bind (wpAny_mono (turn n s i) (fun r s1 q1 => ?_) fun _ _ z => z)))
  match r, q1 with
  | none, q1 => exact wpAny_pure q1
  | some v, q1 =>
    refine wpAny_bind (wpAny_mono q1 (fun _ s2 q2 => wpAny_bind (wpAny_mono q2 (fun _ s3 q3 => wpAny_bind (wpAny_mono q3 (fun ok s4 q4 => ?_) fun _ _ z => z)) fun _ _ z => z)) fun _ _ z => z)
    cases ok with
    | false => exact wpAny_pure ⟨rfl, q4⟩
    | true => exact wpAny_bind (wpAny_bind (wpAny_mono q4 (fun y s5 q5 => wpAny_bind (wpAny_standAt (wpAny_bind (wpAny_mono q5 (fun _ s6 q6 => wpAny_pure (wpAny_pure ⟨rfl, q6⟩)) fun _ _ z => z)))) fun _ _ z => z))
theorem start_second (h0 : codeAny (model prog w) A (.compLoop (.SetComp x [⟨t0, i0, c0, 0⟩, ⟨t1, i1, c1, 0⟩] sc pos) 1 it acc env) R s)
    (h : wpAny (model prog w) A (pyIter it) (fun it' s' => codeAny (model prog w) A (.compLoop (.SetComp x [⟨t0, i0, c0, 0⟩, ⟨t1, i1, c1, 0⟩] sc pos) 1 it' acc env) R s') (Oops prog w A env R) s) :
    codeAny (model prog w) A (.compStart (.SetComp x [⟨t0, i0, c0, 0⟩, ⟨t1, i1, c1, 0⟩] sc pos) 1 it acc env) R s := by
  refine codeAny_of_tree ?_
  show wpAny _ _ ((compStart (.SetComp x [⟨t0, i0, c0, 0⟩, ⟨t1, i1, c1, 0⟩] sc pos) 1 it acc env).onRaise (fun z => do noteFrame z env; standAt theWindowsPlace)) _ _ s
  refine wpAny_notedAt ?_
  unfold compStart
  show wpAny _ _ (ask >>= _) _ _ s
  refine wpAny_bind (wpAny_askSetting (wpAny_ite ?_))
  split
  · first
      | exact wpAny_bind (wpAny_pure (wpAny_pure (And.intro rfl h0)))
      | exact wpAny_pure (And.intro rfl h0)
  · first
      | exact wpAny_bind (wpAny_rule (wpAny_bind (wpAny_standAt (wpAny_bind (wpAny_mono h (fun _ _ z => wpAny_pure (And.intro rfl z)) fun _ _ z => z)))))
      | (refine wpAny_bind (wpAny_rule ?_); show wpAny _ _ (standAt i1.pos >>= _) _ _ s; exact wpAny_bind (wpAny_standAt (wpAny_bind (wpAny_mono h (fun _ _ z => wpAny_pure (And.intro rfl z)) fun _ _ z => z))))
end
/-! ### the comprehension -/
def tSt (K : PySem.W.Frag) (P : Program) (w : World) (wi : TI) (g : TG) (tt : TT) (wi1 : TI) (g1 : TG) (tt1 : TT) (te : TE) (vs vs1 : List Nat) : TE := fun σ H Q => wi σ H fun J H1 => ∀ D, H1 D = none → ∃ W : Nat → Nat → Hp → Prop, (∃ m, W 0 m (upd H1 D (MsO P w D []))) ∧ ∀ i m H, W i m H →
  (J.stop i H ∧ Q (.ref D) H) ∨ (J.go i H ∧ ∃ Nx : Hp → Prop, (∀ H', Nx H' → ∃ m', m' < m ∧ W (i + 1) m' H') ∧ ∀ x H', J.yld i H x H' → g x (wipe σ vs) H' fun σ2 H2 => wipe σ2 vs = wipe σ vs ∧ tt σ2 H2 fun b H3 =>
    if b = true then wi1 σ2 H3 fun J1 H4 => ∃ W1 : Nat → Nat → Hp → Prop, (∃ m, W1 0 m H4) ∧ ∀ j k H, W1 j k H →
      (J1.stop j H ∧ Nx H) ∨ (J1.go j H ∧ ∃ N1 : Hp → Prop, (∀ H', N1 H' → ∃ k', k' < k ∧ W1 (j + 1) k' H') ∧ ∀ x H', J1.yld j H x H' → g1 x (wipe σ2 vs1) H' fun σ3 H5 => wipe σ3 vs1 = wipe σ2 vs1 ∧ tt1 σ3 H5 fun b H6 =>
        if b = true then te σ3 H6 fun y H7 => PutM K P w D y H7 N1 else N1 H6)
    else Nx H3)
section
variable {X : Cx}
theorem st_core {pins : List (Addr × Obj)} {s : Shared} {σ : L2.St} {H : Hp} {Q : VK} {x tg iter tg1 iter1 : Expr} {c0 c1 : List Expr} {scope : Scope} {own : List (PySem.Str × Nat)} {vs1 : List Nat} {pos pos' : Pos} {wi wi1 : TI} {g g1 : TG} {tt tt1 : TT} {te : TE} {use : Option (Value → Sem Unit)} {Qf : Value → Shared → Prop}
    (hu : X.A.units + 64 < cLine) (hc : X.calm = true) (hN : X.N.Nodup) (I : Inv X pins σ H s) (hi : PI X tg iter wi) (ok : BlkOk X.N X.env.scope scope own) (hv : ∀ i ∈ vs1, i ∈ own.map (·.2))
    (hg : ∀ (s : Shared) (H : Hp) (C : Addr) (cl : List (PySem.Str × Addr)) (fp : List Addr), PG (X.blk s H scope (compEnvC scope cl C X.env) fp) tg g) (ht : ∀ (s : Shared) (H : Hp) (C : Addr) (cl : List (PySem.Str × Addr)) (fp : List Addr), PTs (X.blk s H scope (compEnvC scope cl C X.env) fp) c0 tt)
    (hi1 : ∀ (s : Shared) (H : Hp) (C : Addr) (cl : List (PySem.Str × Addr)) (fp : List Addr), PI (X.blk s H scope (compEnvC scope cl C X.env) fp) tg1 iter1 wi1) (hg1 : ∀ (s : Shared) (H : Hp) (C : Addr) (cl : List (PySem.Str × Addr)) (fp : List Addr), PG (X.blk s H scope (compEnvC scope cl C X.env) fp) tg1 g1)
    (ht1 : ∀ (s : Shared) (H : Hp) (C : Addr) (cl : List (PySem.Str × Addr)) (fp : List Addr), PTs (X.blk s H scope (compEnvC scope cl C X.env) fp) c1 tt1) (he : ∀ (s : Shared) (H : Hp) (C : Addr) (cl : List (PySem.Str × Addr)) (fp : List Addr), PE (X.blk s H scope (compEnvC scope cl C X.env) fp) x te)
    (hs : ∀ y, foldedSetIterable iter X.env y = pure y) (hs1 : ∀ env y, foldedSetIterable iter1 env y = pure y) (h : tSt X.K X.prog X.w wi g tt wi1 g1 tt1 te (own.map (·.2)) vs1 σ H Q)
    (fin : ∀ D C s' m H', Inv X pins σ H' s' → Q (.ref D) H' → s'.heap.Ns C m → FpOk X pins H' C → compPost (model X.prog X.w) X.A X.xe use Qf (.ref D) C (.ok .next) s') :
    wpAny (model X.prog X.w) X.A (comprehension (.SetComp x [⟨tg, iter, c0, 0⟩, ⟨tg1, iter1, c1, 0⟩] scope pos) scope X.env pos' (newSet (.type "set")) false (eval iter X.env) use) Qf X.xe s := by
  have inScope : ∀ y ∈ scope.names, y.2 = .free → ∃ c, X.env.cells.lookup y.1 = some c := fun y hy e => (ok.free y hy e).elim (fun k => I.ok.has _ (.inl k)) fun k => I.ok.has _ (.inr k)
  refine wpAny_comprehension_free (use := use) rfl hs (closure_ok inScope) ok.kind (fun y hy e => by rw [ok.uniq y hy, e]) (thn (hi.run pins s σ H _ I h) fun _ s1 h1 => thn h1 fun itv s2 h2 => ?_)
  obtain ⟨it, fp, tn, J, H2, rfl, I2, T, st2, f2, q⟩ := h2
  refine PpSet.newSet_ok (newEnv_comp ?_)
  generalize eD : s2.heap.objs.size = D
  have nD : H2 D = none := I2.hok.fresh (Nat.le_of_eq eD)
  obtain ⟨W, ⟨m0, w0⟩, turn⟩ := q D nD
  generalize e3 : ({ s2 with heap := s2.heap.push { cls := .type "set", dict := none, data := .set #[] 0 (.fresh 0 0 (!X.w.params.followText "set-order")) } } : Shared) = s3
  have hp3 : s3.heap = s2.heap.push { cls := .type "set", dict := none, data := .set #[] 0 (.fresh 0 0 (!X.w.params.followText "set-order")) } := by rw [← e3]
  have I3 : Inv X pins σ (upd H2 D (MsO X.prog X.w D [])) s3 := by
    rw [← e3]
    refine I2.laid (t' := s2.toks) (fun b o e => Heap.get?_push_of_some _ e) (Nat.le_of_eq eD) ?_
    rw [← eD]
    exact msO_new ⟨_, _, _, (Ms.new (Heap.get?_push_size _ rfl)).light⟩
  have lt : ∀ b ∈ fp, b < s2.heap.objs.size := fun b hb => let ⟨_, e, _⟩ := T.obj _ _ st2 b hb; Heap.lt_size e
  have f3 : ∀ b ∈ fp, FpOk X pins (upd H2 D (MsO X.prog X.w D [])) b ∧ b < s3.heap.objs.size := fun b hb => by
    have l := lt b hb
    refine ⟨⟨?_, (f2 b hb).2⟩, by rw [hp3, Heap.size_push]; exact Nat.lt_of_lt_of_le l (Nat.le_succ _)⟩
    rw [upd_ne fun z => Nat.lt_irrefl D (by rw [← z] at eD ⊢; exact eD ▸ l)]
    exact (f2 b hb).1
  have st3 : tn 0 s3.heap := T.keep _ _ _ st2 fun b _ o e => by rw [hp3]; exact Heap.get?_push_of_some _ e
  have I4 := block_start I3 ok hN f3
  have pg := hg s3 (upd H2 D (MsO X.prog X.w D [])) s3.heap.objs.size (cellsFrom (s3.heap.objs.size + 1) scope.names (cloFrom X.env.cells scope.names [])) fp
  have pt := ht s3 (upd H2 D (MsO X.prog X.w D [])) s3.heap.objs.size (cellsFrom (s3.heap.objs.size + 1) scope.names (cloFrom X.env.cells scope.names [])) fp
  have pe := he s3 (upd H2 D (MsO X.prog X.w D [])) s3.heap.objs.size (cellsFrom (s3.heap.objs.size + 1) scope.names (cloFrom X.env.cells scope.names [])) fp
  have pi1 := hi1 s3 (upd H2 D (MsO X.prog X.w D [])) s3.heap.objs.size (cellsFrom (s3.heap.objs.size + 1) scope.names (cloFrom X.env.cells scope.names [])) fp
  have pg1 := hg1 s3 (upd H2 D (MsO X.prog X.w D [])) s3.heap.objs.size (cellsFrom (s3.heap.objs.size + 1) scope.names (cloFrom X.env.cells scope.names [])) fp
  have pt1 := ht1 s3 (upd H2 D (MsO X.prog X.w D [])) s3.heap.objs.size (cellsFrom (s3.heap.objs.size + 1) scope.names (cloFrom X.env.cells scope.names [])) fp
  show codeAny _ _ (.compStart (.SetComp x [⟨tg, iter, c0, 0⟩, ⟨tg1, iter1, c1, 0⟩] scope pos) 0 (.ref it) (.ref D) (compEnvC scope (cellsFrom (s3.heap.objs.size + 1) scope.names (cloFrom X.env.cells scope.names [])) s3.heap.objs.size X.env)) (compPost (model X.prog X.w) X.A X.xe use Qf (.ref D) s3.heap.objs.size) { s3 with heap := pushCells (s3.heap.push { cls := .type "dict", data := .dict #[] }) scope.names }
  have none3 : ∀ b ∈ fp, upd H2 D (MsO X.prog X.w D []) b = none := fun b hb => (f3 b hb).1.1
  generalize ec : compEnvC scope (cellsFrom (s3.heap.objs.size + 1) scope.names (cloFrom X.env.cells scope.names [])) s3.heap.objs.size X.env = ce at I4 pg pt pe pi1 pg1 pt1 ⊢
  have loc : ce.locals = s3.heap.objs.size := by rw [← ec]; rfl
  generalize upd H2 D (MsO X.prog X.w D []) = H3 at I3 I4 pg pt pe pi1 pg1 pt1 w0 none3 f3
  generalize e4 : ({ s3 with heap := pushCells (s3.heap.push { cls := .type "dict", data := .dict #[] }) scope.names } : Shared) = s4 at I4 ⊢
  have st4 : tn 0 s4.heap := T.keep _ _ _ st3 fun b _ o e => by rw [← e4]; exact pushCells_keeps _ _ _ _ (Heap.get?_push_of_some _ e)
  have foot : ∀ {σ' : L2.St} {H' : Hp} {s' : Shared}, Inv (X.blk s3 H3 scope ce fp) [] σ' H' s' → (∀ b ∈ fp, H' b = none) → ∀ b ∈ fp, FpOk (X.blk s3 H3 scope ce fp) [] H' b := fun I' n b hb =>
    ⟨n b hb, (I'.ok.exf b hb).1, I'.ok.exfs b hb, .inl hb, fun y c e => (I'.ok.exf b hb).2 y c e, fun p z => by cases z⟩
  have all : codeAny (model X.prog X.w) X.A (.compLoop (.SetComp x [⟨tg, iter, c0, 0⟩, ⟨tg1, iter1, c1, 0⟩] scope pos) 0 (.ref it) (.ref D) ce) (compPost (model X.prog X.w) X.A X.xe use Qf (.ref D) s3.heap.objs.size) s4 := by
    refine loop_first (hs1 ce) (fun n s' => ∃ i H', Inv (X.blk s3 H3 scope ce fp) [] (wipe σ (own.map (·.2))) H' s' ∧ tn i s'.heap ∧ (∀ b ∈ fp, H' b = none) ∧ W i n H') ?_ m0 ⟨0, H3, I4, st4, none3, w0⟩
    rintro n s5 ⟨i, H5, I5, st5, n5, w5⟩
    rcases turn i n H5 w5 with ⟨stop, qq⟩ | ⟨go, Nx, down, step⟩
    · refine thnF (T.done (X.blk s3 H3 scope ce fp) rfl rfl rfl hc i [] s5 _ H5 (fun _ _ => False) I5 (foot I5 n5) st5 stop) fun r s6 ⟨er, I6⟩ => ?_
      subst er
      obtain ⟨m, ns, _⟩ := I6.loc
      have ns : s6.heap.Ns ce.locals m := ns
      have fr : H5 ce.locals = none := I6.free
      rw [loc] at ns fr
      exact fin D _ s6 m H5 (I3.call' (ch := fp) I6.os I6.base I6.hok I6.bare fun b hb => ⟨(f3 b hb).1.2.2.2.1, (f3 b hb).1.2.1, (f3 b hb).1.2.2.2.2.1, (f3 b hb).1.2.2.2.2.2⟩) qq ns (I3.fpOk (Nat.le_refl _) fr)
    refine thnF (T.item (X.blk s3 H3 scope ce fp) rfl rfl rfl hc i [] s5 _ H5 (fun _ _ => False) I5 (foot I5 n5) st5 go) fun r s6 ⟨u, er, h6⟩ => ?_
    subst er
    refine thnF h6 fun _ s7 ⟨y, H7, I7, r7, y7, st7, n7⟩ => ?_
    refine thnF (pg.run _ s7 _ H7 y u _ (I7.pinned (foot I7 n7) (T.obj _ _ st7)) r7 (step y H7 y7)) fun _ s8 ⟨σ8, H8, I8, w8, q8⟩ => ?_
    refine thnF (pt.run _ s8 σ8 H8 _ I8 q8) fun b s9 ⟨H9, I9, q9⟩ => ?_
    -- the end of a turn
    have over : ∀ {σ9 : L2.St} {s' : Shared} {H' : Hp}, Inv (X.blk s3 H3 scope ce fp) ([] ++ pinsAt fp s7.heap) σ9 H' s' → (wipe σ (own.map (·.2))).length = σ9.length → (∀ (k : Nat) v, (wipe σ (own.map (·.2)))[k]? = some (some v) → σ9[k]? = some (some v)) → Nx H' →
        ∃ m, m < n ∧ ∃ i H', Inv (X.blk s3 H3 scope ce fp) [] (wipe σ (own.map (·.2))) H' s' ∧ tn i s'.heap ∧ (∀ b ∈ fp, H' b = none) ∧ W i m H' := fun {σ9 s' H'} I' len know nx => by
      obtain ⟨m', lm, w'⟩ := down H' nx
      have still : ∀ b ∈ fp, ∀ o, s7.heap.get? b = some o → s'.heap.get? b = some o ∧ H' b = none := fun b hb o e =>
        have z := I'.pin (b, o) (List.mem_append_right _ (List.mem_append_right _ (mem_pinsAt hb e)))
        ⟨z.1, z.2.1⟩
      exact ⟨m', lm, i + 1, H', (I'.unpinned (pins := [])).weak len know, T.keep _ _ _ st7 fun b hb o e => (still b hb o e).1, fun b hb => let ⟨o, e, _⟩ := T.obj _ _ st7 b hb; (still b hb o e).2, w'⟩
    have len8 : (wipe σ (own.map (·.2))).length = σ8.length := by rw [← w8, wipe_length]
    have know8 : ∀ (k : Nat) v, (wipe σ (own.map (·.2)))[k]? = some (some v) → σ8[k]? = some (some v) := fun k v e => (wipe_some (w8 ▸ e)).1
    have know9 : ∀ (k : Nat) v, (wipe σ (own.map (·.2)))[k]? = some (some v) → (wipe σ8 vs1)[k]? = some (some v) := fun k v e => by
      obtain ⟨a1, a2⟩ := wipe_some (w8 ▸ e)
      rw [wipe_out fun z => a2 (hv k z)]
      exact a1
    cases b with
    | false =>
      rw [if_neg Bool.false_ne_true] at q9 ⊢
      exact over I9 len8 know8 q9
    | true =>
    rw [if_pos rfl] at q9 ⊢
    refine thnF (pi1.run _ s9 σ8 H9 _ I9 q9) fun _ s10 h10 => thnF h10 fun itv s11 h11 => ?_
    obtain ⟨it1, fp1, tn1, J1, H11, rfl, I11, T1, st11, f11, W1, ⟨m1, w1⟩, turn1⟩ := h11
    have foot1 : ∀ {H' : Hp}, (∀ b ∈ fp1, H' b = none) → ∀ b ∈ fp1, FpOk (X.blk s3 H3 scope ce fp) ([] ++ pinsAt fp s7.heap) H' b := fun n b hb => ⟨n b hb, (f11 b hb).2⟩
    have inner : codeAny (model X.prog X.w) X.A (.compLoop (.SetComp x [⟨tg, iter, c0, 0⟩, ⟨tg1, iter1, c1, 0⟩] scope pos) 1 (.ref it1) (.ref D) ce)
        (fun r s' => match r with
          | .ok _ => ∃ m, m < n ∧ ∃ i H', Inv (X.blk s3 H3 scope ce fp) [] (wipe σ (own.map (·.2))) H' s' ∧ tn i s'.heap ∧ (∀ b ∈ fp, H' b = none) ∧ W i m H'
          | .error _ => False) s11 := by
      refine loop_second (fun k s' => ∃ j H', Inv (X.blk s3 H3 scope ce fp) ([] ++ pinsAt fp s7.heap) (wipe σ8 vs1) H' s' ∧ tn1 j s'.heap ∧ (∀ b ∈ fp1, H' b = none) ∧ W1 j k H') ?_ m1 ⟨0, H11, I11.weak (wipe_length _ _) (fun k v e => (wipe_some e).1), st11, fun b hb => (f11 b hb).1, w1⟩
      rintro k s12 ⟨j, H12, I12, st12, n12, w12⟩
      rcases turn1 j k H12 w12 with ⟨stop1, nx1⟩ | ⟨go1, N1, down1, step1⟩
      · refine thnF (T1.done (X.blk s3 H3 scope ce fp) rfl rfl rfl hc j _ s12 (wipe σ8 vs1) H12 (fun _ _ => False) I12 (foot1 n12) st12 stop1) fun r s13 ⟨er, I13⟩ => ?_
        subst er
        exact over I13 (len8.trans (wipe_length σ8 vs1).symm) know9 nx1
      refine thnF (T1.item (X.blk s3 H3 scope ce fp) rfl rfl rfl hc j _ s12 (wipe σ8 vs1) H12 (fun _ _ => False) I12 (foot1 n12) st12 go1) fun r s13 ⟨u1, er, h13⟩ => ?_
      subst er
      refine thnF h13 fun _ s14 ⟨y1, H14, I14, r14, y14, st14, n14⟩ => ?_
      refine thnF (pg1.run _ s14 (wipe σ8 vs1) H14 y1 u1 _ (I14.pinned (foot1 n14) (T1.obj _ _ st14)) r14 (step1 y1 H14 y14)) fun _ s15 ⟨σ15, H15, I15, w15, q15⟩ => ?_
      refine thnF (pt1.run _ s15 σ15 H15 _ I15 q15) fun b1 s16 ⟨H16, I16, q16⟩ => ?_
      have over1 : ∀ {s' : Shared} {H' : Hp}, Inv (X.blk s3 H3 scope ce fp) (([] ++ pinsAt fp s7.heap) ++ pinsAt fp1 s14.heap) σ15 H' s' → N1 H' → ∃ m, m < k ∧ ∃ j H', Inv (X.blk s3 H3 scope ce fp) ([] ++ pinsAt fp s7.heap) (wipe σ8 vs1) H' s' ∧ tn1 j s'.heap ∧ (∀ b ∈ fp1, H' b = none) ∧ W1 j m H' := fun {s' H'} I' nx => by
        obtain ⟨m', lm, w'⟩ := down1 H' nx
        have still : ∀ b ∈ fp1, ∀ o, s14.heap.get? b = some o → s'.heap.get? b = some o ∧ H' b = none := fun b hb o e =>
          have z := I'.pin (b, o) (List.mem_append_right _ (List.mem_append_right _ (mem_pinsAt hb e)))
          ⟨z.1, z.2.1⟩
        exact ⟨m', lm, j + 1, H', I'.unpinned.weak (by rw [← w15, wipe_length]) (fun k v e => (wipe_some (w15 ▸ e)).1), T1.keep _ _ _ st14 fun b hb o e => (still b hb o e).1, fun b hb => let ⟨o, e, _⟩ := T1.obj _ _ st14 b hb; (still b hb o e).2, w'⟩
      cases b1 with
      | false =>
        rw [if_neg Bool.false_ne_true] at q16 ⊢
        exact over1 I16 q16
      | true =>
        rw [if_pos rfl] at q16 ⊢
        exact thnF (pe.run _ s16 σ15 H16 _ I16 q16) fun v s17 ⟨yv, H17, I17, r17, put⟩ => putM_ok (X := X.blk s3 H3 scope ce fp) I17 hu r17 put fun s18 H18 I18 nx => over1 I18 nx
    exact start_second inner (T1.self X.A 0 _ _ _ st11 inner)
  exact PpSet.codeAny_compStart_set all (T.self X.A 0 _ _ _ st4 all)
/-- as a value -/
theorem pe_st {x tg iter tg1 iter1 : Expr} {c0 c1 : List Expr} {scope : Scope} {own : List (PySem.Str × Nat)} {vs1 : List Nat} {pos : Pos} {wi wi1 : TI} {g g1 : TG} {tt tt1 : TT} {te : TE} (hu : X.A.units + 64 < cLine) (hc : X.calm = true) (hN : X.N.Nodup) (hi : PI X tg iter wi) (ok : BlkOk X.N X.env.scope scope own) (hv : ∀ i ∈ vs1, i ∈ own.map (·.2))
    (hg : ∀ (s : Shared) (H : Hp) (C : Addr) (cl : List (PySem.Str × Addr)) (fp : List Addr), PG (X.blk s H scope (compEnvC scope cl C X.env) fp) tg g) (ht : ∀ (s : Shared) (H : Hp) (C : Addr) (cl : List (PySem.Str × Addr)) (fp : List Addr), PTs (X.blk s H scope (compEnvC scope cl C X.env) fp) c0 tt)
    (hi1 : ∀ (s : Shared) (H : Hp) (C : Addr) (cl : List (PySem.Str × Addr)) (fp : List Addr), PI (X.blk s H scope (compEnvC scope cl C X.env) fp) tg1 iter1 wi1) (hg1 : ∀ (s : Shared) (H : Hp) (C : Addr) (cl : List (PySem.Str × Addr)) (fp : List Addr), PG (X.blk s H scope (compEnvC scope cl C X.env) fp) tg1 g1)
    (ht1 : ∀ (s : Shared) (H : Hp) (C : Addr) (cl : List (PySem.Str × Addr)) (fp : List Addr), PTs (X.blk s H scope (compEnvC scope cl C X.env) fp) c1 tt1) (he : ∀ (s : Shared) (H : Hp) (C : Addr) (cl : List (PySem.Str × Addr)) (fp : List Addr), PE (X.blk s H scope (compEnvC scope cl C X.env) fp) x te)
    (hs : ∀ y, foldedSetIterable iter X.env y = pure y := by intro _; rfl) (hs1 : ∀ env y, foldedSetIterable iter1 env y = pure y := by intro _ _; rfl) :
    PE X (.SetComp x [⟨tg, iter, c0, 0⟩, ⟨tg1, iter1, c1, 0⟩] scope pos) (tSt X.K X.prog X.w wi g tt wi1 g1 tt1 te (own.map (·.2)) vs1) := by
  refine ⟨fun pins s σ H Q I h => ?_⟩
  rw [PpSet.eval_SetComp]
  refine st_core hu hc hN I hi ok hv hg ht hi1 hg1 ht1 he hs hs1 h fun D C s' m H' I' q ns f => ⟨m, ns, fun h'' sb => ?_⟩
  exact ⟨.ref D, H', I'.turned (t' := s'.toks) (fun b o hb e => (sb.2 b hb).trans e) f.1 f.2.1 f.2.2.2.1 f.2.2.2.2.1 f.2.2.2.2.2, rfl, q⟩
end
end Lc
set_option Elab.async false
set_option linter.all false
set_option maxRecDepth 100000
set_option maxHeartbeats 4000000
namespace Lc
open PySem PySem.Spec PyProof.Rows L2
/-! ## sorted(s), s a set of tuples of texts and whole numbers -/
def kD : Key → PyData
  | .inl i => .int i
  | .inr x => .str x
abbrev tkD (j : List Key) : PyData := .tuple (j.map kD)
theorem kD_dh {H : Hp} : ∀ (j : List Key), DhAll H (j.map kV) (j.map kD)
  | [] => .nil
  | .inl i :: j => .cons (.int i) (kD_dh j)
  | .inr x :: j => .cons (.str x) (kD_dh j)
theorem kD_nd : ∀ (j : List Key), PyData.hasDictAll (j.map kD) = false
  | [] => rfl
  | .inl i :: j => by show PyData.hasDictAll (.int i :: _) = _; rw [PyData.hasDictAll, kD_nd j]; rfl
  | .inr x :: j => by show PyData.hasDictAll (.str x :: _) = _; rw [PyData.hasDictAll, kD_nd j]; rfl
theorem kD_dep : ∀ (j : List Key), PyData.depthAll (j.map kD) ≤ 1
  | [] => by simp [PyData.depthAll]
  | .inl i :: j => by
    have := kD_dep j
    show PyData.depthAll (.int i :: _) ≤ _
    simp only [PyData.depthAll, PyData.depth]
    omega
  | .inr x :: j => by
    have := kD_dep j
    show PyData.depthAll (.str x :: _) ≤ _
    simp only [PyData.depthAll, PyData.depth]
    omega
section
variable {P : Program} {w : World} {A : Around} {E : Value → Shared → Prop} {s : Shared}
theorem sorted_msG {a : Addr} {L : List (Addr × List Key)} {es : Array (Int × Value)} {ep : Nat} {t : SetTable} {Q : Value → Shared → Prop} (R : MsW P w s.heap a L es ep t) (hh : A.handled = none)
    (S : ∀ (s1 : Shared) (vs : List Value) (h' : Heap), (∀ b o, s.heap.get? b = some o → h'.get? b = some o) → vs.Perm (L.map fun z => Value.ref z.1) → ∃ κ : PyProof.Rows.KeyKind, PySem.W.SortsAt P w A.in1.in1 { s1 with heap := h' } κ vs ∧
      ∀ p (h'' : Heap) n, (∀ b o, s.heap.get? b = some o → h''.get? b = some o) → s.heap.objs.size ≤ p → h''.get? p = some (seqObj "list" (PySem.W.sortVals κ false vs vs).toArray n) → s1.gens = s.gens → s1.os = s.os → Q (.ref p) { s1 with heap := h'' }) :
    wpAny (model P w) A (call (.builtin "sorted") [.ref a]) Q E s := by
  obtain ⟨o, eo, ex, ed⟩ := id R.obj
  have el := ents_len R.ent
  have rom := R.room
  refine Calls.call_function_entry kind_sorted plain_sorted entry_sorted (args_sorted1 _) ?_
  unfold Builtin.«sorted»
  refine wpAny_bind (m := checkCount "sorted" 1 1 _) (wpAny_pure ?_)
  have ft : t.fits es.size = true := by
    refine tab_fits R.tab ?_ ?_
    · rw [List.length_map, el]
    · rw [el]; omega
  refine wpAny_bind (collect_set (A := A.in1) hh ⟨o, eo, ex.1, ed⟩ ft (by have := R.few; rw [el]; show L.length < 4096; omega) R.tab.ris R.led fun s1 vs k1 hz g1 o1 pm => ?_)
  have e2 : es.toList.map (·.2) = L.map fun z => Value.ref z.1 := by
    rw [R.ent]
    unfold ents
    rw [List.map_map]
    rfl
  rw [e2] at pm
  have hvl : vs.length ≤ sizeLine := by have := R.few; rw [pm.length_eq, List.length_map, sizeLine_eq]; omega
  refine wpAny_bind (wpAny_newList ?_ hvl)
  have hoL : (s1.heap.push (seqObj "list" vs.toArray 0)).get? s1.heap.objs.size = some (seqObj "list" vs.toArray 0) := Heap.get?_push_size _ rfl
  have up : ∀ b o, s.heap.get? b = some o → (PySem.W.sortingHeap (s1.heap.push (seqObj "list" vs.toArray 0)) s1.heap.objs.size vs).get? b = some o := fun b u e => by
    have q := k1 b u e
    have hlt := Heap.lt_size q
    exact PySem.W.sortingHeap_old (Nat.ne_of_lt hlt) (Heap.get?_push_of_some _ q)
  obtain ⟨κ, SS, fin⟩ := S s1 vs (PySem.W.sortingHeap (s1.heap.push (seqObj "list" vs.toArray 0)) s1.heap.objs.size vs) up pm
  refine wpAny_bind (wpAny_holding (wpAny_call_entry slot_list_sort ⟨_, hoL, rfl⟩ entry_list_sort
    (PySem.W.list_sort_vals (s := { s1 with heap := s1.heap.push (seqObj "list" vs.toArray 0) }) hoL SS hvl ⟨_, rfl, ?_⟩) (args_list_sort _)))
  obtain ⟨c, hc⟩ := sortedHeap_at (vs := vs) (out := (PySem.W.sortVals κ false vs vs).toArray) hoL
  refine wpAny_pure ⟨_, rfl, fin s1.heap.objs.size _ c (fun b u e => ?_) hz hc g1 o1⟩
  have q := k1 b u e
  have hlt := Heap.lt_size q
  rw [sortedHeap_old (Nat.ne_of_lt hlt) (by rw [size_push']; exact Nat.lt_succ_of_lt hlt)]
  exact Heap.get?_push_of_some _ q
end
section
variable {X : Cx}
def rSortM (P : Program) (w : World) : List V → Hp → VK → Prop := fun vs H Q => ∃ (a : Addr) (L : List (Addr × List Key)), vs = [.ref a] ∧ H a = some (MsO P w a L) ∧ (∀ z ∈ L, H z.1 = some (.tup (z.2.map kV))) ∧ PySem.W.AllAlike (L.map fun z => tkD z.2) ∧ (∀ z ∈ L, z.2 ≠ []) ∧
  ∀ (L2 : List (Addr × List Key)) (ys : List V) (p : Addr), L2.Perm L → ys.Perm (L.map fun z => V.ref z.1) → DhAll H ys ((L2.map fun z => tkD z.2).mergeSort dLe) → H p = none → Q (.ref p) (upd H p (.lst ys))
theorem vals_refs (L : List (Addr × List Key)) : Vals (L.map fun z => V.ref z.1) (L.map fun z => Value.ref z.1) := by
  induction L with
  | nil => exact .nil
  | cons z L ih => exact .cons rfl ih
theorem dh_refs {H : Hp} : ∀ {L : List (Addr × List Key)}, (∀ z ∈ L, H z.1 = some (.tup (z.2.map kV))) → DhAll H (L.map fun z => V.ref z.1) (L.map fun z => tkD z.2)
  | [], _ => .nil
  | z :: L, h => .cons (.tup (h z List.mem_cons_self) (kD_dh _)) (dh_refs fun y hy => h y (List.mem_cons_of_mem _ hy))
theorem map_perm_lift {α β : Type} (f : α → β) : ∀ {vs : List β} {L : List α}, vs.Perm (L.map f) → ∃ L2 : List α, L2.Perm L ∧ vs = L2.map f := by
  intro vs L h
  generalize e : L.map f = us at h
  induction h generalizing L with
  | nil =>
    have : L = [] := by simpa using e
    subst this
    exact ⟨[], .nil, rfl⟩
  | @cons x l1 l2 h ih =>
    cases L with
    | nil => simp at e
    | cons y L =>
      rw [List.map_cons] at e
      obtain ⟨e1, e2⟩ := List.cons.inj e
      obtain ⟨L2, p, q⟩ := ih e2
      exact ⟨y :: L2, p.cons y, by rw [List.map_cons, e1, q]⟩
  | swap x y l =>
    cases L with
    | nil => simp at e
    | cons a L =>
      cases L with
      | nil => simp at e
      | cons b L =>
        rw [List.map_cons, List.map_cons] at e
        obtain ⟨e1, e2⟩ := List.cons.inj e
        obtain ⟨e3, e4⟩ := List.cons.inj e2
        exact ⟨b :: a :: L, .swap a b L, by rw [List.map_cons, List.map_cons, e1, e3, e4]⟩
  | trans _ _ ih1 ih2 =>
    obtain ⟨L2, p2, q2⟩ := ih2 e
    obtain ⟨L1, p1, q1⟩ := ih1 q2.symm
    exact ⟨L1, p1.trans p2, q1⟩
theorem cr_sortM (hc : X.calm = true) (hu : X.A.units + 64 < cLine) : CallR X (.builtin "sorted") (rSortM X.prog X.w) := by
  intro pins s σ H vs us Q I r h
  obtain ⟨a, L, rfl, ha, hT, al, ne, q⟩ := h
  obtain ⟨es, ep, t, R⟩ := msO_get I ha
  rw [Vals.ref1 r]
  refine sorted_msG R (I.ok.hd hc) fun s1 vs h' up pm => ?_
  obtain ⟨L2, p2, rfl⟩ := map_perm_lift (fun z : Addr × List Key => Value.ref z.1) pm
  have hT2 : ∀ z ∈ L2, H z.1 = some (.tup (z.2.map kV)) := fun z hz => hT z (p2.mem_iff.mp hz)
  have dp : ∀ d ∈ L2.map (fun z => tkD z.2), d.hasDict = false ∧ d.depth ≤ 50 := fun d hd => by
    obtain ⟨z, _, rfl⟩ := List.mem_map.mp hd
    refine ⟨by rw [PyData.hasDict]; exact kD_nd _, ?_⟩
    have := kD_dep z.2
    simp only [PyData.depth]
    omega
  have al2 : PySem.W.AllAlike (L2.map fun z => tkD z.2) := fun d hd d' hd' => al d ((p2.map _).mem_iff.mp hd) d' ((p2.map _).mem_iff.mp hd')
  have so : PySem.W.Sortable (L2.map fun z => tkD z.2) := .inl fun d hd => by
    obtain ⟨z, hz, rfl⟩ := List.mem_map.mp hd
    have n := ne z (p2.mem_iff.mp hz)
    cases e : z.2 with
    | nil => exact absurd e n
    | cons k j => exact ⟨kD k, j.map kD, rfl⟩
  have dh : DhAll H (L2.map fun z => V.ref z.1) (L2.map fun z => tkD z.2) := dh_refs hT2
  have rd : PySem.W.EachIs (fun v d => ∃ as, Reads h' v d as) (L2.map fun z => Value.ref z.1) (L2.map fun z => tkD z.2) :=
    each_mono' (fun v d ⟨as, r⟩ => ⟨as, Reads.keeps up r⟩) (dh_readsAll I (vals_refs L2) dh dp)
  have SS := PySem.W.SortsAt.data (prog := X.prog) (w := X.w) (A := X.A.in1.in1) (s := { s1 with heap := h' }) rd al2 so fun d hm => by
    have := (dp d hm).2
    show X.A.units + 1 + 1 + d.depth < cLine
    omega
  refine ⟨_, SS, fun p h'' n up2 hp hg g1 o1 => ?_⟩
  have eb : (L2.map fun z => V.ref z.1) = (L2.map fun z => Value.ref z.1).map backV := by
    rw [List.map_map]
    rfl
  have e3 : PySem.W.EachIs (fun (v : Value) d => Dh H (backV v) d) (PySem.W.sortVals (PySem.W.dataKind h' (L2.map fun z => tkD z.2)) false (L2.map fun z => Value.ref z.1) (L2.map fun z => Value.ref z.1)) ((L2.map fun z => tkD z.2).mergeSort dLe) :=
    PySem.W.sortVals_each (κ := PySem.W.dataKind h' (L2.map fun z => tkD z.2)) (rev := false) (fun d : PyData => PySem.W.keyToks d) (dh_each (by rw [← eb]; exact dh)) (PySem.W.each_keys al2 rd)
  have pm3 : (PySem.W.sortVals (PySem.W.dataKind h' (L2.map fun z => tkD z.2)) false (L2.map fun z => Value.ref z.1) (L2.map fun z => Value.ref z.1)).Perm (L2.map fun z => Value.ref z.1) := by
    unfold PySem.W.sortVals
    generalize (L2.map fun z => Value.ref z.1) = its
    have z := (List.mergeSort_perm (its.zip its) (PySem.W.sortLe (PySem.W.dataKind h' (L2.map fun z => tkD z.2)).toKeyOrd false fun p : Keyed => PySem.W.keyD (PySem.W.dataKind h' (L2.map fun z => tkD z.2)) p.1)).map Prod.snd
    rw [List.map_snd_zip (Nat.le_refl _)] at z
    exact z
  generalize PySem.W.sortVals (PySem.W.dataKind h' (L2.map fun z => tkD z.2)) false (L2.map fun z => Value.ref z.1) (L2.map fun z => Value.ref z.1) = out at e3 pm3 hg
  have h3 : ∀ u ∈ out, ∃ a, u = Value.ref a := fun u hu => by
    obtain ⟨z, _, e⟩ := List.mem_map.mp (pm3.mem_iff.mp hu)
    exact ⟨_, e.symm⟩
  have py : (out.map backV).Perm (L.map fun z => V.ref z.1) := by
    have q1 := pm3.map backV
    rw [← eb] at q1
    exact q1.trans (p2.map _)
  have hn : H p = none := I.hok.fresh hp
  have hl : (out.map backV).length ≤ sizeLine := by
    have := R.few
    rw [py.length_eq, List.length_map, sizeLine_eq]
    omega
  have J : Inv X pins σ (upd H p (.lst (out.map backV))) { s with heap := h'', gens := s1.gens, drawn := s1.drawn, toks := s1.toks } :=
    I.call (ch := []) (Un.laid up2 hp hn) (I.hok.laid up2 hp ⟨hl, out, n, vals_back h3, hg⟩) (by rw [g1]; exact I.bare) (fun _ z => nomatch z)
  have e : ({ s1 with heap := h'' } : Shared) = { s with heap := h'', gens := s1.gens, drawn := s1.drawn, toks := s1.toks } := by
    cases s1
    cases s
    cases o1
    rfl
  rw [e]
  exact ⟨.ref p, _, J, rfl, q L2 (out.map backV) p p2 py (each_dh e3) hn⟩
end
/-! ### there is one sorted order -/
theorem dLe_total (a b : PyData) : dLe a b = true ∨ dLe b a = true := (PySem.W.sortLe_total (listOrd itemOrd) false fun d : PyData => PySem.W.keyToks d).total a b
theorem dLe_trans (a b c : PyData) (h1 : dLe a b = true) (h2 : dLe b c = true) : dLe a c = true := (PySem.W.sortLe_total (listOrd itemOrd) false fun d : PyData => PySem.W.keyToks d).trans a b c h1 h2
theorem dLe_anti {a b : PyData} (h1 : dLe a b = true) (h2 : dLe b a = true) : PySem.W.keyToks a = PySem.W.keyToks b := by
  have e1 : (listOrd itemOrd).blt (PySem.W.keyToks b) (PySem.W.keyToks a) = false := by simpa [dLe, PySem.W.dataLe, PySem.W.sortLe] using h1
  have e2 : (listOrd itemOrd).blt (PySem.W.keyToks a) (PySem.W.keyToks b) = false := by simpa [dLe, PySem.W.dataLe, PySem.W.sortLe] using h2
  exact (listOrd itemOrd).total _ _ e2 e1
/-- a place: a text and a number -/
def plD (p : Str × Int) : PyData := .tuple [.str p.1, .int p.2]
theorem plD_toks (p : Str × Int) : PySem.W.keyToks (plD p) = [.inl 1, .inr p.1.cps.toList, .inl 1, .inl p.2, .inl 0] := by
  simp [plD, PySem.W.keyToks, PySem.W.keyToksAll]
theorem str_cps {x y : Str} (e : x.cps.toList = y.cps.toList) : x = y := by
  cases x
  cases y
  congr 1
  exact Array.toList_inj.mp e
theorem plD_inj {p q : Str × Int} (e : PySem.W.keyToks (plD p) = PySem.W.keyToks (plD q)) : p = q := by
  rw [plD_toks, plD_toks] at e
  simp only [List.cons.injEq, Sum.inl.injEq, Sum.inr.injEq, and_true, true_and] at e
  exact Prod.ext (str_cps e.1) e.2
theorem pl_alike (p q : Str × Int) : PySem.W.alike (plD p) (plD q) = true := rfl
theorem dLe_plD {p q : Str × Int} (h1 : dLe (plD p) (plD q) = true) (h2 : dLe (plD q) (plD p) = true) : p = q := plD_inj (dLe_anti h1 h2)
theorem srt_perm : ∀ {L1 L2 : List (Str × Int)}, L1.Perm L2 → (L1.map plD).mergeSort dLe = (L2.map plD).mergeSort dLe := by
  intro L1 L2 p
  have tot : ∀ a b : PyData, (dLe a b || dLe b a) = true := fun a b => by
    rcases dLe_total a b with h | h <;> simp [h]
  refine List.Perm.eq_of_pairwise (le := fun a b => dLe a b = true) (fun a b ha hb h1 h2 => ?_) (List.pairwise_mergeSort (le := dLe) dLe_trans tot _) (List.pairwise_mergeSort (le := dLe) dLe_trans tot _) ((List.mergeSort_perm _ _).trans ((p.map plD).trans (List.mergeSort_perm _ _).symm))
  obtain ⟨x, _, rfl⟩ := List.mem_map.mp ((List.mergeSort_perm _ _).mem_iff.mp ha)
  obtain ⟨y, _, rfl⟩ := List.mem_map.mp ((List.mergeSort_perm _ _).mem_iff.mp hb)
  exact congrArg plD (dLe_plD h1 h2)
end Lc
set_option Elab.async false
set_option linter.all false
set_option maxRecDepth 100000
set_option maxHeartbeats 4000000
namespace Lc
open PySem PySem.Spec PyProof.Rows L2
/-! ## {x for a in as for x in a} over a list of tuples: the two walks -/
theorem st_out {K : PySem.W.Frag} {a : Addr} {xs : List V} {g g1 : TG} {tt tt1 : TT} {wi1 : TI} {vs vs1 : List Nat} {σ : L2.St} {Qd : Hp → Prop} {H0 : Hp} {Put : V → Hp → (Hp → Prop) → Prop} {te : TE} (Pv : Nat → Hp → Prop) (h0 : Pv 0 H0) (hl : ∀ i H, i ≤ xs.length → Pv i H → SqL K H a xs)
    (hs : ∀ i x H, xs[i]? = some x → Pv i H → g x (wipe σ vs) H fun σ2 H2 => wipe σ2 vs = wipe σ vs ∧ tt σ2 H2 fun b H3 =>
      if b = true then wi1 σ2 H3 fun J1 H4 => ∃ W1 : Nat → Nat → Hp → Prop, (∃ m, W1 0 m H4) ∧ ∀ j k H, W1 j k H →
      (J1.stop j H ∧ Pv (i + 1) H) ∨ (J1.go j H ∧ ∃ Nx1 : Hp → Prop, (∀ H', Nx1 H' → ∃ k', k' < k ∧ W1 (j + 1) k' H') ∧ ∀ x H', J1.yld j H x H' → g1 x (wipe σ2 vs1) H' fun σ3 H5 => wipe σ3 vs1 = wipe σ2 vs1 ∧ tt1 σ3 H5 fun b H6 =>
        if b = true then te σ3 H6 fun y H7 => Put y H7 Nx1 else Nx1 H6)
      else Pv (i + 1) H3) (hd : ∀ H, Pv xs.length H → Qd H) :
    ∃ W : Nat → Nat → Hp → Prop, (∃ m, W 0 m H0) ∧ ∀ i m H, W i m H →
      ((Itl K a).stop i H ∧ Qd H) ∨ ((Itl K a).go i H ∧ ∃ Nx : Hp → Prop, (∀ H', Nx H' → ∃ m', m' < m ∧ W (i + 1) m' H') ∧ ∀ x H', (Itl K a).yld i H x H' → g x (wipe σ vs) H' fun σ2 H2 => wipe σ2 vs = wipe σ vs ∧ tt σ2 H2 fun b H3 =>
        if b = true then wi1 σ2 H3 fun J1 H4 => ∃ W1 : Nat → Nat → Hp → Prop, (∃ m, W1 0 m H4) ∧ ∀ j k H, W1 j k H →
      (J1.stop j H ∧ Nx H) ∨ (J1.go j H ∧ ∃ Nx1 : Hp → Prop, (∀ H', Nx1 H' → ∃ k', k' < k ∧ W1 (j + 1) k' H') ∧ ∀ x H', J1.yld j H x H' → g1 x (wipe σ2 vs1) H' fun σ3 H5 => wipe σ3 vs1 = wipe σ2 vs1 ∧ tt1 σ3 H5 fun b H6 =>
        if b = true then te σ3 H6 fun y H7 => Put y H7 Nx1 else Nx1 H6)
        else Nx H3) := by
  refine ⟨fun i m H => m = xs.length - i ∧ i ≤ xs.length ∧ Pv i H, ⟨xs.length, by simp, Nat.zero_le _, h0⟩, ?_⟩
  rintro i m H ⟨rfl, hi, p⟩
  have q := hl i H hi p
  by_cases hlt : i < xs.length
  · refine .inr ⟨⟨xs, xs[i], q, by simp [hlt]⟩, Pv (i + 1), fun H' p' => ⟨xs.length - (i + 1), by omega, rfl, hlt, p'⟩, fun x H' y => ?_⟩
    obtain ⟨e, y⟩ := y
    subst e
    exact hs i x _ (y xs q) p
  · have e : i = xs.length := by omega
    subst e
    exact .inl ⟨⟨xs, q, Nat.le_refl _⟩, hd H p⟩
theorem st_in {K : PySem.W.Frag} {a : Addr} {xs : List V} {g1 : TG} {tt1 : TT} {vs1 : List Nat} {σ2 : L2.St} {H4 : Hp} {Nx : Hp → Prop} {Put : V → Hp → (Hp → Prop) → Prop} {te : TE} (Pv : Nat → Hp → Prop) (h0 : Pv 0 H4) (hl : ∀ i H, i ≤ xs.length → Pv i H → SqT K H a xs)
    (hs : ∀ i x H, xs[i]? = some x → Pv i H → g1 x (wipe σ2 vs1) H fun σ3 H5 => wipe σ3 vs1 = wipe σ2 vs1 ∧ tt1 σ3 H5 fun b H6 =>
      if b = true then te σ3 H6 fun y H7 => Put y H7 (Pv (i + 1)) else Pv (i + 1) H6) (hd : ∀ H, Pv xs.length H → Nx H) :
    ∃ W1 : Nat → Nat → Hp → Prop, (∃ m, W1 0 m H4) ∧ ∀ j k H, W1 j k H →
      ((Itt K a).stop j H ∧ Nx H) ∨ ((Itt K a).go j H ∧ ∃ Nx1 : Hp → Prop, (∀ H', Nx1 H' → ∃ k', k' < k ∧ W1 (j + 1) k' H') ∧ ∀ x H', (Itt K a).yld j H x H' → g1 x (wipe σ2 vs1) H' fun σ3 H5 => wipe σ3 vs1 = wipe σ2 vs1 ∧ tt1 σ3 H5 fun b H6 =>
        if b = true then te σ3 H6 fun y H7 => Put y H7 Nx1 else Nx1 H6) := by
  refine ⟨fun i m H => m = xs.length - i ∧ i ≤ xs.length ∧ Pv i H, ⟨xs.length, by simp, Nat.zero_le _, h0⟩, ?_⟩
  rintro i m H ⟨rfl, hi, p⟩
  have q := hl i H hi p
  by_cases hlt : i < xs.length
  · refine .inr ⟨⟨xs, xs[i], q, by simp [hlt]⟩, Pv (i + 1), fun H' p' => ⟨xs.length - (i + 1), by omega, rfl, hlt, p'⟩, fun x H' y => ?_⟩
    obtain ⟨e, y⟩ := y
    subst e
    exact hs i x _ (y xs q) p
  · have e : i = xs.length := by omega
    subst e
    exact .inl ⟨⟨xs, q, Nat.le_refl _⟩, hd H p⟩
theorem tyesT {σ : L2.St} {H : Hp} {A B : Hp → Prop} (h : A H) : tYes σ H (fun b H3 => if b = true then A H3 else B H3) := iteT (A := A H) (B := B H) h
/-! ### the union of lineages -/
abbrev PlL : Type := List (Str × Int)
def plK (p : Str × Int) : List Key := [.inr p.1, .inl p.2]
theorem plK_inj {p q : Str × Int} (e : plK p = plK q) : p = q := by
  unfold plK at e
  simp only [List.cons.injEq, Sum.inr.injEq, Sum.inl.injEq, and_true] at e
  exact Prod.ext e.1 e.2
theorem plK_D (p : Str × Int) : tkD (plK p) = plD p := rfl
def srtL (l : PlL) : PlL := l.mergeSort fun a b => dLe (plD a) (plD b)
theorem srtL_map (l : PlL) : (l.map plD).mergeSort dLe = (srtL l).map plD := (List.map_mergeSort (f := plD) (s := dLe) (r := fun a b => dLe (plD a) (plD b)) fun _ _ _ _ => rfl).symm
theorem srtL_perm {l m : PlL} (h : l.Perm m) : srtL l = srtL m := by
  have e := srt_perm h
  rw [srtL_map, srtL_map] at e
  have inj : ∀ {a b : PlL}, a.map plD = b.map plD → a = b := by
    intro a
    induction a with
    | nil =>
      intro b e
      cases b with
      | nil => rfl
      | cons _ _ => cases e
    | cons x a ih =>
      intro b e
      cases b with
      | nil => cases e
      | cons y b =>
        rw [List.map_cons, List.map_cons] at e
        obtain ⟨e1, e2⟩ := List.cons.inj e
        rw [plD_inj (congrArg PySem.W.keyToks e1), ih e2]
  exact inj e
theorem srtL_mem {l : PlL} {p : Str × Int} : p ∈ srtL l ↔ p ∈ l := (List.mergeSort_perm l _).mem_iff
theorem srtL_nd {l : PlL} (h : l.Nodup) : (srtL l).Nodup := (List.mergeSort_perm l _).nodup_iff.mpr h
theorem srtL_len {l : PlL} : (srtL l).length = l.length := (List.mergeSort_perm l _).length_eq
/-- all of them, each once, as they come -/
def allL (ls : List PlL) : PlL := ls.foldl (fun acc l => acc ++ l.filter fun p => decide (p ∉ acc)) []
def unL (ls : List PlL) : PlL := srtL (allL ls)
theorem allL_snoc (ls : List PlL) (l : PlL) : allL (ls ++ [l]) = allL ls ++ l.filter fun p => decide (p ∉ allL ls) := by
  unfold allL
  rw [List.foldl_append]
  rfl
theorem snoc_ind {α : Type} {P : List α → Prop} (h0 : P []) (h1 : ∀ l x, P l → P (l ++ [x])) (l : List α) : P l := by
  have : ∀ m : List α, P m.reverse := fun m => by
    induction m with
    | nil => exact h0
    | cons x m ih => rw [List.reverse_cons]; exact h1 _ _ ih
  have := this l.reverse
  rwa [List.reverse_reverse] at this
theorem allL_mem {ls : List PlL} {p : Str × Int} : p ∈ allL ls ↔ ∃ l ∈ ls, p ∈ l := by
  induction ls using snoc_ind with
  | h0 => simp [allL]
  | h1 ls l ih =>
    rw [allL_snoc, List.mem_append, List.mem_filter]
    constructor
    · rintro (h | ⟨h1, _⟩)
      · obtain ⟨m, h1, h2⟩ := ih.mp h
        exact ⟨m, List.mem_append_left _ h1, h2⟩
      · exact ⟨l, List.mem_append_right _ List.mem_cons_self, h1⟩
    · rintro ⟨m, h1, h2⟩
      by_cases z : ∃ l ∈ ls, p ∈ l
      · exact .inl (ih.mpr z)
      · rcases List.mem_append.mp h1 with h1 | h1
        · exact .inl (ih.mpr ⟨m, h1, h2⟩)
        · rw [List.mem_singleton.mp h1] at h2
          exact .inr ⟨h2, decide_eq_true fun q => z (ih.mp q)⟩
theorem allL_nd {ls : List PlL} (h : ∀ l ∈ ls, l.Nodup) : (allL ls).Nodup := by
  induction ls using snoc_ind with
  | h0 => exact List.nodup_nil
  | h1 ls l ih =>
    rw [allL_snoc]
    refine List.nodup_append.mpr ⟨ih fun m hm => h m (List.mem_append_left _ hm), (h l (List.mem_append_right _ List.mem_cons_self)).sublist List.filter_sublist, fun a ha b hb e => ?_⟩
    subst e
    exact of_decide_eq_true (List.mem_filter.mp hb).2 ha
theorem unL_mem {ls : List PlL} {p : Str × Int} : p ∈ unL ls ↔ ∃ l ∈ ls, p ∈ l := srtL_mem.trans allL_mem
theorem unL_nd {ls : List PlL} (h : ∀ l ∈ ls, l.Nodup) : (unL ls).Nodup := srtL_nd (allL_nd h)
/-- whatever order a list without repeats comes in -/
theorem unL_any {ls : List PlL} (h : ∀ l ∈ ls, l.Nodup) {m : PlL} (nd : m.Nodup) (hm : ∀ p, p ∈ m ↔ ∃ l ∈ ls, p ∈ l) : srtL m = unL ls :=
  srtL_perm ((List.perm_ext_iff_of_nodup nd (allL_nd h)).mpr fun p => (hm p).trans allL_mem.symm)
end Lc
set_option Elab.async false
set_option linter.all false
set_option maxRecDepth 100000
set_option maxHeartbeats 4000000
namespace K20
open PySem PySem.Spec PyProof.Rows L2 Lc
/-! ## rows and lineages -/
abbrev Lin : Type := List (Str × Int)
/-- the parts that lineages have -/
def linU : Lin := (["a", "b", "aa", "z9"] : List Str).flatMap fun z => (List.range 12).map fun i : Nat => (z, Int.ofNat i)
theorem linU_len : linU.length = 48 := by decide +kernel
def partD (p : Str × Int) : PyData := .tuple [.str p.1, .int p.2]
def linD (l : Lin) : PyData := .tuple (l.map partD)
structure RowD where
  vals : List PyData
  lin : Lin
def RowD.d (r : RowD) : PyData := .tuple [.tuple r.vals, linD r.lin]
def PartOk (p : Str × Int) : Prop := Sh 12 p.1 ∧ 0 ≤ p.2 ∧ p.2 < 400 ∧ p ∈ linU
def LinOk (l : Lin) : Prop := l.Nodup ∧ ∀ p ∈ l, PartOk p
theorem LinOk.len {l : Lin} (h : LinOk l) : l.length ≤ 48 := by rw [← linU_len]; exact h.1.length_le_of_subset fun p hp => (h.2 p hp).2.2.2
theorem lin_get {H : Hp} {xs : List V} {l : Lin} {i : Nat} {x : V} (h : DhAll H xs (l.map partD)) (e : xs[i]? = some x) : ∃ p a, l[i]? = some p ∧ x = .ref a ∧ H a = some (.tup [.str p.1, .int p.2]) := by
  obtain ⟨d, e1, e2⟩ := h.get i x e
  rw [List.getElem?_map] at e1
  cases q : l[i]? with
  | none => rw [q] at e1; cases e1
  | some p =>
    rw [q] at e1
    cases e1
    cases e2 with
    | tup ea hs =>
      cases hs with
      | cons h1 r1 =>
        cases r1 with
        | cons h2 r2 =>
          cases r2
          cases h1
          cases h2
          exact ⟨p, _, rfl, rfl, ea⟩
/-- data of parts -/
theorem parts_of : ∀ {es : List PyData}, (∀ e ∈ es, ∃ p, PartOk p ∧ e = partD p) → ∃ l : Lin, es = l.map partD ∧ ∀ p ∈ l, PartOk p
  | [], _ => ⟨[], rfl, nofun⟩
  | e :: es, h => by
    obtain ⟨l, e1, e2⟩ := parts_of (es := es) fun x hx => h x (List.mem_cons_of_mem _ hx)
    obtain ⟨p, h1, h2⟩ := h e List.mem_cons_self
    exact ⟨p :: l, by rw [List.map_cons, e1, h2], fun q hq => by
      rcases List.mem_cons.mp hq with rfl | hq
      · exact h1
      · exact e2 q hq⟩
theorem part_tm {p : Str × Int} (h : PartOk p) : Tm 1 40100 (partD p) := by
  have h1 : Tm 0 20000 (.str p.1) := tm_fl (v := .str p.1) (fl_str h.1 (by decide))
  have h2 : Tm 0 20000 (.int p.2) := tm_fl (v := .int p.2) (fl_int (by
    have := h.2
    exact Nat.lt_of_lt_of_le (show p.2.natAbs < 2 ^ 10 by omega) (Nat.pow_le_pow_right (by decide) (by decide))))
  have := tm_tup (k := 0) (n := 20000) (ds := [.str p.1, .int p.2]) fun d hd => by
    simp only [List.mem_cons, List.not_mem_nil, or_false] at hd
    rcases hd with rfl | rfl
    · exact h1
    · exact h2
  exact this.mono (Nat.le_refl _) (by show 20000 * 2 + 2 * 2 + 4 ≤ 40100; decide)
theorem hu65 {A : Around} {k : Nat} (hr : Room k A) : A.units + 65 < cLine := by
  have := hr.un
  omega
theorem can_strL {x : Str} (h : ∀ c ∈ x.cps.toList, c < 1114112) : (PyData.str x).canLay0 = true := by
  unfold PyData.canLay0
  show x.cps.all (· < 1114112) = true
  rw [← Array.all_toList, List.all_eq_true]
  intro c hc
  exact decide_eq_true (h c hc)
theorem part_lay {p : Str × Int} (h : PartOk p) : (partD p).canLay0 = true ∧ (partD p).depth = 1 := by
  have c := can_strL h.1.ok
  unfold partD
  refine ⟨?_, by simp [PyData.depth, PyData.depthAll]⟩
  rw [PyData.canLay0, PyData.canLayAll0, c, PyData.canLayAll0, PyData.canLayAll0]
  rfl
theorem parts_lay {l : Lin} (h : ∀ p ∈ l, PartOk p) : PyData.canLayAll0 (l.map partD) = true ∧ PyData.depthAll (l.map partD) ≤ 1 := by
  induction l with
  | nil => exact ⟨rfl, by decide⟩
  | cons p l ih =>
    have ih := ih fun q hq => h q (List.mem_cons_of_mem _ hq)
    have hp := part_lay (h p List.mem_cons_self)
    refine ⟨?_, ?_⟩
    · rw [List.map_cons, PyData.canLayAll0, hp.1, ih.1]
      rfl
    · rw [List.map_cons, PyData.depthAll, hp.2]
      omega
theorem parts_shp {l : Lin} (h : ∀ p ∈ l, PartOk p) : SeqAt.shaped (.list (l.map partD)) = true := by
  unfold SeqAt.shaped
  rw [PyData.canLay0, (parts_lay h).1, Bool.true_and]
  refine decide_eq_true ?_
  rw [PyData.depth]
  have := (parts_lay h).2
  omega
theorem part_shp {p : Str × Int} (h : PartOk p) : SeqAt.shaped (partD p) = true := by
  unfold SeqAt.shaped
  rw [(part_lay h).1, (part_lay h).2]
  rfl
theorem parts_dh {H : Hp} {xs : List V} {l : Lin} (h : DhAll H xs (l.map partD)) : ∀ x ∈ xs, ∃ b, x = V.ref b := fun x hx => by
  obtain ⟨i, hi⟩ := List.getElem?_of_mem hx
  obtain ⟨p, a, _, e, _⟩ := lin_get h hi
  exact ⟨a, e⟩
theorem parts_alike (l : Lin) : PySem.W.AllAlike (l.map partD) ∧ PySem.W.Sortable (l.map partD) ∧ ∀ d ∈ l.map partD, d.hasDict = false ∧ d.depth ≤ 50 := by
  refine ⟨fun d hd e he => ?_, .inl fun d hd => ?_, fun d hd => ?_⟩
  · obtain ⟨p, _, rfl⟩ := List.mem_map.mp hd
    obtain ⟨q, _, rfl⟩ := List.mem_map.mp he
    rfl
  · obtain ⟨p, _, rfl⟩ := List.mem_map.mp hd
    exact ⟨_, _, rfl⟩
  · obtain ⟨p, _, rfl⟩ := List.mem_map.mp hd
    exact ⟨by simp [partD, PyData.hasDict, PyData.hasDictAll], by simp [partD, PyData.depth, PyData.depthAll]⟩
theorem lin_mem {z : Str} {q : Int} (mz : z ∈ (["a", "b", "aa", "z9"] : List Str)) (h0 : 0 ≤ q) (h1 : q < 12) : (z, q) ∈ linU := by
  unfold linU
  refine List.mem_flatMap.mpr ⟨z, mz, List.mem_map.mpr ⟨q.toNat, List.mem_range.mpr (by omega), ?_⟩⟩
  rw [show Int.ofNat q.toNat = q from Int.toNat_of_nonneg h0]
theorem eqv_part (a b : Str × Int) : PyData.eqv (partD a) (partD b) = decide (a = b) := by
  obtain ⟨a1, a2⟩ := a
  obtain ⟨b1, b2⟩ := b
  show PyData.eqv (.tuple [.str a1, .int a2]) (.tuple [.str b1, .int b2]) = _
  simp only [PyData.eqv, PyData.eqvAll, Bool.and_true]
  by_cases h1 : a1 = b1
  · by_cases h2 : a2 = b2
    · subst h1; subst h2
      simp
    · have : (a2 == b2) = false := beq_eq_false_iff_ne.mpr h2
      rw [this]
      simp [h2]
  · have : (a1 == b1) = false := beq_eq_false_iff_ne.mpr h1
    rw [this]
    simp [h1]
theorem any_part (l : Lin) (p : Str × Int) : ((l.map partD).any fun z => PyData.eqv z (partD p)) = decide (p ∈ l) := by
  rw [List.any_map]
  by_cases h : p ∈ l
  · rw [decide_eq_true h]
    exact List.any_eq_true.mpr ⟨p, h, by show PyData.eqv (partD p) (partD p) = true; rw [eqv_part]; exact decide_eq_true rfl⟩
  · rw [decide_eq_false h]
    refine List.any_eq_false.mpr fun q hq => ?_
    show ¬ PyData.eqv (partD q) (partD p) = true
    rw [eqv_part]
    simpa using fun e => h (by rw [← e]; exact hq)
theorem part_new {l : Lin} {p : Str × Int} (h : (!(l.map partD).any fun z => PyData.eqv z (partD p)) = true) (nd : l.Nodup) : (l ++ [p]).Nodup := by
  rw [any_part] at h
  have h : p ∉ l := by simpa using h
  exact List.nodup_append.mpr ⟨nd, List.nodup_cons.mpr ⟨nofun, List.nodup_nil⟩, fun a ha b hb e => h (by rw [← List.mem_singleton.mp hb, ← e]; exact ha)⟩
theorem partD_inj {a b : Str × Int} (e : partD a = partD b) : a = b := plD_inj (congrArg PySem.W.keyToks e)
theorem map_partD_inj : ∀ {a b : Lin}, a.map partD = b.map partD → a = b
  | [], [], _ => rfl
  | [], _ :: _, e => by cases e
  | _ :: _, [], e => by cases e
  | x :: a, y :: b, e => by
    rw [List.map_cons, List.map_cons] at e
    obtain ⟨e1, e2⟩ := List.cons.inj e
    rw [partD_inj e1, map_partD_inj e2]
/-- a drawn lineage -/
def spFar : Sp := fun vs H Q _ => ∃ (t c : Addr), vs = [.ref t] ∧ TapeL c H t ∧ ∀ (v : V) (l : Lin) (H' : Hp), Dh H' v (linD l) → LinOk l → TapeL c H' t → SameB t H H' → Q v H'
section
variable {P : Program} {w : World} {K : PySem.W.Frag} {mg : Str → Option Value} {base : Heap} {f : Addr} {fd : FuncData}
abbrev sFar : Stmt := top 135
abbrev nFar : List Str := ["_law_tape_here", "_law_found", "_law_k", "_law_part"]
abbrev pFar : List Str := ["_law_tape_here"]
theorem scFar : FnScope nFar pFar (defScope sFar) := ⟨rfl, rfl, rfl, by decide +kernel, rfl, by decide +kernel, by decide +kernel⟩
section
variable {fA_ : Addr} {fdA_ : FuncData}
theorem ok_Far (F : Fun K "_law_lineage" "_law_lineage" sFar f fd) (T : Bt mg) (mS : mg "sorted" = none)
    (GA_ : FnOk P w K mg base CX0 1 fA_ fdA_ ["_law_tape_here", "_law_many"] (spDrawL)) (mA_ : mg "_law_draw" = some (.ref fA_)) (kA_ : PySem.W.keepIn K (.ref fA_) = true) (bA_ : Binds K fdA_ ["_law_tape_here", "_law_many"] []) : FnOk P w K mg base CX0 2 f fd pFar (spFar) := by
  refine F.ok scFar (fun vs H Q E h => ?_) (fun cdv A outer s H vs Q E hr h => ?_)
  · obtain ⟨t, c, rfl, _⟩ := h
    rfl
  · obtain ⟨t, c, rfl, hT, k⟩ := h
    have hrA_ : Room (1) _ := hr.mono (by first | decide | omega)
    refine ⟨_, (pss_cons (ps_set (i := 1) scFar.nd rfl (Or.inl rfl) (pe_lst pa_nil))
      (pss_cons (ps_for PassesOwn.never rfl (pi_range1 (by rfl) T.range (pa_cons (pe_call GA_ hrA_ (by rfl) mA_ kA_ bA_ .nil pass0 (pa_cons (pv 0) (pa_cons pe_int pa_nil))) pa_nil)) (pg_name (i := 2) scFar.nd rfl (.inl rfl)) (pss_cons (ps_set (i := 3) scFar.nd rfl (Or.inl rfl) (pe_tup (pa_cons (pe_ix ix_list (pe_lst (pa_cons pe_str (pa_cons pe_str (pa_cons pe_str (pa_cons pe_str pa_nil))))) (pe_call GA_ hrA_ (by rfl) mA_ kA_ bA_ .nil pass0 (pa_cons (pv 0) (pa_cons pe_int pa_nil))) (fun _ _ => rfl)) (pa_cons (pe_call GA_ hrA_ (by rfl) mA_ kA_ bA_ .nil pass0 (pa_cons (pv 0) (pa_cons pe_int pa_nil))) pa_nil))))
      (pss_one (ps_if (pt_cmpR (op_notInD (hu65 hr)) (pv 3) (pv 1) (by rfl)) (pss_one (ps_expr (pe_bm PySem.F.plainAttrs_list PySem.F.slot_list_append PySem.F.type_list_append mt_append (pv 1) (pa_cons (pv 3) pa_nil)))) pss_nil))))
      (pss_one (ps_ret (pe_callTy call_tuple_of (by rfl) T.tuple boot_tuple (pa_cons (pe_callB (call_sortedDt hr.units) (by rfl) mS (by decide +kernel) (pa_cons (pv 1) pa_nil)) pa_nil)))))), ?_⟩
    have two : 2 ≤ sizeLine := by decide
    have four : 4 ≤ sizeLine := by decide
    refine ⟨by show 0 ≤ sizeLine; decide, fun L hL => ?_⟩
    have zL := Same.upd (o := .lst []) hL
    have eL : upd H L (.lst []) L = some (.lst []) := upd_same
    have nt : L ≠ t := hT.tape.ne hL
    have nc : L ≠ c := by
      obtain ⟨xs, e⟩ := hT.list
      exact (ne_of_none e hL).symm
    have T1 := hT.same zL
    generalize upd H L (.lst []) = H1 at zL eL T1 ⊢
    refine ⟨_, rfl, t, c, _, rfl, T1, by decide, big1000 (by decide) (by decide), fun m H2 m0 m5 T2 S2 => ⟨m, rfl, by omega, by omega, for_range (n := m.toNat) (fun i σ H' => (∃ x2 x3 : Option V, σ = [some (.ref t), some (.ref L), x2, x3]) ∧ (∃ (xs : List V) (l : Lin), H' L = some (.lst xs) ∧ DhAll H' xs (l.map partD) ∧ l.length ≤ i ∧ LinOk l) ∧ TapeL c H' t ∧ SameB t H H') ⟨⟨_, _, rfl⟩, ⟨[], [], S2 _ _ nt eL, .nil, Nat.le_refl _, List.nodup_nil, nofun⟩, T2, (Same.b t zL).trans S2⟩ ?_ ?_⟩⟩
    · rintro i σ H3 hi ⟨⟨x2, x3, rfl⟩, ⟨xs, l, e3, d3, ll, ok⟩, T3, S3⟩
      refine ⟨four, fun Y hY => ?_⟩
      have zY := Same.upd (o := .lst [.str "a", .str "b", .str "aa", .str "z9"]) hY
      have nY := T3.tape.ne hY
      refine ⟨_, rfl, t, c, _, rfl, T3.same zY, by decide, big1000 (by decide) (by decide), fun j H4 j0 j4 T4 S4 => ?_⟩
      have all : ∀ v ∈ ([.str "a", .str "b", .str "aa", .str "z9"] : List V), ∃ z : Str, v = .str z ∧ Sh 12 z ∧ z ∈ (["a", "b", "aa", "z9"] : List Str) := by
        intro v hv
        simp only [List.mem_cons, List.not_mem_nil, or_false] at hv
        rcases hv with rfl | rfl | rfl | rfl <;> exact ⟨_, rfl, ⟨by decide +kernel, by decide +kernel⟩, by decide +kernel⟩
      have hj : j.toNat < ([.str "a", .str "b", .str "aa", .str "z9"] : List V).length := by show j.toNat < 4; omega
      obtain ⟨z, ez, sz, mz⟩ := all _ (List.getElem_mem hj)
      refine ⟨Y, _, _, _, rfl, rfl, SqL.of (S4 _ _ nY upd_same), at_of (j := j.toNat) (by omega) ((List.getElem?_eq_getElem hj).trans (congrArg some ez)), ?_⟩
      refine ⟨_, rfl, t, c, _, rfl, T4, by decide, big1000 (by decide) (by decide), fun q H5 q0 q4 T5 S5 => ⟨two, fun p hp => ?_⟩⟩
      have S35 : SameB t H3 H5 := ((Same.b t zY).trans S4).trans S5
      have zp := Same.upd (o := .tup [.str z, .int q]) hp
      have ep : upd H5 p (.tup [.str z, .int q]) p = some (.tup [.str z, .int q]) := upd_same
      have e6 := zp _ _ (S35 _ _ nt e3)
      have T6 := T5.same zp
      have S6 : SameB t H3 (upd H5 p (.tup [.str z, .int q])) := S35.trans (Same.b t zp)
      have nl : ∀ l : Lin, noLs (l.map partD) = true := fun l => noLs_all.mpr fun d hd => by
        obtain ⟨_, _, rfl⟩ := List.mem_map.mp hd
        rfl
      have d6 := DhAll.t (SameT.b T3.tape S6) d3 (nl l)
      have hp0 : H p = none := S3.free T3.tape (S35.free T5.tape hp)
      generalize upd H5 p (.tup [.str z, .int q]) = H6 at ep e6 T6 S6 d6 ⊢
      have pok : PartOk (z, q) := ⟨sz, q0, by show q < 400; omega, lin_mem mz q0 q4⟩
      have dp : Dh H6 (.ref p) (partD (z, q)) := .tup ep (.cons (.str _) (.cons (.int _) .nil))
      have nd1 : (partD (z, q)).hasDict = false := PyData.hasDict_of_canLay _ (part_lay pok).1
      have nd2 : (PyData.list (l.map partD)).hasDict = false := PyData.hasDict_of_canLay _ (SeqAt.canLay_of_shaped (parts_shp ok.2))
      refine ⟨_, rfl, _, rfl, partD (z, q), l.map partD, dp.dp nd1, (Dh.lst e6 d6).dp nd2, part_shp pok, parts_shp ok.2, _, rfl, ite2 (fun nq => ?_) (fun _ => ⟨⟨_, _, rfl⟩, ⟨xs, l, e6, d6, by omega, ok⟩, T6, S3.trans S6⟩)⟩
      have lx := d6.len
      rw [List.length_map] at lx
      refine ⟨_, rfl, .inl ⟨rfl, _, SqL.of e6⟩, _, rfl, L, _, _, rfl, rfl, e6, Nat.lt_of_le_of_lt (show xs.length ≤ 5 by omega) (by decide), ⟨⟨_, _, rfl⟩, ⟨xs ++ [.ref p], l ++ [(z, q)], upd_same, ?_, by rw [List.length_append]; show l.length + 1 ≤ i + 1; omega, part_new nq ok.1, fun r hr => ?_⟩, T6.upd nt nc, fun b o n e => by rw [upd_ne (ne_of_none e hL)]; exact (S3.trans S6) b o n e⟩⟩
      · rw [List.map_append]
        exact DhAll.append (DhAll.t (SameT.lst e6) d6 (nl l)) (.cons (dp.t (SameT.lst e6) rfl) .nil)
      · rcases List.mem_append.mp hr with hr | hr
        · exact ok.2 r hr
        · rw [List.mem_singleton.mp hr]
          exact pok
    · rintro σ H3 ⟨⟨x2, x3, rfl⟩, ⟨xs, l, e3, d3, ll, ok⟩, T3, S3⟩
      obtain ⟨al, so, dp⟩ := parts_alike l
      refine ⟨_, rfl, L, xs, l.map partD, rfl, SqL.of e3, parts_dh d3, d3, al, so, dp, fun ys p pm dy hp => ?_⟩
      have zp := Same.upd (o := .lst ys) hp
      refine ⟨p, ys, rfl, .inl ⟨SqL.of upd_same, fun r hr => ?_⟩⟩
      have zr := Same.upd (o := .tup ys) hr
      have pm2 := List.mergeSort_perm (l.map partD) dLe
      obtain ⟨l', e', ok'⟩ := parts_of (es := (l.map partD).mergeSort dLe) fun e he => by
        obtain ⟨q, hq, rfl⟩ := List.mem_map.mp (pm2.mem_iff.mp he)
        exact ⟨q, ok.2 q hq, rfl⟩
      have nd' : l'.Nodup := by
        have e2 : l' = srtL l := map_partD_inj (by rw [← e']; exact srtL_map l)
        rw [e2]
        exact srtL_nd ok.1
      exact k _ l' _ (.tup upd_same (by rw [← e']; exact (DhAll.same (zp.trans zr) dy))) ⟨nd', ok'⟩ (T3.same (zp.trans zr)) (S3.trans (Same.b t (zp.trans zr)))
end
end
end K20
set_option Elab.async false
set_option linter.all false
set_option maxRecDepth 100000
set_option maxHeartbeats 4000000
namespace K20
open PySem PySem.Spec PyProof.Rows L2 Lc
/-! ## tables -/
abbrev sTI : Stmt := inClass (top 58) 0
abbrev sTC : Stmt := inClass (top 58) 1
abbrev sTR : Stmt := inClass (top 58) 2
structure TbF (K : PySem.W.Frag) (mg : Str → Option Value) (C fI : Addr) : Prop where
  mkC : Mk K C fI
  cls : Cls K C
  a1 : NoAttr K C "shape"
  a2 : NoAttr K C "body"
  gC : mg "Table" = some (.ref C)
abbrev RowsL : Type := List (V × RowD)
def fsT (cv bv : Addr) : List (Str × V) := [("shape", .ref cv), ("body", .ref bv)]
def RowsAt (H : Hp) (rs : RowsL) : Prop := ∀ r ∈ rs, Dh H r.1 r.2.d
def RowsOk (rs : RowsL) : Prop := ∀ r ∈ rs, noLs r.2.vals = true ∧ LinOk r.2.lin
def IsTb (C : Addr) (H : Hp) (a cv : Addr) (rs : RowsL) : Prop := ∃ dx bv, H a = some (.ins C dx (fsT cv bv)) ∧ H bv = some (.tup (rs.map (·.1))) ∧ RowsAt H rs
theorem lin_noL (l : Lin) : noL (linD l) = true := by
  unfold linD
  rw [noL]
  refine noLs_all.mpr fun d hd => ?_
  obtain ⟨p, _, rfl⟩ := List.mem_map.mp hd
  rfl
theorem row_noL {r : RowD} (h : noLs r.vals = true) : noL r.d = true := by
  unfold RowD.d
  rw [noL, noLs, noL, h, noLs, lin_noL, noLs]
  rfl
theorem RowsAt.t {H H' : Hp} {rs : RowsL} (h : RowsAt H rs) (s : SameT H H') (o : RowsOk rs) : RowsAt H' rs := fun r hr => (h r hr).t s (row_noL (o r hr).1)
theorem RowsAt.same {H H' : Hp} {rs : RowsL} (h : RowsAt H rs) (s : Same H H') : RowsAt H' rs := fun r hr => (h r hr).same s
theorem IsTb.same {C : Addr} {H H' : Hp} {a cv : Addr} {rs : RowsL} (h : IsTb C H a cv rs) (s : Same H H') : IsTb C H' a cv rs := by
  obtain ⟨dx, bv, h1, h2, h3⟩ := h
  exact ⟨dx, bv, s _ _ h1, s _ _ h2, h3.same s⟩
/-- the tape alone changes -/
theorem IsTb.b {C t : Addr} {H H' : Hp} {a cv : Addr} {rs : RowsL} (h : IsTb C H a cv rs) (T : Tape H t) (s : SameB t H H') (o : RowsOk rs) : IsTb C H' a cv rs := by
  obtain ⟨dx, bv, h1, h2, h3⟩ := h
  obtain ⟨_, _, _, _, _, q, _⟩ := id T
  exact ⟨dx, bv, s _ _ (ne_of h1 q nofun) h1, SameT.b T s _ _ h2, h3.t (SameT.b T s) o⟩
theorem IsTb.upd {C : Addr} {H : Hp} {a cv b : Addr} {rs : RowsL} {u o : HO} (h : IsTb C H a cv rs) (hb : H b = some u) (nu : (∀ xs, u ≠ .tup xs) ∧ ∀ c d f, u ≠ .ins c d f) (ok : RowsOk rs) : IsTb C (upd H b o) a cv rs := by
  obtain ⟨dx, bv, h1, h2, h3⟩ := h
  have st : SameT H (L2.upd H b o) := fun x xs e => by rw [upd_ne (ne_of e hb fun z => nu.1 _ z.symm)]; exact e
  exact ⟨dx, bv, by rw [upd_ne (ne_of h1 hb fun z => nu.2 _ _ _ z.symm)]; exact h1, st _ _ h2, h3.t st ok⟩
def spTI (C : Addr) : Sp := fun vs H Q _ => ∃ (a dx cv R : Addr) (rs : RowsL), vs = [.ref a, .ref cv, .ref R] ∧ H a = some (.ins C dx []) ∧ (H R = some (.lst (rs.map (·.1))) ∨ H R = some (.tup (rs.map (·.1)))) ∧ RowsAt H rs ∧ RowsOk rs ∧
  ∀ H', SameB a H H' → IsTb C H' a cv rs → Q .non H'
def spTC (C : Addr) : Sp := fun vs H Q _ => ∃ (a cv : Addr) (rs : RowsL), vs = [.ref a] ∧ IsTb C H a cv rs ∧ Q (.ref cv) H
def spTR (C : Addr) : Sp := fun vs H Q _ => ∃ (a cv : Addr) (rs : RowsL), vs = [.ref a] ∧ IsTb C H a cv rs ∧ ∀ l, H l = none → Q (.ref l) (upd H l (.lst (rs.map (·.1))))
structure TbM (P : Program) (w : World) (K : PySem.W.Frag) (mg : Str → Option Value) (base : Heap) (C : Addr) : Prop where
  i : ∃ fI fdI, TbF K mg C fI ∧ FnOk P w K mg base CX0 1 fI fdI ["self", "columns", "rows"] (spTI C) ∧ Binds K fdI ["self", "columns", "rows"] []
  c : ∃ fC fdC, Meth K C "columns" fC ∧ FnOk P w K mg base CX0 1 fC fdC ["self"] (spTC C) ∧ Binds K fdC ["self"] []
  r : ∃ fR fdR, Meth K C "rows" fR ∧ FnOk P w K mg base CX0 1 fR fdR ["self"] (spTR C) ∧ Binds K fdR ["self"] []
theorem mk_tb {C cv R : Addr} {rs : RowsL} {H : Hp} {Q : Addr → Hp → Prop} {E : XK} (hR : H R = some (.lst (rs.map (·.1))) ∨ H R = some (.tup (rs.map (·.1)))) (ha : RowsAt H rs) (o : RowsOk rs)
    (k : ∀ (a : Addr) (H' : Hp), Same H H' → H a = none → IsTb C H' a cv rs → Q a H') :
    ∀ x dx, H x = none → H dx = none → dx ≠ x → spTI C [.ref x, .ref cv, .ref R] (L2.upd (L2.upd H dx (.own x)) x (.ins C dx [])) (fun v H2 => v = .non ∧ Q x H2) E := by
  intro x ex hx hex hne
  have s1 : Same H (L2.upd (L2.upd H ex (.own x)) x (.ins C ex [])) := fun b o' e => by
    rw [upd_ne (ne_of_none e hx), upd_ne (ne_of_none e hex)]
    exact e
  exact ⟨x, ex, cv, R, rs, rfl, upd_same, hR.imp (s1 _ _) (s1 _ _), ha.same s1, o, fun H1 b1 hI1 => ⟨rfl, k x H1 (fun b o' e => b1 b o' (ne_of_none e hx) (s1 b o' e)) hx hI1⟩⟩
section
variable {P : Program} {w : World} {K : PySem.W.Frag} {mg : Str → Option Value} {base : Heap} {f C fI : Addr} {fd : FuncData}
theorem scTI : FnScope ["self", "columns", "rows"] ["self", "columns", "rows"] (defScope sTI) := ⟨rfl, rfl, rfl, by decide +kernel, rfl, by decide +kernel, by decide +kernel⟩
theorem ok_ti (F : Fun K "__init__" "Table.__init__" sTI f fd) (T : Bt mg) (G : TbF K mg C fI) : FnOk P w K mg base CX0 1 f fd ["self", "columns", "rows"] (spTI C) := by
  refine F.ok scTI (fun vs H Q E h => ?_) (fun cdv A outer s H vs Q E hr h => ?_)
  · obtain ⟨a, dx, cv, R, rs, rfl, _⟩ := h
    rfl
  · obtain ⟨a, dx, cv, R, rs, rfl, ha, hR, hrs, o, k⟩ := h
    refine ⟨_, pss_cons (ps_fld (pv 0) (pv 1) (by rfl)) (pss_one (ps_fld (pv 0) (pe_callTy call_tuple_of (by rfl) T.tuple boot_tuple (pa_cons (pv 2) pa_nil)) (by rfl))), ?_⟩
    refine ⟨_, rfl, _, rfl, a, C, dx, _, rfl, ha, G.cls, G.a1, by decide, ?_⟩
    have nR : R ≠ a := by rcases hR with e | e <;> exact ne_of e ha nofun
    have b1 : SameB a H (L2.upd H a (.ins C dx (putF "shape" (.ref cv) []))) := SameB.upd
    have e1 : L2.upd H a (.ins C dx (putF "shape" (.ref cv) [])) a = some (.ins C dx [("shape", .ref cv)]) := upd_same
    have st1 : SameT H (L2.upd H a (.ins C dx (putF "shape" (.ref cv) []))) := SameT.at ha (fun xs => nofun) b1
    dsimp only
    generalize L2.upd H a (.ins C dx (putF "shape" (.ref cv) [])) = H1 at b1 e1 st1 ⊢
    have fin : ∀ (bv : Addr) (H2 : Hp), SameB a H H2 → H2 a = some (.ins C dx [("shape", .ref cv)]) → H2 bv = some (.tup (rs.map (·.1))) → RowsAt H2 rs → ∃ a' C' dx' fs, V.ref a = V.ref a' ∧ H2 a' = some (.ins C' dx' fs) ∧ Cls K C' ∧ NoAttr K C' "body" ∧ fs.length < 1000 ∧ Q .non (L2.upd H2 a' (.ins C' dx' (putF "body" (.ref bv) fs))) := fun bv H2 b2 e2 e3 r2 => by
      refine ⟨a, C, dx, _, rfl, e2, G.cls, G.a2, by show 1 < 1000; decide, ?_⟩
      have b3 : SameB a H2 (L2.upd H2 a (.ins C dx (fsT cv bv))) := SameB.upd
      have st3 : SameT H2 (L2.upd H2 a (.ins C dx (fsT cv bv))) := SameT.at e2 (fun xs => nofun) b3
      exact k _ (b2.trans b3) ⟨dx, bv, upd_same, st3 _ _ e3, r2.t st3 o⟩
    rcases hR with hR | hR
    · refine ⟨_, rfl, R, _, rfl, .inl ⟨SqL.of (b1 _ _ nR hR), fun l hl => ⟨_, rfl, ?_⟩⟩⟩
      have zl := Same.upd (o := .tup (rs.map (·.1))) hl
      exact fin l _ (b1.trans (Same.b a zl)) (zl _ _ e1) upd_same ((hrs.t st1 o).same zl)
    · exact ⟨_, rfl, R, _, rfl, .inr ⟨SqT.of (b1 _ _ nR hR), ⟨_, rfl, fin R _ b1 e1 (b1 _ _ nR hR) (hrs.t st1 o)⟩⟩⟩
theorem scTC : FnScope ["self"] ["self"] (defScope sTC) := ⟨rfl, rfl, rfl, by decide +kernel, rfl, by decide +kernel, by decide +kernel⟩
theorem ok_tc (F : Fun K "columns" "Table.columns" sTC f fd) (G : TbF K mg C fI) : FnOk P w K mg base CX0 1 f fd ["self"] (spTC C) := by
  refine F.ok scTC (fun vs H Q E h => ?_) (fun cdv A outer s H vs Q E hr h => ?_)
  · obtain ⟨a, cv, rs, rfl, _⟩ := h
    rfl
  · obtain ⟨a, cv, rs, rfl, ⟨dx, bv, h1, h2, h3⟩, k⟩ := h
    exact ⟨_, pss_one (ps_ret (pe_fld (pv 0) (by rfl))), ⟨_, rfl, a, C, dx, _, _, rfl, h1, G.cls, G.a1, rfl, k⟩⟩
theorem scTR : FnScope ["self"] ["self"] (defScope sTR) := ⟨rfl, rfl, rfl, by decide +kernel, rfl, by decide +kernel, by decide +kernel⟩
theorem ok_tr (F : Fun K "rows" "Table.rows" sTR f fd) (T : Bt mg) (G : TbF K mg C fI) : FnOk P w K mg base CX0 1 f fd ["self"] (spTR C) := by
  refine F.ok scTR (fun vs H Q E h => ?_) (fun cdv A outer s H vs Q E hr h => ?_)
  · obtain ⟨a, cv, rs, rfl, _⟩ := h
    rfl
  · obtain ⟨a, cv, rs, rfl, ⟨dx, bv, h1, h2, h3⟩, k⟩ := h
    exact ⟨_, pss_one (ps_ret (pe_callTy call_list_of (by rfl) T.list boot_list (pa_cons (pe_fld (pv 0) (by rfl)) pa_nil))), ⟨_, rfl, a, C, dx, _, _, rfl, h1, G.cls, G.a2, rfl, bv, _, rfl, .inr (SqT.of h2), fun l hl => k l hl⟩⟩
end
end K20
set_option Elab.async false
set_option linter.all false
set_option maxRecDepth 100000
set_option maxHeartbeats 4000000
namespace K20
open PySem PySem.Spec PyProof.Rows L2 Lc
/-! ## the union of lineages -/
inductive LinsAt (H : Hp) : List V → List Lin → Prop
  | nil : LinsAt H [] []
  | cons {v : V} {vs : List V} {l : Lin} {ls : List Lin} (h : Dh H v (linD l)) (r : LinsAt H vs ls) : LinsAt H (v :: vs) (l :: ls)
theorem LinsAt.same {H H' : Hp} (s : Same H H') : ∀ {vs : List V} {ls : List Lin}, LinsAt H vs ls → LinsAt H' vs ls
  | _, _, .nil => .nil
  | _, _, .cons h r => .cons (h.same s) (r.same s)
theorem LinsAt.len {H : Hp} : ∀ {vs : List V} {ls : List Lin}, LinsAt H vs ls → vs.length = ls.length
  | _, _, .nil => rfl
  | _, _, .cons h r => by rw [List.length_cons, List.length_cons, r.len]
theorem LinsAt.get {H : Hp} : ∀ {vs : List V} {ls : List Lin}, LinsAt H vs ls → ∀ {i : Nat} {v : V}, vs[i]? = some v → ∃ l, ls[i]? = some l ∧ Dh H v (linD l)
  | _, _, .nil, i, v, e => by simp at e
  | _, _, .cons h r, 0, v, e => by cases e; exact ⟨_, rfl, h⟩
  | _, _, .cons h r, i + 1, v, e => by
    obtain ⟨l, e1, e2⟩ := r.get (i := i) (by simpa using e)
    exact ⟨l, by simpa using e1, e2⟩
theorem LinsAt.snoc {H : Hp} {v : V} {l : Lin} : ∀ {vs : List V} {ls : List Lin}, LinsAt H vs ls → Dh H v (linD l) → LinsAt H (vs ++ [v]) (ls ++ [l])
  | _, _, .nil, g => .cons g .nil
  | _, _, .cons h r, g => .cons h (r.snoc g)
theorem LinsAt.t {H H' : Hp} (s : SameT H H') : ∀ {vs : List V} {ls : List Lin}, LinsAt H vs ls → LinsAt H' vs ls
  | _, _, .nil => .nil
  | _, _, .cons h r => .cons (h.t s (lin_noL _)) (r.t s)
theorem unL_ok {ls : List Lin} (h : ∀ l ∈ ls, LinOk l) : LinOk (unL ls) :=
  ⟨unL_nd fun l hl => (h l hl).1, fun p hp => by
    obtain ⟨l, hl, h1⟩ := unL_mem.mp hp
    exact (h l hl).2 p h1⟩
def spUn : Sp := fun vs H Q _ => ∃ (a : Addr) (xs : List V) (ls : List Lin), vs = [.ref a] ∧ H a = some (.lst xs) ∧ LinsAt H xs ls ∧ (∀ l ∈ ls, LinOk l) ∧ ∀ (v : V) (H' : Hp), Same H H' → Dh H' v (linD (unL ls)) → Q v H'
/-- the members of the set so far -/
def MemAt (H : Hp) (L : List (Addr × List Key)) (ok : Str × Int → Prop) : Prop := (∀ z ∈ L, ∃ p, z.2 = plK p ∧ ok p ∧ H z.1 = some (.tup (z.2.map kV))) ∧ (L.map (·.2)).Nodup ∧ ∀ p, ok p → plK p ∈ L.map (·.2)
theorem lin_plL (l : Lin) : linD l = .tuple (l.map plD) := rfl
theorem mem_lin {H : Hp} {L : List (Addr × List Key)} {ok : Str × Int → Prop} (h : MemAt H L ok) : ∃ m : Lin, L.map (·.2) = m.map plK ∧ (L.map fun z => tkD z.2) = m.map plD ∧ m.Nodup ∧ ∀ p, p ∈ m ↔ ok p := by
  obtain ⟨h1, h2, h3⟩ := h
  have ex : ∀ {L : List (Addr × List Key)}, (∀ z ∈ L, ∃ p, z.2 = plK p ∧ ok p ∧ H z.1 = some (.tup (z.2.map kV))) → ∃ m : Lin, L.map (·.2) = m.map plK ∧ (L.map fun z => tkD z.2) = m.map plD ∧ ∀ p ∈ m, ok p := by
    intro L
    induction L with
    | nil => exact fun _ => ⟨[], rfl, rfl, nofun⟩
    | cons z L ih =>
      intro h
      obtain ⟨p, e1, e2, _⟩ := h z List.mem_cons_self
      obtain ⟨m, e3, e4, e5⟩ := ih fun y hy => h y (List.mem_cons_of_mem _ hy)
      refine ⟨p :: m, by rw [List.map_cons, List.map_cons, e1, e3], by rw [List.map_cons, List.map_cons, e1, e4]; rfl, fun q hq => ?_⟩
      rcases List.mem_cons.mp hq with rfl | hq
      · exact e2
      · exact e5 q hq
  obtain ⟨m, e1, e2, e3⟩ := ex h1
  rw [e1] at h2 h3
  refine ⟨m, e1, e2, ?_, fun p => ⟨e3 p, fun hp => ?_⟩⟩
  · exact List.Pairwise.of_map (S := fun a b => a ≠ b) (R := fun a b => a ≠ b) plK (fun a b n e => n (by rw [e])) h2
  · obtain ⟨q, hq, e⟩ := List.mem_map.mp (h3 p hp)
    rw [← plK_inj e]
    exact hq
theorem MemAt.congr {H : Hp} {L : List (Addr × List Key)} {ok ok' : Str × Int → Prop} (h : MemAt H L ok) (e : ∀ p, ok p ↔ ok' p) : MemAt H L ok' :=
  ⟨fun z hz => let ⟨p, h1, h2, h3⟩ := h.1 z hz; ⟨p, h1, (e p).mp h2, h3⟩, h.2.1, fun p hp => h.2.2 p ((e p).mpr hp)⟩
theorem MemAt.put {P : Program} {w : World} {H : Hp} {L L' Lx : List (Addr × List Key)} {ok : Str × Int → Prop} {D b : Addr} {p : Str × Int} (h : MemAt H L ok) (eD : H D = some (MsO P w D L)) (hb : H b = some (.tup [.str p.1, .int p.2])) (c1 : plK p ∈ L.map (·.2) → L' = L) (c2 : plK p ∉ L.map (·.2) → L'.Perm ((b, plK p) :: L)) :
    MemAt (upd H D (MsO P w D Lx)) L' fun q => ok q ∨ q = p := by
  obtain ⟨h1, h2, h3⟩ := h
  have st : ∀ {c : Addr} {xs : List V}, H c = some (.tup xs) → upd H D (MsO P w D Lx) c = some (.tup xs) := fun e => by rw [upd_ne (ne_of e eD nofun)]; exact e
  by_cases z : plK p ∈ L.map (·.2)
  · rw [c1 z]
    refine ⟨fun y hy => let ⟨q, e1, e2, e3⟩ := h1 y hy; ⟨q, e1, .inl e2, st e3⟩, h2, fun q hq => ?_⟩
    rcases hq with hq | rfl
    · exact h3 q hq
    · exact z
  · have pm := c2 z
    refine ⟨fun y hy => ?_, (pm.map (·.2)).nodup_iff.mpr (List.nodup_cons.mpr ⟨z, h2⟩), fun q hq => (pm.map (·.2)).mem_iff.mpr ?_⟩
    · rcases List.mem_cons.mp (pm.mem_iff.mp hy) with rfl | hy
      · exact ⟨p, rfl, .inr rfl, st hb⟩
      · obtain ⟨q, e1, e2, e3⟩ := h1 y hy
        exact ⟨q, e1, .inl e2, st e3⟩
    · rcases hq with hq | rfl
      · exact List.mem_cons_of_mem _ (h3 q hq)
      · exact List.mem_cons_self
theorem fun_un (ls : List Lin) (i : Nat) (l : Lin) (e : ls[i]? = some l) (p : Str × Int) : (∃ m ∈ ls.take (i + 1), p ∈ m) ↔ (∃ m ∈ ls.take i, p ∈ m) ∨ p ∈ l := by
  rw [List.take_add_one, e]
  constructor
  · rintro ⟨m, h1, h2⟩
    rcases List.mem_append.mp h1 with h1 | h1
    · exact .inl ⟨m, h1, h2⟩
    · rw [Option.toList_some, List.mem_singleton] at h1
      rw [← h1]
      exact .inr h2
  · rintro (⟨m, h1, h2⟩ | h)
    · exact ⟨m, List.mem_append_left _ h1, h2⟩
    · exact ⟨l, List.mem_append_right _ (by simp), h⟩
section
variable {P : Program} {w : World} {K : PySem.W.Frag} {mg : Str → Option Value} {base : Heap} {f : Addr} {fd : FuncData}
abbrev sUn : Stmt := top 56
abbrev nUn : List Str := ["lineages", "lineage", "place"]
abbrev pUn : List Str := ["lineages"]
theorem scUn : FnScope nUn pUn (defScope sUn) := ⟨rfl, rfl, rfl, by decide +kernel, rfl, by decide +kernel, by decide +kernel⟩
section
theorem ok_Un (F : Fun K "union_of" "union_of" sUn f fd) (T : Bt mg) (mS : mg "sorted" = none) : FnOk P w K mg base CX0 1 f fd pUn (spUn) := by
  refine F.ok scUn (fun vs H Q E h => ?_) (fun cdv A outer s H vs Q E hr h => ?_)
  · obtain ⟨a, xs, ls, rfl, _⟩ := h
    rfl
  · obtain ⟨a, xs, ls, rfl, ha, hl, ok, k⟩ := h
    refine ⟨_, (pss_one (ps_ret (pe_callTy call_tuple_of (by rfl) T.tuple boot_tuple (pa_cons (pe_callB (cr_sortM (by rfl) hr.units) (by rfl) mS (by decide +kernel) (pa_cons (pe_st (own := [("lineage", 1), ("place", 2)]) (vs1 := [2]) (wi := iList K (tVar 0)) (g := (gName 1)) (tt := tYes) (wi1 := iTup K (tVar 1)) (g1 := (gName 2)) (tt1 := tYes) (te := tVar 2) hr.units (by rfl) scUn.nd (pi_list (pv 0)) (blkOk_by (own := [("lineage", 1), ("place", 2)]) (N := nUn) (sc := defScope sUn) (by decide +kernel)) (by decide) (fun _ _ _ _ _ => (pg_name (i := 1) scUn.nd rfl (.inl rfl))) (fun _ _ _ _ _ => pts_nil) (fun _ _ _ _ _ => (pi_tup (pv 1))) (fun _ _ _ _ _ => (pg_name (i := 2) scUn.nd rfl (.inl rfl))) (fun _ _ _ _ _ => pts_nil) (fun _ _ _ _ _ => (pv 2))) pa_nil)) pa_nil)))), ?_⟩
    have hlen := hl.len
    refine ⟨_, rfl, a, rfl, ⟨_, SqL.of ha⟩, fun D hD => st_out (K := K) (a := a) (xs := xs) (fun i H' => (∃ L, H' D = some (MsO P w D L) ∧ MemAt H' L fun p => ∃ m ∈ ls.take i, p ∈ m) ∧ Same H H') ⟨⟨[], upd_same, nofun, List.nodup_nil, fun p ⟨m, h1, _⟩ => by simp at h1⟩, Same.upd hD⟩ (fun i H' _ pr => SqL.of (pr.2 _ _ ha)) ?_ ?_⟩
    · rintro i x H1 hx ⟨⟨L, eD, mL⟩, s1⟩
      obtain ⟨l, el, dl⟩ := hl.get hx
      have lo := ok l (List.mem_of_getElem? el)
      cases dl with
      | @tup b us _ eb hs =>
      refine ⟨rfl, tyesT ?_⟩
      refine ⟨_, rfl, b, rfl, ⟨_, SqT.of (s1 _ _ eb)⟩, st_in (K := K) (a := b) (xs := us) (fun j H' => (∃ L, H' D = some (MsO P w D L) ∧ MemAt H' L fun p => (∃ m ∈ ls.take i, p ∈ m) ∨ p ∈ l.take j) ∧ Same H H') ⟨⟨L, eD, mL.congr fun p => by simp⟩, s1⟩ (fun j H' _ pr => SqT.of (pr.2 _ _ eb)) ?_ ?_⟩
      · rintro j y H2 hy ⟨⟨L2, eD2, mL2⟩, s2⟩
        obtain ⟨p, c, ep, rfl, ec⟩ := lin_get hs hy
        obtain ⟨m, e1, _, nd, hm⟩ := mem_lin mL2
        have hp := lo.2 p (List.mem_of_getElem? ep)
        have l48 : L2.length ≤ 48 := by
          have e2 := congrArg List.length e1
          rw [List.length_map, List.length_map] at e2
          rw [e2, ← linU_len]
          refine nd.length_le_of_subset fun q hq => ?_
          rcases (hm q).mp hq with ⟨n, h1, h2⟩ | h1
          · exact ((ok n (List.mem_of_mem_take h1)).2 q h2).2.2.2
          · exact (lo.2 q (List.mem_of_mem_take h1)).2.2.2
        refine ⟨rfl, ?_⟩
        dsimp only [tYes]
        refine iteT ⟨_, rfl, c, plK p, L2, rfl, SqT.of (s2 _ _ ec), eD2, fun z hz => ?_, by omega, fun L3 c1 c2 => ⟨⟨L3, upd_same, (mL2.put eD2 (s2 _ _ ec) c1 c2).congr fun q => ?_⟩, fun b' o e => by rw [upd_ne (ne_of_none e hD)]; exact s2 b' o e⟩⟩
        · obtain ⟨_, _, _, h3⟩ := mL2.1 z hz
          exact SqT.of h3
        · rw [List.take_add_one, ep, Option.toList_some, List.mem_append, List.mem_singleton, or_assoc]
      · rintro H2 ⟨⟨L2, eD2, mL2⟩, s2⟩
        have lu := hs.len
        rw [List.length_map] at lu
        rw [lu, List.take_length] at mL2
        exact ⟨⟨L2, eD2, mL2.congr fun p => (fun_un ls i l el p).symm⟩, s2⟩
    rintro H1 ⟨⟨L, eD, mL⟩, s1⟩
    rw [hlen, List.take_length] at mL
    obtain ⟨m, e1, e2, nd, hm⟩ := mem_lin mL
    refine ⟨D, L, rfl, eD, fun z hz => ?_, ?_, fun z hz e => ?_, fun L2 ys p p2 py dy hp => ?_⟩
    · obtain ⟨_, _, _, h3⟩ := mL.1 z hz
      exact h3
    · rw [e2]
      exact fun d hd d' hd' => by
        obtain ⟨x, _, rfl⟩ := List.mem_map.mp hd
        obtain ⟨y, _, rfl⟩ := List.mem_map.mp hd'
        rfl
    · obtain ⟨q, h1, _⟩ := mL.1 z hz
      rw [h1] at e
      cases e
    have e3 : (L2.map fun z => tkD z.2).Perm (m.map plD) := by rw [← e2]; exact p2.map _
    obtain ⟨m2, pm, em⟩ := map_perm_lift plD e3
    rw [em, srtL_map, srtL_perm pm, unL_any (fun l hl => (ok l hl).1) nd hm] at dy
    have zp := Same.upd (o := .lst ys) hp
    refine ⟨p, ys, rfl, .inl ⟨SqL.of upd_same, fun r hr' => ?_⟩⟩
    have zr := Same.upd (o := .tup ys) hr'
    exact k _ _ (s1.trans (zp.trans zr)) (.tup upd_same (DhAll.same (zp.trans zr) dy))
end
end
end K20
set_option Elab.async false
set_option linter.all false
set_option maxRecDepth 100000
set_option maxHeartbeats 4000000
namespace Lc
open PySem PySem.Spec PyProof.Rows L2
/-! ## sets of texts: made of a list, sorted -/
def keyX (e : Int × Value) : Str := match e.2 with | .str k _ => k | _ => Str.empty
def GoodX (w : World) (e : Int × Value) : Prop := ∃ k tk, e.2 = Value.str k tk ∧ e.1 = hashStr w k
/-- the set of the texts ks at a -/
def SetX (w : World) (h : Heap) (a : Addr) (ks : List Str) : Prop :=
  ∃ o es ep t, h.get? a = some o ∧ o.ExactSet ∧ o.data = .set es ep t ∧ (∀ e ∈ es.toList, GoodX w e) ∧ (es.toList.map keyX).Nodup ∧ (∀ k, k ∈ ks ↔ k ∈ es.toList.map keyX) ∧
    es.size < scanBound ∧ es.size ≤ ks.length ∧ t.fits es.size = true ∧ Ris t.place.toList ∧ (w.params.followText "set-order" = true ∨ t.led = true)
section
variable {P : Program} {w : World} {h h' : Heap} {a : Addr} {ks : List Str}
theorem SetX.at (R : SetX w h a ks) (k : ∀ o, h.get? a = some o → h'.get? a = some o) : SetX w h' a ks := by
  obtain ⟨o, es, ep, t, ho, r⟩ := R
  exact ⟨o, es, ep, t, k o ho, r⟩
theorem goodX_elems {l : List (Int × Value)} (g : ∀ e ∈ l, GoodX w e) : ElemsOf (strKind P w) l := fun e he => by
  obtain ⟨k, tk, h1, h2⟩ := g e he
  exact ⟨⟨k, by rw [h1]; exact strKind_is _ _ _ _, h2⟩, by rw [h1] <;> rfl⟩
theorem goodX_is {e : Int × Value} (g : GoodX w e) (k : Str) : (strKind P w).is k e.2 = true ↔ keyX e = k := by
  obtain ⟨k0, tk, h1, _⟩ := g
  unfold keyX
  rw [h1]
  constructor
  · intro q
    exact (strKind P w).inj (.str k0 tk) k0 k (strKind_is _ _ _ _) q
  · intro q
    rw [← q]
    exact strKind_is _ _ _ _
theorem goodX_mem {l : List (Int × Value)} (g : ∀ e ∈ l, GoodX w e) (k : Str) : k ∈ l.map keyX ↔ ∃ e ∈ l, (strKind P w).is k e.2 = true := by
  rw [List.mem_map]
  constructor
  · rintro ⟨e, he, q⟩
    exact ⟨e, he, (goodX_is (g e he) k).2 q⟩
  · rintro ⟨e, he, q⟩
    exact ⟨e, he, (goodX_is (g e he) k).1 q⟩
end
section
variable {P : Program} {w : World} {A : Around} {E : Value → Shared → Prop} {s : Shared} {a : Addr} {ks : List Str}
theorem setX_tail {g : Bool → Sem Unit} (hg : ∀ (b : Bool) (s₁ : Shared) (Q' : Unit → Shared → Prop), Q' () s₁ → wpAny (model P w) A (g b) Q' E s₁)
    {o : Obj} {es : Array (Int × Value)} {ep : Nat} {t : SetTable} (ho : s.heap.get? a = some o) (hex : o.ExactSet) (hd : o.data = .set es ep t)
    {es1 : Array (Int × Value)} {t2 : SetTable} {ks' : List Str} (g1 : ∀ e ∈ es1.toList, GoodX w e) (nd1 : (es1.toList.map keyX).Nodup) (m1 : ∀ k, k ∈ ks' ↔ k ∈ es1.toList.map keyX)
    (hb1 : es1.size < scanBound) (hl1 : es1.size ≤ ks'.length) (hf2 : t2.fits es1.size = true) (hr : Ris t2.place.toList) (hl : w.params.followText "set-order" = true ∨ t2.led = true) {wasDummy : Bool} {R : Option Bool → Shared → Prop}
    (hR : ∀ h', Heap.SameBut a s.heap h' → SetX w h' a ks' → R (some true) { s with heap := h' }) :
    wpAny (model P w) A (do
        storeSet a es1 t2
        if (!wasDummy && t2.tooFull) = true then do
            g (relayAll t2 es1 (SetTable.grown es1.size)).2.2
            storeSet a (relayAll t2 es1 (SetTable.grown es1.size)).1 (relayAll t2 es1 (SetTable.grown es1.size)).2.1
            pure (some true)
          else pure (some true)) R E s := by
  refine wpAny_bind (wpAny_storeSet_of ho hd ?_ (fits_of_scanBound hb1))
  have ho1 := store_at (es' := es1) (t' := t2) ho hd
  have sb1 := Heap.SameBut.update s.heap a (Obj.putSet es1 t2)
  split
  · have pm := relayAll_perm t2 es1 (SetTable.grown es1.size)
    have hf3 := relayAll_fits t2 es1 (SetTable.grown es1.size)
    have hr3 := relayAll_ris t2 es1 (SetTable.grown es1.size)
    have hl3 := relayAll_led t2 es1 (SetTable.grown es1.size)
    generalize relayAll t2 es1 (SetTable.grown es1.size) = Z at pm hf3 hr3 hl3 ⊢
    obtain ⟨es2, t3, gave⟩ := Z
    dsimp only at pm hf3 hr3 hl3 ⊢
    have hsz : es2.size = es1.size := by rw [← Array.length_toList, pm.length_eq, Array.length_toList]
    refine wpAny_bind (hg _ _ _ ?_)
    refine wpAny_bind (wpAny_storeSet_of ho1 rfl ?_ (fits_of_scanBound (by rw [hsz]; exact hb1)))
    have ho2 := store_at (es' := es2) (t' := t3) ho1 rfl
    refine wpAny_pure (hR _ (sb1.trans (Heap.SameBut.update _ a _)) ?_)
    exact ⟨_, es2, _, t3, ho2, hex, rfl, fun e he => g1 e (pm.mem_iff.mp he), (pm.map keyX).nodup_iff.mpr nd1, fun k => (m1 k).trans (pm.map keyX).mem_iff.symm, by rw [hsz]; exact hb1, by rw [hsz]; exact hl1, hf3, hr3,
      hl.imp id fun z => by rw [hl3]; exact z⟩
  · exact wpAny_pure (hR _ sb1 ⟨_, es1, _, t2, ho1, hex, rfl, g1, nd1, m1, hb1, hl1, hf2, hr, hl⟩)
theorem setX_add {k : Str} {tk : Tok} {Q : Bool → Shared → Prop} (R : SetX w s.heap a ks) (room : ks.length + 1 < scanBound)
    (hQ : ∀ b h', Heap.SameBut a s.heap h' → SetX w h' a (ks ++ [k]) → Q b { s with heap := h' }) :
    wpAny (model P w) A (setAddHashed a (.str k tk) ((strKind P w).hash k)) Q E s := by
  obtain ⟨o, es, ep, t, ho, hex, hd, g, nd, hm, hb, hlen, hf, hr, hl⟩ := R
  have hkey : (strKind P w).is k (.str k tk) = true := strKind_is _ _ _ _
  have hsc : (Value.str k tk).scannable = true := rfl
  have hel : ElemsOf (strKind P w) es.toList := goodX_elems g
  unfold setAddHashed setAddHashedIn
  refine wpAny_holding (wpAny_bind (wpAny_setState_of ho hd hf ?_))
  dsimp only
  rw [byScan_of hsc hb hel]
  simp only [↓reduceIte]
  unfold setAddByScan
  refine wpAny_bind ?_
  refine wpAny_bind (wpAny_rule ?_)
  refine wpAny_bind (wpAny_setScan_of hkey ho hd hf hel ?_)
  cases hfi : List.findIdx? (fun e => (strKind P w).is k e.2) es.toList with
  | some j =>
    dsimp only
    obtain ⟨hj, pj, _⟩ := List.findIdx?_eq_some_iff_getElem.mp hfi
    have hk : k ∈ es.toList.map keyX := (goodX_mem (P := P) (w := w) g k).2 ⟨es.toList[j], List.getElem_mem hj, pj⟩
    refine wpAny_pure (wpAny_pure ?_)
    exact hQ _ s.heap (Heap.SameBut.refl a s.heap) ⟨o, es, ep, t, ho, hex, hd, g, nd, fun i => by
      rw [List.mem_append, List.mem_singleton, hm i]
      exact ⟨fun z => z.elim id (fun e => e ▸ hk), .inl⟩, hb, by rw [List.length_append]; omega, hf, hr, hl⟩
  | none =>
    dsimp only
    have hnk : k ∉ es.toList.map keyX := fun z => by
      obtain ⟨e, he, q⟩ := (goodX_mem (P := P) (w := w) g k).1 z
      have c := List.findIdx?_eq_none_iff.mp hfi e he
      rw [q] at c
      cases c
    have hgw : ∀ (b : Bool) {s₁ : Shared} {Q' : Unit → Shared → Prop}, Q' () s₁ → wpAny (model P w) A (match b with | true => rule "set.scan.the-table-gave-way" | false => pure ()) Q' E s₁ :=
      fun b s₁ Q' q => by cases b <;> first | exact wpAny_pure q | exact wpAny_rule q
    have pm := layNew_perm t es ((strKind P w).hash k) (.str k tk)
    have hf1 := layNew_fits t es ((strKind P w).hash k) (.str k tk)
    have hr1 := layNew_ris t es ((strKind P w).hash k) (.str k tk) hr
    have hl1 := layNew_led t es ((strKind P w).hash k) (.str k tk)
    generalize layNew t es ((strKind P w).hash k) (.str k tk) = Z at pm hf1 hr1 hl1 ⊢
    obtain ⟨es1, t1, wasDummy, gave⟩ := Z
    dsimp only at pm hf1 hr1 hl1 ⊢
    rw [Array.toList_push] at pm
    have pc : es1.toList.Perm (((strKind P w).hash k, Value.str k tk) :: es.toList) := pm.trans (List.perm_append_singleton _ _)
    have pk : (es1.toList.map keyX).Perm (k :: es.toList.map keyX) := pc.map keyX
    have g1 : ∀ e ∈ es1.toList, GoodX w e := fun e he => by
      rcases List.mem_cons.mp (pc.mem_iff.mp he) with z | z
      · rw [z]; exact ⟨k, tk, rfl, rfl⟩
      · exact g e z
    have nd1 : (es1.toList.map keyX).Nodup := pk.nodup_iff.mpr (List.nodup_cons.mpr ⟨hnk, nd⟩)
    have m1 : ∀ i, i ∈ ks ++ [k] ↔ i ∈ es1.toList.map keyX := fun i => by
      rw [List.mem_append, List.mem_singleton, hm i, pk.mem_iff, List.mem_cons]
      exact Or.comm
    have hsz : es1.size = es.size + 1 := by rw [← Array.length_toList, pc.length_eq, List.length_cons, Array.length_toList]
    have hb1 : es1.size < scanBound := by omega
    have hln : es1.size ≤ (ks ++ [k]).length := by rw [List.length_append]; show _ ≤ _ + 1; omega
    have hled : w.params.followText "set-order" = true ∨ t1.led = true := hl.imp id fun z => by rw [hl1]; exact z
    refine wpAny_bind (hgw _ ?_)
    split
    · refine wpAny_bind ?_
      rw [hashByValue_scannable 8 hsc]
      refine wpAny_pure ?_
      refine setX_tail ?_ ho hex hd g1 nd1 m1 hb1 hln ?_ ?_ ?_ ?_
      · intro b s₁ Q' q; cases b <;> first | exact wpAny_pure q | exact wpAny_rule q
      · first | (split <;> first | exact hf1 | exact SetTable.fits_plain_off hf1) | exact hf1
      · first | (split <;> exact hr1) | exact hr1
      · first | (split <;> exact hled) | exact hled
      · intro h' sb r; dsimp only; exact wpAny_pure (hQ _ h' sb r)
    · refine wpAny_bind (wpAny_pure ?_)
      simp only [↓reduceIte]
      refine setX_tail ?_ ho hex hd g1 nd1 m1 hb1 hln hf1 hr1 hled ?_
      · intro b s₁ Q' q; cases b <;> first | exact wpAny_pure q | exact wpAny_rule q
      · intro h' sb r; dsimp only; exact wpAny_pure (hQ _ h' sb r)
theorem setX_fresh {h : Heap} {a : Addr} (ho : h.get? a = some { cls := .type "set", dict := none, data := .set #[] 0 (.fresh 0 0 (!w.params.followText "set-order")) }) : SetX w h a [] :=
  ⟨_, #[], 0, _, ho, ⟨rfl, rfl, rfl⟩, rfl, (fun e he => by simp at he), (by simp), (fun k => by simp), (by decide), Nat.le_refl _, (by rfl), List.Pairwise.nil, by
    show _ ∨ (!w.params.followText "set-order") = true
    cases w.params.followText "set-order"
    · exact .inr rfl
    · exact .inl rfl⟩
end
/-! ### set(xs) -/
section
variable {P : Program} {w : World} {A : Around} {R : Result → Shared → Prop} {I : Addr} {fp wr : List Addr} {G : Array GenState → Array GenState → Prop} {n : Nat} {Pv : Nat → Value → Prop} {St : Nat → Shared → Prop}
theorem setX_loop (W : WalksS P w A.in1 I fp wr G n Pv St) (S : Addr) (hSf : S ∉ fp) (ks : List Str) (hn : n = ks.length) (hfew : ks.length < 1000) (hval : ∀ i v, Pv i v → ∃ x t, ks[i]? = some x ∧ v = .str x t) :
    ∀ (k i : Nat) (s : Shared), n - i = k → i ≤ n → St i s → SetX w s.heap S (ks.take i) →
      (∀ s', Moved (S :: wr) G s s' → SetX w s'.heap S ks → R (.ok (.ret .none)) s') →
      codeAny (model P w) A (.builtin "set.update.loop" ⟨[.ref S, .ref I], []⟩) R s := by
  have hSw : S ∉ wr := fun h => hSf (W.sub _ h)
  have hsub : ∀ b ∈ wr, b ∈ S :: wr := fun b hb => List.mem_cons_of_mem _ hb
  intro k
  induction k with
  | zero =>
    intro i s hk hi hst hS hR
    have hin : i = n := by omega
    subst hin
    refine codeAny_builtin F.entry_set_update_loop ?_
    rw [Around.under_plainId F.plain_set_update_loop _]
    show wpAny _ A.in1 (pyNext (.ref I) >>= _) _ _ s
    refine wpAny_bind (W.done s _ _ hst fun s' hm => ?_)
    show wpAny _ A.in1 (ret Value.none) _ _ s'
    rw [hn, List.take_length] at hS
    exact wpAny_pure (hR s' (hm.mono hsub) (hS.at fun o e => hm.heap S o hSw e))
  | succ k ih =>
    intro i s hk hi hst hS hR
    have hlt : i < n := by omega
    refine codeAny_builtin F.entry_set_update_loop ?_
    rw [Around.under_plainId F.plain_set_update_loop _]
    show wpAny _ A.in1 (pyNext (.ref I) >>= _) _ _ s
    refine wpAny_bind (W.item i s _ _ hlt hst fun v s' hP hst' hm => ?_)
    obtain ⟨x, t, ex, rfl⟩ := hval i v hP
    have hS' : SetX w s'.heap S (ks.take i) := hS.at fun o e => hm.heap S o hSw e
    show wpAny _ A.in1 (holding [Value.str x t] (setAdd S (.str x t)) >>= _) _ _ s'
    refine wpAny_bind (wpAny_holding ?_)
    unfold setAdd
    refine wpAny_holding ?_
    refine wpAny_bind ((strKind P w).pyHash (k := x) (strKind_is _ _ _ _) ?_)
    refine setX_add (s := { s' with toks := s'.toks + 1 }) hS' (by rw [List.length_take]; unfold scanBound; omega) fun b h' hsb hS2 => ?_
    have e2 : ks.take i ++ [x] = ks.take (i + 1) := by rw [List.take_add_one, ex] <;> rfl
    rw [e2] at hS2
    refine wpAny_pure ⟨plainId_quiet F.plain_set_update_loop _, ih (i + 1) _ (by omega) hlt (W.frame _ s' _ _ hst' (Nat.le_succ _) fun b hb o e => ?_) hS2 fun s'' hm'' hS'' => ?_⟩
    · rw [hsb.2 b (fun h : b = S => hSf (by rw [← h]; exact hb))]; exact e
    · refine hR s'' (Moved.trans W.gtrans ((hm.mono hsub).then_heap (Nat.le_succ _) fun b o hb e => ?_) hm'') hS''
      rw [hsb.2 b (fun h : b = S => hb (by rw [h]; exact List.mem_cons_self))]; exact e
end
section
variable {P : Program} {w : World} {A : Around} {E : Value → Shared → Prop} {s : Shared}
theorem call_setX {l : Addr} {items : Array Value} {ks : List Str} {Q : Value → Shared → Prop} (hh : A.handled = none) (hl : s.heap.IsList l items) (hit : StrsAre items.toList ks) (hfew : ks.length < 1000)
    (h : ∀ (h' : Heap) (tk : Nat), SetX w h' s.heap.objs.size ks → (∀ b o, s.heap.get? b = some o → h'.get? b = some o) → Q (.ref s.heap.objs.size) { s with heap := h', toks := tk }) :
    wpAny (model P w) A (call (.type "set") [.ref l]) Q E s := by
  have hisz : items.size = ks.length := by rw [← Array.length_toList]; exact StrsAre.len_eq hit
  obtain ⟨c, tl, hmro⟩ := F.called_set.mro
  have hmade := F.called_set.made
  have hsub := F.called_set.sub
  refine wpAny_call (codeAny_of_tree ?_)
  show wpAny _ _ (callAny (.type "set") _) _ _ _
  refine wpAny_pure ⟨Code.quiet_builtin _ (by decide +kernel), codeAny_builtin F.entry_type_call ?_⟩
  rw [Around.under_plain (weight_type_call_type "set" [.ref l] []) rfl]
  have h1 := F.called_set.notType
  have h2 := F.called_set.canCreate
  have hct := F.typeCall_set_1 (.ref l)
  repeat (any_goals (first | assumption | wp_step))
  refine codeAny_mono (code_set_led1 (.ref l) (E := E) (Q₁ := fun obj s₁ => obj = .ref s.heap.objs.size ∧ s₁ = { s with heap := s.heap.push { cls := .type "set", dict := none, data := .set #[] 0 (.fresh 0 0 (!w.params.followText "set-order")) } }) ⟨rfl, rfl⟩) fun r s₁ hr => ?_
  cases r with
  | error e => exact hr
  | ok fl =>
    cases fl with
    | ret obj =>
      obtain ⟨rfl, rfl⟩ := hr
      have hS : (s.heap.push { cls := .type "set", dict := none, data := .set #[] 0 (.fresh 0 0 (!w.params.followText "set-order")) }).get? s.heap.objs.size = some { cls := .type "set", dict := none, data := .set #[] 0 (.fresh 0 0 (!w.params.followText "set-order")) } := Heap.get?_push_size _ rfl
      have hT : Shared.TypeIs { s with heap := s.heap.push { cls := .type "set", dict := none, data := .set #[] 0 (.fresh 0 0 (!w.params.followText "set-order")) } } (.ref s.heap.objs.size) "set" := ⟨_, hS, rfl⟩
      have hli := F.called_set.init.lookup
      have hbi := F.called_set.init.bind (.ref s.heap.objs.size)
      repeat (any_goals (first | assumption | wp_step))
      refine codeAny_mono (codeAny_call_builtin (R := wants (fun r s₂ => r = .none ∧ ∃ h' tk, s₂ = { s with heap := h', toks := tk } ∧ SetX w h' s.heap.objs.size ks ∧ (∀ b o, s.heap.get? b = some o → h'.get? b = some o)) E) F.called_set.init.plain F.entry_set_init (check_set_init_1 hT ?_)) fun r₂ s₂ hr₂ => ?_
      · obtain ⟨ol, hol, hcl, nl, hdl⟩ := hl
        obtain ⟨ocls, odict, odata, oslots⟩ := ol
        simp only at hcl hdl
        subst hcl; subst hdl
        have hol' : (s.heap.push { cls := .type "set", dict := none, data := .set #[] 0 (.fresh 0 0 (!w.params.followText "set-order")) }).get? l = some { cls := .type "list", dict := odict, data := .seq items nl, slots := oslots } := Heap.get?_push_of_some _ hol
        have hsls := F.sub_list_set
        have hslf := F.sub_list_frozenset
        have hne : (Value.type "list" == Value.type "dict") = false := by decide
        have hl1 : (s.heap.push { cls := .type "set", dict := none, data := .set #[] 0 (.fresh 0 0 (!w.params.followText "set-order")) }).IsList l items := ⟨_, hol', rfl, nl, rfl⟩
        unfold Builtin.«set.__init__» noKeywords Builtin.Frozenset.updateFrom
        generalize hPI : pyIter = PI
        wp_walk
        subst hPI
        refine wpAny_pyIter_list hl1 ?_
        refine wpAny_bind (wpAny_runValue ?_)
        have hlS : l < s.heap.objs.size := Heap.lt_size hol
        have hh3 : A.in1.in1.in1.handled = none := by simp [hh]
        have hneI : l ≠ (s.heap.push { cls := .type "set", dict := none, data := .set #[] 0 (.fresh 0 0 (!w.params.followText "set-order")) }).objs.size := by
          rw [Heap.size_push]; exact Nat.ne_of_lt (Nat.lt_succ_of_lt hlS)
        have hSf : s.heap.objs.size ∉ [(s.heap.push { cls := .type "set", dict := none, data := .set #[] 0 (.fresh 0 0 (!w.params.followText "set-order")) }).objs.size, l] := by
          rw [Heap.size_push]; simp only [List.mem_cons, List.mem_singleton, List.not_mem_nil, or_false, not_or]
          exact ⟨Nat.ne_of_lt (Nat.lt_succ_self _), Nat.ne_of_gt hlS⟩
        have hval : ∀ (i : Nat) (v : Value), items[i]? = some v → ∃ x t, ks[i]? = some x ∧ v = .str x t := fun i v hv => by
          obtain ⟨t, e⟩ := SS.strs_at hit i v (by rw [Array.getElem?_toList]; exact hv)
          have hi : i < ks.length := by rw [← hisz]; exact (Array.getElem?_eq_some_iff.mp hv).1
          refine ⟨_, t, List.getElem?_eq_getElem hi, ?_⟩
          rw [e, List.getD_eq_getElem?_getD, List.getElem?_eq_getElem hi] <;> rfl
        refine setX_loop ((Walks.list hh3 _ l hneI items).toS) s.heap.objs.size hSf ks hisz hfew hval (items.size - 0) 0 _ (by omega) (Nat.zero_le _)
          ⟨⟨_, Heap.get?_push_size _ rfl, rfl, rfl⟩, (hl1.push _)⟩ ?hS0 ?hR
        case hS0 =>
          exact setX_fresh (Heap.get?_push_of_some _ hS)
        case hR =>
          intro s' hm hS'
          obtain ⟨h', g2, d', tk', os'⟩ := s'
          have eg : g2 = s.gens := hm.gens
          have ed : d' = s.drawn := hm.drawn
          have eo : os' = s.os := hm.os
          subst eg; subst ed; subst eo
          show wpAny _ _ _ _ _ _
          refine wpAny_pure ?_
          show wpAny _ _ (ret Value.none) _ _ _
          refine wpAny_pure ⟨rfl, h', tk', rfl, hS', fun b o e => ?_⟩
          have hb := Heap.lt_size e
          have hb1 : b ≠ s.heap.objs.size := Nat.ne_of_lt hb
          have hb2 : b ≠ (s.heap.push { cls := .type "set", dict := none, data := .set #[] 0 (.fresh 0 0 (!w.params.followText "set-order")) }).objs.size := by
            rw [Heap.size_push]; exact Nat.ne_of_lt (Nat.lt_succ_of_lt hb)
          exact hm.heap b o (by simp only [List.mem_cons, List.mem_singleton, List.not_mem_nil, or_false, not_or]; exact ⟨hb1, hb2⟩) (Heap.get?_push_of_some _ (Heap.get?_push_of_some _ e))
      · cases r₂ with
        | error e => exact hr₂
        | ok fl₂ =>
          cases fl₂ with
          | ret r =>
            obtain ⟨rfl, h', tk, rfl, hS', hk'⟩ := hr₂
            repeat (any_goals (first | assumption | wp_step))
            exact h _ _ hS' hk'
          | _ => exact hr₂.elim
    | _ => exact hr.elim
end
end Lc
set_option Elab.async false
set_option linter.all false
set_option maxRecDepth 100000
set_option maxHeartbeats 4000000
namespace Lc
open PySem PySem.Spec PyProof.Rows L2
/-! ## sorted(set(xs)), xs a list of texts -/
def SetXO (w : World) (a : Addr) (ks : List Str) : HO := .ext fun h => SetX w h a ks
theorem setXO_new {P : Program} {w : World} {H : Hp} {h : Heap} {a : Addr} {ks : List Str} (R : SetX w h a ks) : ObjOk P w H h a (SetXO w a ks) := by
  have ⟨o, es, ep, t, ho, r⟩ := R
  refine ⟨R, ⟨o, ho⟩, fun h1 h2 p k => ?_⟩
  exact SetX.at (show SetX w h1 a ks from p) k
theorem strs_vals : ∀ {ks : List Str} {us : List Value}, Vals (ks.map V.str) us → StrsAre us ks
  | [], _, .nil => .nil
  | k :: ks, _, .cons r t => by
    obtain ⟨tk, rfl⟩ := r
    exact .cons _ _ (strs_vals t)
section
variable {P : Program} {w : World} {A : Around} {E : Value → Shared → Prop} {s : Shared} {a : Addr} {ks : List Str}
theorem strs_key : ∀ (l : List Value), (∀ v ∈ l, ∃ k tk, v = Value.str k tk) → StrsAre l (l.map fun v => keyX (0, v))
  | [], _ => .nil
  | v :: l, h => by
    obtain ⟨k, tk, rfl⟩ := h v List.mem_cons_self
    exact .cons k tk (strs_key l fun u hu => h u (List.mem_cons_of_mem _ hu))
theorem sorted_setX {Q : Value → Shared → Prop} (R : SetX w s.heap a ks) (hh : A.handled = none) (h64 : ks.length < 64)
    (hQ : ∀ s' p (out : Array Value) (c : Nat) (ys : List Str), (∀ b o, s.heap.get? b = some o → s'.heap.get? b = some o) → s'.gens = s.gens → s'.os = s.os → s.heap.objs.size ≤ p →
      s'.heap.get? p = some (seqObj "list" out c) → StrsAre out.toList ys → sortedS ys = true → ys.Nodup → (∀ k, k ∈ ys ↔ k ∈ ks) → ys.length < 64 → Q (.ref p) s') :
    wpAny (model P w) A (call (.builtin "sorted") [.ref a]) Q E s := by
  obtain ⟨o, es, ep, t, ho, hex, hd, g, nd, hm, hb, hlen, hf, hr, hl⟩ := R
  refine Calls.call_function_entry kind_sorted plain_sorted entry_sorted (args_sorted1 _) ?_
  unfold Builtin.«sorted»
  refine wpAny_bind (m := checkCount "sorted" 1 1 _) (wpAny_pure ?_)
  refine wpAny_bind (collect_set (A := A.in1) hh ⟨o, ho, hex.1, hd⟩ hf hb hr hl fun s1 vs k1 hz g1 o1 pm => ?_)
  have hvl : vs.length = es.size := by rw [pm.length_eq, List.length_map, Array.length_toList]
  have hI : StrsAre vs (vs.map fun v => keyX (0, v)) := strs_key vs fun v hv => by
    obtain ⟨e, he, q⟩ := List.mem_map.mp (pm.mem_iff.mp hv)
    obtain ⟨k, tk, h1, _⟩ := g e he
    exact ⟨k, tk, by rw [← q]; exact h1⟩
  have pk : (vs.map fun v => keyX (0, v)).Perm (es.toList.map keyX) := by
    have q := pm.map fun v => keyX (0, v)
    rw [List.map_map] at q
    exact q
  refine wpAny_bind (wpAny_newList ?_ (by rw [hvl, sizeLine_eq]; omega))
  have hoL : (s1.heap.push (seqObj "list" vs.toArray 0)).get? s1.heap.objs.size = some (seqObj "list" vs.toArray 0) := Heap.get?_push_size _ rfl
  refine wpAny_bind (wpAny_holding (wpAny_call_entry slot_list_sort ⟨_, hoL, rfl⟩ entry_list_sort
    (list_sort_treeK strKind_oneLt (s := { s1 with heap := s1.heap.push (seqObj "list" vs.toArray 0) }) hoL hI.keysOf (fun v₁ v₂ rest e => keyKind_strs (by rw [← e]; exact hI)) (by rw [hvl]; omega) fun st' hp hs => ⟨_, rfl, ?_⟩) (args_list_sort _)))
  obtain ⟨ys, q1, q2, q3⟩ := sorted_out_str hI hp hs
  obtain ⟨c, hc⟩ := sortedHeap_at (vs := vs) (out := (arrOf st').map (·.2)) hoL
  have pn : ys.Perm (es.toList.map keyX) := q2.trans pk
  refine wpAny_pure ⟨_, rfl, hQ _ s1.heap.objs.size ((arrOf st').map (·.2)) c ys (fun b u e => ?_) g1 o1 hz hc q1 q3 (pn.nodup_iff.mpr nd) (fun k => by rw [pn.mem_iff, ← hm k]) ?_⟩
  · have q := k1 b u e
    have hlt := Heap.lt_size q
    rw [sortedHeap_old (Nat.ne_of_lt hlt) (by rw [size_push']; exact Nat.lt_succ_of_lt hlt)]
    exact Heap.get?_push_of_some _ q
  · rw [pn.length_eq, List.length_map, Array.length_toList]; omega
end
section
variable {X : Cx}
def rSetX (K : PySem.W.Frag) (w : World) : List V → Hp → VK → Prop := fun xs H Q => ∃ (l : Addr) (ks : List Str), xs = [V.ref l] ∧ SqL K H l (ks.map V.str) ∧ ks.length < 1000 ∧ ∀ a, H a = none → Q (.ref a) (upd H a (SetXO w a ks))
theorem cr_setX (hc : X.calm = true) : CallR X (.type "set") (rSetX X.K X.w) := by
  intro pins s σ H xs us Q I r h
  obtain ⟨l, ks, rfl, hl, hf, q⟩ := h
  rw [Vals.ref1 r]
  obtain ⟨its, rv, pl, hz⟩ := I.list hl
  have hn : H s.heap.objs.size = none := I.hok.fresh (Nat.le_refl _)
  refine call_setX (P := X.prog) (w := X.w) (I.ok.hd hc) pl.isList (by simpa using strs_vals rv) hf fun h' tk R k => ?_
  exact ⟨.ref s.heap.objs.size, upd H s.heap.objs.size (SetXO X.w s.heap.objs.size ks), I.laid (t' := tk) k (Nat.le_refl _) (setXO_new R), rfl, q _ hn⟩
def rSortX (w : World) : List V → Hp → VK → Prop := fun vs H Q => ∃ (a : Addr) (ks : List Str), vs = [V.ref a] ∧ H a = some (SetXO w a ks) ∧ ks.length < 64 ∧
  ∀ (ys : List Str) (p : Addr), sortedS ys = true → ys.Nodup → (∀ k, k ∈ ys ↔ k ∈ ks) → H p = none → Q (.ref p) (upd H p (.lst (ys.map V.str)))
theorem cr_sortX (hc : X.calm = true) : CallR X (.builtin "sorted") (rSortX X.w) := by
  intro pins s σ H vs us Q I r h
  obtain ⟨a, ks, rfl, ha, h64, q⟩ := h
  have R0 : SetX X.w s.heap a ks := (I.hok a _ ha).1
  rw [Vals.ref1 r]
  refine sorted_setX R0 (I.ok.hd hc) h64 fun s' p out c ys k g o hp hg hout so nd mem few => ?_
  have hlen : (ys.map V.str).length ≤ sizeLine := by rw [List.length_map, sizeLine_eq]; omega
  have hn : H p = none := I.hok.fresh hp
  have J : Inv X pins σ (upd H p (.lst (ys.map V.str))) { s with heap := s'.heap, gens := s'.gens, drawn := s'.drawn, toks := s'.toks } :=
    I.call (ch := []) (Un.laid k hp hn) (I.hok.laid k hp ⟨hlen, out.toList, c, vals_of_strs hout, hg⟩) (by rw [g]; exact I.bare) (fun _ z => nomatch z)
  have e : s' = { s with heap := s'.heap, gens := s'.gens, drawn := s'.drawn, toks := s'.toks } := by
    cases s'
    cases s
    cases o
    rfl
  rw [e]
  exact ⟨.ref p, _, J, rfl, q ys p so nd mem hn⟩
end
end Lc
set_option Elab.async false
set_option linter.all false
set_option maxRecDepth 100000
set_option maxHeartbeats 4000000
namespace Lc
open PySem PySem.Spec PyProof.Rows L2
/-! ## len(set(xs)), xs a list of texts: as many as there are different ones -/
theorem nodup_of_len {α : Type} [DecidableEq α] : ∀ {ks l : List α}, l.Nodup → (∀ k ∈ l, k ∈ ks) → l.length = ks.length → ks.Nodup
  | [], _, _, _, _ => List.nodup_nil
  | x :: r, l, n, s, e => by
    have xr : x ∉ r := fun hx => by
      have := List.Nodup.length_le_of_subset n (l₂ := r) fun k hk => by
        rcases List.mem_cons.mp (s k hk) with q | q
        · rw [q]; exact hx
        · exact q
      rw [List.length_cons] at e
      omega
    have xl : x ∈ l := Classical.byContradiction fun hx => by
      have := List.Nodup.length_le_of_subset n (l₂ := r) fun k hk => by
        rcases List.mem_cons.mp (s k hk) with q | q
        · rw [q] at hk; exact absurd hk hx
        · exact q
      rw [List.length_cons] at e
      omega
    refine List.nodup_cons.mpr ⟨xr, nodup_of_len (l := l.erase x) (n.erase x) (fun k hk => ?_) ?_⟩
    · have hk2 := (List.Nodup.mem_erase_iff n).mp hk
      rcases List.mem_cons.mp (s k hk2.2) with q | q
      · exact absurd q hk2.1
      · exact q
    · rw [List.length_erase_of_mem xl, e, List.length_cons]
      rfl
def rLenX (w : World) : List V → Hp → VK → Prop := fun xs H Q => ∃ (S : Addr) (ks : List Str), xs = [.ref S] ∧ H S = some (SetXO w S ks) ∧ ∀ n : Nat, n ≤ ks.length → (n = ks.length ↔ ks.Nodup) → Q (.int n) H
theorem call_lenX {X : Cx} : CallR X (.builtin "len") (rLenX X.w) := by
  intro pins s σ H xs us Q I r h
  obtain ⟨S, ks, rfl, hS, q⟩ := h
  obtain ⟨u, rfl, ru⟩ := vals1 r
  obtain rfl : u = Value.ref S := ru
  obtain ⟨R, _⟩ := (show ObjOk X.prog X.w H s.heap S (SetXO X.w S ks) from I.hok S _ hS)
  obtain ⟨o, es, ep, t, ho, hex, hd, g, nd, hm, hb, hlen, hf, hr, hl⟩ := (show SetX X.w s.heap S ks from R)
  have e0 : (es.toList.map keyX).length = es.size := by rw [List.length_map, Array.length_toList]
  refine call_len_set ho hex hd hf (by unfold scanBound at hb; omega) ⟨.int es.size, H, I.tok _, ⟨_, rfl⟩, q es.size hlen ⟨fun e => ?_, fun n => ?_⟩⟩
  · exact nodup_of_len nd (fun k hk => (hm k).mpr hk) (by rw [e0, e])
  · have := List.Nodup.length_le_of_subset n (l₂ := es.toList.map keyX) fun k hk => (hm k).mp hk
    omega
end Lc
set_option Elab.async false
set_option linter.all false
set_option maxRecDepth 100000
set_option maxHeartbeats 4000000
namespace K20
open PySem PySem.Spec PyProof.Rows L2 Lc
/-! ## columns behind a step -/
theorem can_str {n : Nat} {x : Str} (h : Sh n x) : (PyData.str x).canLay0 = true := by
  show x.cps.all (· < 0x110000) = true
  rw [Array.all_eq_true]
  intro i hi
  have := h.ok x.cps[i] (by simp)
  simpa using this
theorem cans_all {ds : List PyData} (h : ∀ d ∈ ds, d.canLay0 = true) : PyData.canLayAll0 ds = true := by
  induction ds with
  | nil => rfl
  | cons d ds ih => simp [PyData.canLayAll0, h d List.mem_cons_self, ih fun x hx => h x (List.mem_cons_of_mem _ hx)]
theorem cols_depth (ps : CsL) : PyData.depthAll (ps.map colP) ≤ 1 ∧ PyData.hasDictAll (ps.map colP) = false := by
  induction ps with
  | nil => exact ⟨Nat.zero_le _, rfl⟩
  | cons p ps ih =>
    refine ⟨?_, ?_⟩
    · simp only [List.map_cons, PyData.depthAll, colP, PyData.depth]
      have := ih.1
      omega
    · rw [List.map_cons, PyData.hasDictAll, ih.2]
      rfl
theorem shp_ps {ps : CsL} (h : ColP ps) : SeqAt.shaped (.tuple (ps.map colP)) = true := by
  obtain ⟨h1, h2⟩ := cols_depth ps
  refine Bool.and_eq_true_iff.mpr ⟨?_, decide_eq_true ?_⟩
  · show PyData.canLayAll0 (ps.map colP) = true
    refine cans_all fun d hd => ?_
    obtain ⟨p, hp, rfl⟩ := List.mem_map.mp hd
    obtain ⟨h1, _, h3⟩ := h.ok p hp
    refine cans_all fun d hd => ?_
    simp only [List.mem_cons, List.not_mem_nil, or_false] at hd
    rcases hd with rfl | rfl
    · exact can_str h1
    · exact can_str h3.sh
  · simp only [PyData.depth]
    omega
theorem eqv_cols : ∀ ps qs : CsL, PyData.eqvAll (ps.map colP) (qs.map colP) = decide (ps = qs)
  | [], [] => rfl
  | [], q :: qs => rfl
  | p :: ps, [] => rfl
  | (a, b) :: ps, (c, d) :: qs => by
    rw [List.map_cons, List.map_cons, PyData.eqvAll, eqv_cols ps qs]
    show (PyData.eqv (.tuple [.str a, .str b]) (.tuple [.str c, .str d]) && decide (ps = qs)) = _
    simp only [PyData.eqv, PyData.eqvAll, Bool.and_true]
    by_cases h1 : a = c
    · by_cases h2 : b = d
      · subst h1; subst h2
        simp
      · have : (b == d) = false := beq_eq_false_iff_ne.mpr h2
        rw [this]
        simp [h2]
    · have : (a == c) = false := beq_eq_false_iff_ne.mpr h1
      rw [this]
      simp [h1]
theorem dp_cols {K : PySem.W.Frag} {H : Hp} : ∀ {xs : List V} {ps : CsL}, Cols H xs ps → DpAll K H xs (ps.map colP)
  | _, _, .nil => .nil
  | _, _, .cons e r => .cons (.tup (SqT.of e) (.cons (.str _) (.cons (.str _) .nil))) (dp_cols r)
theorem lt_size {n : Nat} (h : n ≤ 1000) : n < sizeLine := Nat.lt_of_le_of_lt h (by decide)
theorem dhs_strs {H : Hp} : ∀ {ns : List Str} {vs : List V}, DhAll H vs (ns.map PyData.str) → vs = vS ns
  | [], _, .nil => rfl
  | n :: ns, _, .cons h r => by cases h; rw [dhs_strs r]; rfl
theorem dh_strs {H : Hp} {v : V} {ns : List Str} (h : Dh H v (strT ns)) : ∃ a, v = .ref a ∧ H a = some (.tup (vS ns)) := by
  cases h with
  | tup e hs => rw [dhs_strs hs] at e; exact ⟨_, rfl, e⟩
theorem totS3_dh {H : Hp} {v : V} {t : Str × Str × Str} (h : Dh H v (totS3 t)) : ∃ a, v = .ref a ∧ H a = some (.tup (vS [t.1, t.2.1, t.2.2])) := dh_strs (ns := [t.1, t.2.1, t.2.2]) h
theorem nm_turn {H H1 : Hp} {D : Addr} {ps : CsL} {i : Nat} {z kk : Str} (hD : H D = none) (hD1 : H1 D = some (.lst (vS ((nms ps).take i)))) (ep : ps[i]? = some (z, kk)) (l8 : ps.length ≤ 8) (s1 : Same H H1) : ∃ acc, H1 D = some (.lst acc) ∧ acc.length < sizeLine ∧ (upd H1 D (.lst (acc ++ [.str z])) D = some (.lst (vS ((nms ps).take (i + 1)))) ∧ Same H (upd H1 D (.lst (acc ++ [.str z])))) := by
  refine ⟨_, hD1, ?_, ?_, fun b o e => by rw [upd_ne (ne_of_none e hD)]; exact s1 b o e⟩
  · rw [List.length_map, List.length_take, List.length_map]
    exact Nat.lt_of_le_of_lt (show _ ≤ 8 by omega) (by decide)
  · have : (nms ps)[i]? = some z := by rw [List.getElem?_map, ep]; rfl
    rw [upd_same, List.take_add_one, this]
    unfold vS
    rw [List.map_append]
    rfl
theorem col_turn {H H1 H2 : Hp} {D p : Addr} {ys : List V} {qs : CsL} {z k : Str} (hD : H D = none) (e1 : H1 D = some (.lst ys)) (c1 : Cols H1 ys qs) (l : ys.length ≤ 100) (s1 : Same H H1) (s2 : Same H1 H2) (hp : H2 p = none) :
    ∃ acc, upd H2 p (.tup [.str z, .str k]) D = some (.lst acc) ∧ acc.length < sizeLine ∧ ((∃ ys', upd (upd H2 p (.tup [.str z, .str k])) D (.lst (acc ++ [.ref p])) D = some (.lst ys') ∧ Cols (upd (upd H2 p (.tup [.str z, .str k])) D (.lst (acc ++ [.ref p]))) ys' (qs ++ [(z, k)])) ∧ Same H (upd (upd H2 p (.tup [.str z, .str k])) D (.lst (acc ++ [.ref p])))) := by
  have zp := Same.upd (o := .tup [.str z, .str k]) hp
  have e3 := zp _ _ (s2 _ _ e1)
  refine ⟨ys, e3, lt_size (by omega), ⟨ys ++ [.ref p], upd_same, ?_⟩, fun b o e => by rw [upd_ne (ne_of_none e hD)]; exact zp _ _ (s2 _ _ (s1 _ _ e))⟩
  have c3 : Cols (upd H2 p (.tup [.str z, .str k])) ys qs := (c1.t (SameT.of s2)).t (SameT.of zp)
  exact (c3.app (.cons upd_same .nil)).t (SameT.lst e3)
def spWd : Sp := fun vs H Q _ => ∃ (p : Addr) (z : Str) (xs : List V), vs = [.ref p] ∧ H p = some (.tup (.str z :: xs)) ∧ xs.length < 1000 ∧ Q (.str z) H
def spTo : Sp := fun vs H Q _ => ∃ (p : Addr) (xs : List V) (lo hi : Int), vs = [.ref p, .int lo, .int hi] ∧ H p = some (.tup xs) ∧ Q (.bl (decide (lo ≤ (xs.length : Int)) && decide ((xs.length : Int) ≤ hi))) H
def kdV (ps : CsL) (x : Str) : V := if x ∈ nms ps then .str (kdOf ps x) else .non
theorem kdV_in {ps : CsL} {x : Str} (h : x ∈ nms ps) : kdV ps x = .str (kdOf ps x) := if_pos h
theorem kdV_no {ps : CsL} {x : Str} (h : x ∉ nms ps) : kdV ps x = .non := if_neg h
def spKi : Sp := fun vs H Q _ => ∃ (L : Addr) (ps : CsL) (x : Str), vs = [.ref L, .str x] ∧ CA H L ps ∧ (nms ps).Nodup ∧ Q (kdV ps x) H
def spAc : Sp := fun vs H Q _ => ∃ (L p : Addr) (ps : CsL) (ns : List Str), vs = [.ref L, .ref p] ∧ CA H L ps ∧ ColP ps ∧ H p = some (.tup (vS ns)) ∧ (∀ n ∈ ns, n ∈ nms ps) ∧ ns.Nodup ∧ ns.length ≤ 8 ∧ ∀ H', Same H H' → Q (.bl true) H'
def spBd : Sp := fun vs H Q _ => ∃ (L : Addr) (ps : CsL), vs = [.ref L] ∧ CA H L ps ∧ ps.length ≤ 8 ∧ Q (.ref L) H
/-- the tables' columns -/
abbrev OsL : Type := List (Str × CsL)
inductive TabC (H : Hp) : List (Key × V) → OsL → Prop
  | nil : TabC H [] []
  | cons {n : Str} {cs : CsL} {C : Addr} {kvs : List (Key × V)} {os : OsL} (ca : CA H C cs) (r : TabC H kvs os) : TabC H ((Sum.inr n, .ref C) :: kvs) ((n, cs) :: os)
theorem TabC.same {H H' : Hp} (s : Same H H') : ∀ {kvs : List (Key × V)} {os : OsL}, TabC H kvs os → TabC H' kvs os
  | _, _, .nil => .nil
  | _, _, .cons ca r => .cons (ca.same s) (TabC.same s r)
theorem TabC.b {t : Addr} {H H' : Hp} (T : Tape H t) (s : SameB t H H') : ∀ {kvs : List (Key × V)} {os : OsL}, TabC H kvs os → TabC H' kvs os
  | _, _, .nil => .nil
  | _, _, .cons ca r => .cons (ca.b T s) (TabC.b T s r)
theorem TabC.at {H : Hp} {x : Str} {cs : CsL} : ∀ {kvs : List (Key × V)} {os : OsL}, TabC H kvs os → (os.map (·.1)).Nodup → (x, cs) ∈ os → ∃ C, valV kvs (Sum.inr x : Key) = some (.ref C) ∧ CA H C cs
  | _, _, .nil, _, h => by cases h
  | _, _, .cons (n := n) (C := C) ca r, nd, h => by
    rw [List.map_cons, List.nodup_cons] at nd
    rcases List.mem_cons.mp h with h | h
    · injection h with h1 h2
      subst h1
      subst h2
      exact ⟨C, valV_pos rfl, ca⟩
    · have ne : n ≠ x := fun e => nd.1 (by rw [e]; exact List.mem_map_of_mem (f := (·.1)) h)
      obtain ⟨C', h1, h2⟩ := TabC.at r nd.2 h
      exact ⟨C', by rw [valV_neg (fun w => ne (by injection w))]; exact h1, h2⟩
structure WdP (os : OsL) : Prop where
  ok : ∀ o ∈ os, nmS o.1 ∧ Sh 12 o.1 ∧ ColP o.2
  nd : (os.map (·.1)).Nodup
  l : os.length ≤ 10
/-- what a step of the word w leads to -/
def spBeh (wd : Str) : Sp := fun vs H Q _ => ∃ (D0 : Addr) (kvs : List (Key × V)) (os : OsL) (cv p : Addr) (ps qs : CsL) (st : Ps), vs = [.ref D0, .ref cv, .ref p] ∧ H D0 = some (.dK kvs) ∧ TabC H kvs os ∧ WdP os ∧ CA H cv ps ∧ ColP ps ∧ Dh H (.ref p) st.d ∧ Lead os ps st qs ∧ st.w = wd ∧ ∀ (cv' : Addr) (H' : Hp), Same H H' → CA H' cv' qs → Q (.ref cv') H'
theorem take_nodup {ns : List Str} {i : Nat} {g : Str} (nd : ns.Nodup) (e : ns[i]? = some g) : g ∉ ns.take i := fun h => by
  have e2 : ns = ns.take i ++ ns.drop i := (List.take_append_drop i ns).symm
  rw [e2, List.nodup_append] at nd
  have hd : g ∈ ns.drop i := by
    obtain ⟨l, rfl⟩ := List.getElem?_eq_some_iff.mp e
    exact List.mem_iff_getElem?.mpr ⟨0, by rw [List.getElem?_drop]; simpa using List.getElem?_eq_getElem l⟩
  exact nd.2.2 g h g hd rfl
theorem dh2 {H : Hp} {p : Addr} {a : Str} {b : PyData} (h : Dh H (.ref p) (.tuple [.str a, b])) : ∃ v, H p = some (.tup [.str a, v]) ∧ Dh H v b := by
  cases h with
  | tup e hs => cases hs with
    | cons h1 r1 => cases r1 with
      | cons h2 r2 => cases r2; cases h1; exact ⟨_, e, h2⟩
theorem dh3 {H : Hp} {p : Addr} {a b : Str} {c : PyData} (h : Dh H (.ref p) (.tuple [.str a, .str b, c])) : ∃ v, H p = some (.tup [.str a, .str b, v]) ∧ Dh H v c := by
  cases h with
  | tup e hs => cases hs with
    | cons h1 r1 => cases r1 with
      | cons h2 r2 => cases r2 with
        | cons h3 r3 => cases r3; cases h1; cases h2; exact ⟨_, e, h3⟩
theorem dh1 {H : Hp} {p : Addr} {a : Str} (h : Dh H (.ref p) (.tuple [.str a])) : H p = some (.tup [.str a]) := by
  cases h with
  | tup e hs => cases hs with
    | cons h1 r1 => cases r1; cases h1; exact e
theorem dh3g {H : Hp} {p : Addr} {a : Str} {b c : PyData} (h : Dh H (.ref p) (.tuple [.str a, b, c])) : ∃ v u, H p = some (.tup [.str a, v, u]) ∧ Dh H v b ∧ Dh H u c := by
  cases h with
  | tup e hs => cases hs with
    | cons h1 r1 => cases r1 with
      | cons h2 r2 => cases r2 with
        | cons h3 r3 => cases r3; cases h1; exact ⟨_, _, e, h2, h3⟩
def Ps.len : Ps → Nat
  | .group _ _ => 3
theorem ps_at {H : Hp} {p : Addr} {st : Ps} (h : Dh H (.ref p) st.d) : ∃ xs : List V, H p = some (.tup (.str st.w :: xs)) ∧ xs.length + 1 = st.len := by
  cases st with
  | group ks ts => obtain ⟨v, u, e, _⟩ := dh3g h; exact ⟨_, e, rfl⟩
theorem nm_len {x : Str} (h : Sh 12 x) : ∀ y, V.str x = V.str y → y.length ≤ sizeLine := fun y e => by
  injection e with e
  rw [← e]
  exact Nat.le_trans h.len (by decide)
abbrev teBl : TE := tTup (tCons (tVar 4) (tCons (tCall spKi [] E0 (tCons (tVar 1) (tCons (tVar 4) tNil))) tNil))
/-- a column put at the end of the new ones -/
theorem col_put {H H1 H2 : Hp} {D p : Addr} {ys : List V} {qs : CsL} {z k : Str} (hD : H D = none) (e1 : H1 D = some (.lst ys)) (c1 : Cols H1 ys qs) (l : ys.length ≤ 100) (s1 : Same H H1) (s2 : Same H1 H2) (hp : H2 p = some (.tup [.str z, .str k])) :
    ∃ acc, H2 D = some (.lst acc) ∧ acc.length < sizeLine ∧ ((∃ ys', upd H2 D (.lst (acc ++ [.ref p])) D = some (.lst ys') ∧ Cols (upd H2 D (.lst (acc ++ [.ref p]))) ys' (qs ++ [(z, k)])) ∧ Same H (upd H2 D (.lst (acc ++ [.ref p])))) := by
  have e3 := s2 _ _ e1
  refine ⟨ys, e3, lt_size (by omega), ⟨ys ++ [.ref p], upd_same, ?_⟩, fun b o e => by rw [upd_ne (ne_of_none e hD)]; exact s2 _ _ (s1 _ _ e)⟩
  exact ((c1.t (SameT.of s2)).app (.cons hp .nil)).t (SameT.lst e3)
section
variable {P : Program} {w : World} {K : PySem.W.Frag} {mg : Str → Option Value} {base : Heap} {f : Addr} {fd : FuncData}
abbrev sWd : Stmt := top 97
abbrev nWd : List Str := ["step"]
abbrev pWd : List Str := ["step"]
theorem scWd : FnScope nWd pWd (defScope sWd) := ⟨rfl, rfl, rfl, by decide +kernel, rfl, by decide +kernel, by decide +kernel⟩
section
theorem ok_Wd (F : Fun K "word_of" "word_of" sWd f fd) (T : Bt mg) : FnOk P w K mg base CX0 1 f fd pWd (spWd) := by
  refine F.ok scWd (fun vs H Q E h => ?_) (fun cdv A outer s H vs Q E hr h => ?_)
  · obtain ⟨p, z, xs, rfl, _⟩ := h
    rfl
  · obtain ⟨p, z, xs, rfl, hp, lx, k⟩ := h
    refine ⟨_, (pss_cons (ps_if (PW.pt (pw_and (pt_val (pe_callB call_isi (by rfl) T.isi boot_isinstance (pa_cons (pv 0) (pa_cons (pe_bltn (v := .ty "tuple") (by rfl) T.tuple boot_tuple rfl) pa_nil)))) (pw_and (pt_cmpR op_gt (pe_callB call_len_seq (by rfl) T.len PySem.boot_len (pa_cons (pv 0) pa_nil)) pe_int (nomark _)) (pw_and1 (pt_val (pe_callB call_isi (by rfl) T.isi boot_isinstance (pa_cons (pe_ix ix_tup (pv 0) pe_int (fun _ _ => rfl)) (pa_cons (pe_bltn (v := .ty "str") (by rfl) T.str boot_str rfl) pa_nil)))))))) (pss_one (ps_ret (pe_ix ix_tup (pv 0) pe_int (fun _ _ => rfl)))) pss_nil)
      (pss_one (ps_ret pe_non))), ?_⟩
    have at0 : ∀ (p : Addr), ∃ q, q = p := fun p => ⟨p, rfl⟩
    refine ⟨_, rfl, .ref p, .ty "tuple", _, _, _, rfl, .ty "tuple", (TyN.tup hp).x, kit_tuple (TyN.tup hp).mem, _, rfl, iteT ?_⟩
    refine ⟨_, rfl, p, _, rfl, .inr (SqT.of hp), _, _, rfl, rfl, _, rfl, ?_⟩
    rw [decide_eq_true (show (0 : Int) < ((V.str z :: xs).length : Int) by rw [List.length_cons]; omega)]
    refine iteT ⟨_, rfl, p, _, _, .str z, rfl, rfl, SqT.of hp, at_of (j := 0) rfl rfl, .str z, .ty "str", _, _, _, rfl, .ty "str", (TyN.str z).x, kit_str (TyN.str (H := H) z).mem, _, rfl, iteT ?_⟩
    exact ⟨_, rfl, p, _, _, .str z, rfl, rfl, SqT.of hp, at_of (j := 0) rfl rfl, k⟩
end
abbrev sTo : Stmt := top 79
abbrev nTo : List Str := ["value", "low", "high"]
abbrev pTo : List Str := ["value", "low", "high"]
theorem scTo : FnScope nTo pTo (defScope sTo) := ⟨rfl, rfl, rfl, by decide +kernel, rfl, by decide +kernel, by decide +kernel⟩
section
theorem ok_To (F : Fun K "is_tuple_of" "is_tuple_of" sTo f fd) (T : Bt mg) : FnOk P w K mg base CX0 1 f fd pTo (spTo) := by
  refine F.ok scTo (fun vs H Q E h => ?_) (fun cdv A outer s H vs Q E hr h => ?_)
  · obtain ⟨p, xs, lo, hi, rfl, _⟩ := h
    rfl
  · obtain ⟨p, xs, lo, hi, rfl, hp, k⟩ := h
    refine ⟨_, (pss_one (ps_ret (pe_and (pe_callB call_isi (by rfl) T.isi boot_isinstance (pa_cons (pv 0) (pa_cons (pe_bltn (v := .ty "tuple") (by rfl) T.tuple boot_tuple rfl) pa_nil))) (pe_one (pe_chain op_le op_le (pv 1) (pe_callB call_len_seq (by rfl) T.len PySem.boot_len (pa_cons (pv 0) pa_nil)) (pv 2)))))), ?_⟩
    refine ⟨_, rfl, .ref p, .ty "tuple", _, _, _, rfl, .ty "tuple", (TyN.tup hp).x, kit_tuple (TyN.tup hp).mem, _, rfl, iteT ⟨_, rfl, _, rfl, p, _, rfl, .inr (SqT.of hp), _, _, rfl, rfl, _, rfl, ite2 (fun q => ?_) (fun q => ?_)⟩⟩
    · refine ⟨_, rfl, _, _, rfl, rfl, ?_⟩
      rw [q, Bool.true_and] at k
      exact k
    · have q : decide (lo ≤ (xs.length : Int)) = false := by simpa using q
      rw [q, Bool.false_and] at k
      exact k
end
abbrev sKi : Stmt := top 80
abbrev nKi : List Str := ["columns", "name", "called", "kind"]
abbrev pKi : List Str := ["columns", "name"]
theorem scKi : FnScope nKi pKi (defScope sKi) := ⟨rfl, rfl, rfl, by decide +kernel, rfl, by decide +kernel, by decide +kernel⟩
section
theorem ok_Ki (F : Fun K "kind_in" "kind_in" sKi f fd) (T : Bt mg) : FnOk P w K mg base CX0 1 f fd pKi (spKi) := by
  refine F.ok scKi (fun vs H Q E h => ?_) (fun cdv A outer s H vs Q E hr h => ?_)
  · obtain ⟨L, ps, x, rfl, _⟩ := h
    rfl
  · obtain ⟨L, ps, x, rfl, hL, cp, k⟩ := h
    refine ⟨_, (pss_cons (ps_for PassesOwn.never rfl (pi_tup (pv 0)) (pg_tup rfl (pgs_cons (pg_name (i := 2) scKi.nd rfl (.inl rfl)) (pgs_cons (pg_name (i := 3) scKi.nd rfl (.inl rfl)) pgs_nil))) (pss_one (ps_if (pt_cmpR op_eq (pv 2) (pv 1) (nomark _)) (pss_one (ps_ret (pv 3))) pss_nil)))
      (pss_one (ps_ret pe_non))), ?_⟩
    obtain ⟨xs, zL, cc⟩ := hL
    refine ⟨_, rfl, L, rfl, ⟨_, zL.sq⟩, for_tup (K := K) (a := L) (xs := xs) (fun i σ H' => (∃ x2 x3 : Option V, σ = [some (.ref L), some (.str x), x2, x3]) ∧ H' = H ∧ ∀ p ∈ ps.take i, p.1 ≠ x) ⟨⟨none, none, rfl⟩, rfl, fun p hp => by simp at hp⟩ (fun i σ H' _ pr => by rw [pr.2.1]; exact zL.sq) ?_ ?_⟩
    · rintro i y σ H2 hy ⟨⟨x2, x3, rfl⟩, rfl, hno⟩
      obtain ⟨a, z, kk, rfl, ea, ep⟩ := cc.get _ _ hy
      refine ⟨a, _, rfl, SqT.of ea, rfl, _, _, rfl, _, _, rfl, rfl, ?_⟩
      dsimp only [gNil]
      refine ⟨_, rfl, _, rfl, rfl, _, rfl, ?_⟩
      by_cases q : z = x
      · rw [show decide (V.str z = V.str x) = true by rw [q]; exact decide_eq_true rfl]
        refine iteT ⟨_, rfl, ?_⟩
        have hm := List.mem_of_getElem? ep
        have hx : x ∈ nms ps := by rw [← q]; exact List.mem_map_of_mem hm
        rw [kdV_in hx, ← q, kdOf_mem cp hm] at k
        exact k
      · rw [show decide (V.str z = V.str x) = false from decide_eq_false (fun h => q (by injection h))]
        refine iteF ⟨⟨_, _, rfl⟩, rfl, fun p hp => ?_⟩
        rw [List.take_add_one, ep] at hp
        rcases List.mem_append.mp hp with hp | hp
        · exact hno p hp
        · rw [Option.toList_some, List.mem_singleton] at hp
          rw [hp]
          exact q
    · rintro σ H2 ⟨⟨x2, x3, rfl⟩, rfl, hno⟩
      rw [cc.len, List.take_length] at hno
      have hx : x ∉ nms ps := fun h => by
        obtain ⟨p, hp, e⟩ := List.mem_map.mp h
        exact hno p hp e
      rw [kdV_no hx] at k
      exact k
end
abbrev sAc : Stmt := top 81
abbrev nAc : List Str := ["columns", "names", "seen", "name"]
abbrev pAc : List Str := ["columns", "names"]
theorem scAc : FnScope nAc pAc (defScope sAc) := ⟨rfl, rfl, rfl, by decide +kernel, rfl, by decide +kernel, by decide +kernel⟩
section
variable {fA_ : Addr} {fdA_ : FuncData}
theorem ok_Ac (F : Fun K "are_columns" "are_columns" sAc f fd) (T : Bt mg)
    (GA_ : FnOk P w K mg base CX0 1 fA_ fdA_ ["columns", "name"] (spKi)) (mA_ : mg "kind_in" = some (.ref fA_)) (kA_ : PySem.W.keepIn K (.ref fA_) = true) (bA_ : Binds K fdA_ ["columns", "name"] []) : FnOk P w K mg base CX0 2 f fd pAc (spAc) := by
  refine F.ok scAc (fun vs H Q E h => ?_) (fun cdv A outer s H vs Q E hr h => ?_)
  · obtain ⟨L, p, ps, ns, rfl, _⟩ := h
    rfl
  · obtain ⟨L, p, ps, ns, rfl, hL, cp, hp, hn, nd, k⟩ := h
    have hrA_ : Room (1) _ := hr.mono (by first | decide | omega)
    refine ⟨_, (pss_cons (ps_set (i := 2) scAc.nd rfl (Or.inl rfl) (pe_lst pa_nil))
      (pss_cons (ps_for PassesOwn.never rfl (pi_tup (pv 1)) (pg_name (i := 3) scAc.nd rfl (.inl rfl)) (pss_cons (ps_if (PW.pt (pw_or (pt_cmpR op_in_seq (pv 3) (pv 2) (by rfl)) (pw_or1 (pt_cmpR op_isN (pe_call GA_ hrA_ (by rfl) mA_ kA_ bA_ .nil pass0 (pa_cons (pv 0) (pa_cons (pv 3) pa_nil))) pe_non (nomark _))))) (pss_one (ps_ret pe_bl)) pss_nil)
      (pss_one (ps_expr (pe_bm PySem.F.plainAttrs_list PySem.F.slot_list_append PySem.F.type_list_append mt_append (pv 2) (pa_cons (pv 3) pa_nil))))))
      (pss_one (ps_ret pe_bl)))), ?_⟩
    obtain ⟨n8, k⟩ := k
    refine ⟨Nat.zero_le _, fun S hS => ?_⟩
    have zS := Same.upd (o := .lst []) hS
    refine ⟨_, rfl, p, rfl, ⟨_, SqT.of (zS _ _ hp)⟩, for_tup (K := K) (a := p) (xs := vS ns) (fun i σ H' => (∃ x3 : Option V, σ = [some (.ref L), some (.ref p), some (.ref S), x3]) ∧ H' S = some (.lst (vS (ns.take i))) ∧ Same H H') ⟨⟨none, rfl⟩, upd_same, zS⟩ (fun i σ H' _ pr => SqT.of (pr.2.2 _ _ hp)) ?_ ?_⟩
    · rintro i y σ H2 hy ⟨⟨x3, rfl⟩, eS, s2⟩
      rw [List.getElem?_map] at hy
      obtain ⟨g, eg, rfl⟩ := Option.map_eq_some_iff.mp hy
      have gm := hn g (List.mem_of_getElem? eg)
      have fl : (vS (ns.take i)).all flatV = true := List.all_eq_true.mpr fun v hv => by
        obtain ⟨x, _, rfl⟩ := List.mem_map.mp hv
        rfl
      refine ⟨_, rfl, _, rfl, S, _, rfl, .inl (SqL.of eS), rfl, fl, _, rfl, ?_⟩
      rw [in_strs, decide_eq_false (take_nodup nd eg)]
      refine iteF ⟨_, rfl, _, rfl, L, ps, g, rfl, hL.same s2, cp.nd, ?_⟩
      rw [kdV_in gm]
      refine ⟨rfl, _, rfl, iteF ⟨_, rfl, .inl ⟨rfl, _, SqL.of eS⟩, _, rfl, S, _, _, rfl, rfl, eS, lt_size (by rw [List.length_map, List.length_take]; omega), ⟨⟨_, rfl⟩, ?_, fun b o e => by rw [upd_ne (ne_of_none e hS)]; exact s2 b o e⟩⟩⟩
      rw [upd_same, List.take_add_one, eg]
      unfold vS
      rw [List.map_append]
      rfl
    · rintro σ H2 ⟨⟨x3, rfl⟩, eS, s2⟩
      exact k H2 s2
end
abbrev sBd : Stmt := top 82
abbrev nBd : List Str := ["columns"]
abbrev pBd : List Str := ["columns"]
theorem scBd : FnScope nBd pBd (defScope sBd) := ⟨rfl, rfl, rfl, by decide +kernel, rfl, by decide +kernel, by decide +kernel⟩
section
theorem ok_Bd (F : Fun K "bounded" "bounded" sBd f fd) (T : Bt mg) {u8 : Tok} (m8 : mg "MOST_COLUMNS" = some (.int 8 u8)) : FnOk P w K mg base CX0 1 f fd pBd (spBd) := by
  refine F.ok scBd (fun vs H Q E h => ?_) (fun cdv A outer s H vs Q E hr h => ?_)
  · obtain ⟨L, ps, rfl, _⟩ := h
    rfl
  · obtain ⟨L, ps, rfl, hL, l8, k⟩ := h
    refine ⟨_, (pss_one (ps_ret (pe_ifExp (pt_cmpR op_le (pe_callB call_len_seq (by rfl) T.len PySem.boot_len (pa_cons (pv 0) pa_nil)) (pe_glob (v := .int 8) (by rfl) m8 ⟨_, rfl⟩) (nomark _)) (pv 0) pe_non))), ?_⟩
    obtain ⟨xs, zL, cc⟩ := hL
    have lx := cc.len
    refine ⟨_, rfl, L, _, rfl, .inr zL.sq, _, _, rfl, rfl, _, rfl, ?_⟩
    rw [decide_eq_true (show (xs.length : Int) ≤ 8 by omega)]
    exact iteT ⟨_, rfl, k⟩
end
end
/-- a list of one and the same bool grows -/
theorem bl_turn {H H1 : Hp} {D : Addr} {i : Nat} {b : Bool} (hD : H D = none) (e : H1 D = some (.lst ((List.replicate i b).map V.bl))) (l : i ≤ 100) (s : Same H H1) : ∃ acc, H1 D = some (.lst acc) ∧ acc.length < sizeLine ∧ (upd H1 D (.lst (acc ++ [.bl b])) D = some (.lst ((List.replicate (i + 1) b).map V.bl)) ∧ Same H (upd H1 D (.lst (acc ++ [.bl b])))) := by
  refine ⟨_, e, ?_, ?_, fun c o h => by rw [upd_ne (ne_of_none h hD)]; exact s c o h⟩
  · rw [List.length_map, List.length_replicate]
    exact lt_size (by omega)
  · rw [upd_same, List.replicate_succ', List.map_append]
    rfl
theorem any_rep (n : Nat) : (List.replicate n false).any id = false := by
  induction n with
  | zero => rfl
  | succ n ih => rw [List.replicate_succ, List.any_cons, ih]; rfl
theorem all_rep (n : Nat) : (List.replicate n true).all id = true := by
  induction n with
  | zero => rfl
  | succ n ih => rw [List.replicate_succ, List.all_cons, ih]; rfl
def spTt : Sp := fun vs H Q _ => ∃ (L q : Addr) (ps : CsL) (t : Str × Str × Str), vs = [.ref L, .ref q] ∧ CA H L ps ∧ ColP ps ∧ H q = some (.tup (vS [t.1, t.2.1, t.2.2])) ∧ Sh 12 t.1 ∧ nmS t.1 ∧ t.2.1 ∈ fnS ∧ t.2.2 ∈ nms ps ∧ (t.2.1 ≠ "count" → kdOf ps t.2.2 = "number") ∧ ∀ H', Same H H' → Q (.bl true) H'
abbrev teJ1 : TE := tOp rNe (tCall spKi [] E0 (tCons (tVar 1) (tCons (tVar 7) tNil))) (tCall spKi [] E0 (tCons (tVar 6) (tCons (tVar 7) tNil)))
abbrev ttJ (K : PySem.W.Frag) : TT := tTest (tOp (rIn K true) (tOp (rIxT K) (tVar 9) (tC (.int 0))) (tVar 5))
abbrev teJ2 (K : PySem.W.Frag) : TE := tOp (fun x y H Q => y = .non ∧ Q (.bl (!decide (x = .non))) H) (tCall spKi [] E0 (tCons (tVar 1) (tCons (tOp (rIxT K) (tVar 9) (tC (.int 0))) tNil))) (tC .non)
abbrev teG1 : TE := tCall spTt [] E0 (tCons (tVar 1) (tCons (tVar 6) tNil))
abbrev teG2 : TE := tTup (tCons (tVar 8) (tCons (tCall spKi [] E0 (tCons (tVar 1) (tCons (tVar 8) tNil))) tNil))
abbrev teG3 (K : PySem.W.Frag) : TE := tTup (tCons (tOp (rIxT K) (tVar 6) (tC (.int 0))) (tCons (tC (.str "number")) tNil))
def spNo : Sp := fun vs H Q _ => ∃ (L : Addr) (ps : CsL), vs = [.ref L] ∧ CA H L ps ∧ ps.length ≤ 8 ∧ ∀ (D : Addr) (H' : Hp), Same H H' → H D = none → H' D = some (.lst (vS (nms ps))) → Q (.ref D) H'
section
variable {P : Program} {w : World} {K : PySem.W.Frag} {mg : Str → Option Value} {base : Heap} {f : Addr} {fd : FuncData}
abbrev sNo : Stmt := top 57
abbrev nNo : List Str := ["columns", "name", "kind"]
abbrev pNo : List Str := ["columns"]
theorem scNo : FnScope nNo pNo (defScope sNo) := ⟨rfl, rfl, rfl, by decide +kernel, rfl, by decide +kernel, by decide +kernel⟩
section
theorem ok_No (F : Fun K "names_of" "names_of" sNo f fd) (T : Bt mg) : FnOk P w K mg base CX0 1 f fd pNo (spNo) := by
  refine F.ok scNo (fun vs H Q E h => ?_) (fun cdv A outer s H vs Q E hr h => ?_)
  · obtain ⟨L, ps, rfl, _⟩ := h
    rfl
  · obtain ⟨L, ps, rfl, hL, l8, k⟩ := h
    refine ⟨_, (pss_one (ps_ret (pe_lc (own := [("name", 1), ("kind", 2)]) (g := (gTup K 2 (gCons (gName 1) (gCons (gName 2) gNil)))) (tt := tYes) (te := tVar 1) (by rfl) scNo.nd (pi_tup (pv 0)) (blkOk_by (own := [("name", 1), ("kind", 2)]) (N := nNo) (sc := defScope sNo) (by decide +kernel)) (fun _ _ _ _ _ => (pg_tup rfl (pgs_cons (pg_name (i := 1) scNo.nd rfl (.inl rfl)) (pgs_cons (pg_name (i := 2) scNo.nd rfl (.inl rfl)) pgs_nil)))) (fun _ _ _ _ _ => pts_nil) (fun _ _ _ _ _ => (pv 1))))), ?_⟩
    obtain ⟨xs, zL, cc⟩ := hL
    refine ⟨_, rfl, L, rfl, ⟨_, zL.sq⟩, fun W hW => lc_tup (K := K) (a := L) (xs := xs) (fun i H' => H' W = some (.lst (vS ((nms ps).take i))) ∧ Same H H') ⟨upd_same, Same.upd hW⟩ (fun i H' _ pr => (zL.same pr.2).sq) ?_ ?_⟩
    · rintro i x H1 hx ⟨hW1, s1⟩
      obtain ⟨a, z, kk, rfl, ea, ep⟩ := cc.get _ _ hx
      refine ⟨a, _, rfl, SqT.of (s1 _ _ ea), rfl, _, _, rfl, _, _, rfl, rfl, rfl, ?_⟩
      dsimp only [tYes]
      exact iteT ⟨_, rfl, nm_turn hW hW1 ep l8 s1⟩
    rintro H1 ⟨hW1, s1⟩
    rw [show xs.length = (nms ps).length by rw [cc.len, List.length_map], List.take_length] at hW1
    exact k W H1 s1 hW hW1
end
abbrev sTt : Stmt := top 92
abbrev nTt : List Str := ["columns", "thing", "name", "function", "column", "kind"]
abbrev pTt : List Str := ["columns", "thing"]
theorem scTt : FnScope nTt pTt (defScope sTt) := ⟨rfl, rfl, rfl, by decide +kernel, rfl, by decide +kernel, by decide +kernel⟩
section
variable {fA_ fB_ fC_ : Addr} {fdA_ fdB_ fdC_ : FuncData}
theorem ok_Tt (F : Fun K "is_total" "is_total" sTt f fd) (T : Bt mg) {fA : Addr} (mF : mg "FUNCTIONS" = some (.ref fA)) (hF2 : ∀ H, SqT K H fA (vS fnS))
    (GA_ : FnOk P w K mg base CX0 1 fA_ fdA_ ["value", "low", "high"] (spTo)) (mA_ : mg "is_tuple_of" = some (.ref fA_)) (kA_ : PySem.W.keepIn K (.ref fA_) = true) (bA_ : Binds K fdA_ ["value", "low", "high"] [])
    (GB_ : FnOk P w K mg base CX0 1 fB_ fdB_ ["value"] (spName)) (mB_ : mg "is_name" = some (.ref fB_)) (kB_ : PySem.W.keepIn K (.ref fB_) = true) (bB_ : Binds K fdB_ ["value"] [])
    (GC_ : FnOk P w K mg base CX0 1 fC_ fdC_ ["columns", "name"] (spKi)) (mC_ : mg "kind_in" = some (.ref fC_)) (kC_ : PySem.W.keepIn K (.ref fC_) = true) (bC_ : Binds K fdC_ ["columns", "name"] []) : FnOk P w K mg base CX0 2 f fd pTt (spTt) := by
  refine F.ok scTt (fun vs H Q E h => ?_) (fun cdv A outer s H vs Q E hr h => ?_)
  · obtain ⟨L, q, ps, t, rfl, _⟩ := h
    rfl
  · obtain ⟨L, q, ps, t, rfl, hL, cp, hq, sht, nmt, hf, hc, hk, k⟩ := h
    have hrA_ : Room (1) _ := hr.mono (by first | decide | omega)
    have hrB_ : Room (1) _ := hr.mono (by first | decide | omega)
    have hrC_ : Room (1) _ := hr.mono (by first | decide | omega)
    refine ⟨_, (pss_cons (ps_if (pt_not (pt_val (pe_call GA_ hrA_ (by rfl) mA_ kA_ bA_ .nil pass0 (pa_cons (pv 1) (pa_cons pe_int (pa_cons pe_int pa_nil)))))) (pss_one (ps_ret pe_bl)) pss_nil)
      (pss_cons (ps_asg (pv 1) (pg_tup rfl (pgs_cons (pg_name (i := 2) scTt.nd rfl (.inl rfl)) (pgs_cons (pg_name (i := 3) scTt.nd rfl (.inl rfl)) (pgs_cons (pg_name (i := 4) scTt.nd rfl (.inl rfl)) pgs_nil)))))
      (pss_cons (ps_if (PW.pt (pw_or (pt_not (pt_val (pe_call GB_ hrB_ (by rfl) mB_ kB_ bB_ .nil pass0 (pa_cons (pv 2) pa_nil)))) (pw_or1 (pt_cmpR op_notIn_seq (pv 3) (pe_glob (v := .ref fA) (by rfl) mF rfl) (by rfl))))) (pss_one (ps_ret pe_bl)) pss_nil)
      (pss_cons (ps_set (i := 5) scTt.nd rfl (Or.inl rfl) (pe_call GC_ hrC_ (by rfl) mC_ kC_ bC_ .nil pass0 (pa_cons (pv 0) (pa_cons (pv 4) pa_nil))))
      (pss_one (ps_ret (pe_or (pe_cmpR op_eq (pv 5) pe_str (nomark _)) (pe_one (pe_and (pe_cmpR op_eq (pv 3) pe_str (nomark _)) (pe_one (pe_cmpR op_notN (pv 5) pe_non (nomark _)))))))))))), ?_⟩
    have sE : ∀ (a b : Str), decide (V.str a = V.str b) = decide (a = b) := fun a b => decide_eq_decide.mpr ⟨fun e => by injection e, fun e => by rw [e]⟩
    refine ⟨_, rfl, q, _, 3, 3, rfl, hq, _, rfl, ?_⟩
    rw [show (decide ((3 : Int) ≤ ((vS [t.1, t.2.1, t.2.2]).length : Int)) && decide (((vS [t.1, t.2.1, t.2.2]).length : Int) ≤ 3)) = true from rfl]
    refine iteF ⟨_, rfl, q, _, rfl, SqT.of hq, rfl, _, _, rfl, _, _, rfl, _, _, rfl, rfl, ?_⟩
    dsimp only [gNil]
    refine ⟨_, rfl, .str t.1, "str", rfl, .str t.1, nm_len sht, fun H1 s1 => ⟨_, rfl, ?_⟩⟩
    rw [nmt]
    refine iteF ⟨_, rfl, fA, _, rfl, .inr (hF2 H1), rfl, by unfold fnS; rfl, _, rfl, ?_⟩
    rw [in_strs, decide_eq_true hf]
    refine iteF ⟨_, rfl, _, rfl, L, ps, t.2.2, rfl, hL.same s1, cp.nd, ?_⟩
    rw [kdV_in hc]
    refine ⟨_, rfl, rfl, _, rfl, ?_⟩
    rw [sE]
    by_cases e : kdOf ps t.2.2 = "number"
    · rw [decide_eq_true e]
      exact iteT (k H1 s1)
    · rw [decide_eq_false e]
      have e2 : t.2.1 = "count" := Classical.byContradiction fun z => e (hk z)
      refine iteF ⟨_, rfl, rfl, _, rfl, ?_⟩
      rw [sE, decide_eq_true e2]
      exact iteT ⟨_, rfl, rfl, k H1 s1⟩
end
abbrev sGo : Stmt := top 93
abbrev nGo : List Str := ["tables", "columns", "step", "word", "names", "totals", "thing", "keys", "name", "found"]
abbrev pGo : List Str := ["tables", "columns", "step"]
theorem scGo : FnScope nGo pGo (defScope sGo) := ⟨rfl, rfl, rfl, by decide +kernel, rfl, by decide +kernel, by decide +kernel⟩
section
variable {fA_ fB_ fC_ fD_ fE_ fF_ : Addr} {fdA_ fdB_ fdC_ fdD_ fdE_ fdF_ : FuncData}
theorem ok_Go (F : Fun K "behind_group" "behind_group" sGo f fd) (T : Bt mg) (mE : mg "set" = none) {u3 u6 : Tok} (m3 : mg "MOST_KEYS" = some (.int 3 u3)) (m6 : mg "MOST_TOTALS" = some (.int 6 u6))
    (GA_ : FnOk P w K mg base CX0 1 fA_ fdA_ ["value", "low", "high"] (spTo)) (mA_ : mg "is_tuple_of" = some (.ref fA_)) (kA_ : PySem.W.keepIn K (.ref fA_) = true) (bA_ : Binds K fdA_ ["value", "low", "high"] [])
    (GB_ : FnOk P w K mg base CX0 2 fB_ fdB_ ["columns", "names"] (spAc)) (mB_ : mg "are_columns" = some (.ref fB_)) (kB_ : PySem.W.keepIn K (.ref fB_) = true) (bB_ : Binds K fdB_ ["columns", "names"] [])
    (GC_ : FnOk P w K mg base CX0 2 fC_ fdC_ ["columns", "thing"] (spTt)) (mC_ : mg "is_total" = some (.ref fC_)) (kC_ : PySem.W.keepIn K (.ref fC_) = true) (bC_ : Binds K fdC_ ["columns", "thing"] [])
    (GD_ : FnOk P w K mg base CX0 1 fD_ fdD_ ["columns", "name"] (spKi)) (mD_ : mg "kind_in" = some (.ref fD_)) (kD_ : PySem.W.keepIn K (.ref fD_) = true) (bD_ : Binds K fdD_ ["columns", "name"] [])
    (GE_ : FnOk P w K mg base CX0 1 fE_ fdE_ ["columns"] (spNo)) (mE_ : mg "names_of" = some (.ref fE_)) (kE_ : PySem.W.keepIn K (.ref fE_) = true) (bE_ : Binds K fdE_ ["columns"] [])
    (GF_ : FnOk P w K mg base CX0 1 fF_ fdF_ ["columns"] (spBd)) (mF_ : mg "bounded" = some (.ref fF_)) (kF_ : PySem.W.keepIn K (.ref fF_) = true) (bF_ : Binds K fdF_ ["columns"] []) : FnOk P w K mg base CX0 3 f fd pGo ((spBeh "group")) := by
  refine F.ok scGo (fun vs H Q E h => ?_) (fun cdv A outer s H vs Q E hr h => ?_)
  · obtain ⟨D0, kvs, os, cv, p, ps, qs, st, rfl, _⟩ := h
    rfl
  · obtain ⟨D0, kvs, os, cv, p, ps, qs, st, rfl, hD0, hO, wO, hL, cp, hd, ld, hw, k⟩ := h
    have hrA_ : Room (1) _ := hr.mono (by first | decide | omega)
    have hrB_ : Room (2) _ := hr.mono (by first | decide | omega)
    have hrC_ : Room (2) _ := hr.mono (by first | decide | omega)
    have hrD_ : Room (1) _ := hr.mono (by first | decide | omega)
    have hrE_ : Room (1) _ := hr.mono (by first | decide | omega)
    have hrF_ : Room (1) _ := hr.mono (by first | decide | omega)
    refine ⟨_, (pss_cons (ps_asg (pv 2) (pg_tup rfl (pgs_cons (pg_name (i := 3) scGo.nd rfl (.inl rfl)) (pgs_cons (pg_name (i := 4) scGo.nd rfl (.inl rfl)) (pgs_cons (pg_name (i := 5) scGo.nd rfl (.inl rfl)) pgs_nil)))))
      (pss_cons (ps_if (PW.pt (pw_or (pt_not (pt_val (pe_call GA_ hrA_ (by rfl) mA_ kA_ bA_ .nil pass0 (pa_cons (pv 4) (pa_cons pe_int (pa_cons (pe_glob (v := .int 3) (by rfl) m3 ⟨_, rfl⟩) pa_nil)))))) (pw_or1 (pt_not (pt_val (pe_call GB_ hrB_ (by rfl) mB_ kB_ bB_ .nil pass0 (pa_cons (pv 1) (pa_cons (pv 4) pa_nil)))))))) (pss_one (ps_ret pe_non)) pss_nil)
      (pss_cons (ps_if (PW.pt (pw_or (pt_not (pt_val (pe_call GA_ hrA_ (by rfl) mA_ kA_ bA_ .nil pass0 (pa_cons (pv 5) (pa_cons pe_int (pa_cons (pe_glob (v := .int 6) (by rfl) m6 ⟨_, rfl⟩) pa_nil)))))) (pw_or1 (pt_not (pt_val (pe_callB (cr_all rfl) (by rfl) T.all (by decide +kernel) (pa_cons (pe_lc (own := [("thing", 6)]) (g := (gName 6)) (tt := tYes) (te := teG1) (by rfl) scGo.nd (pi_tup (pv 5)) (blkOk_by (own := [("thing", 6)]) (N := nGo) (sc := defScope sGo) (by decide +kernel)) (fun _ _ _ _ _ => (pg_name (i := 6) scGo.nd rfl (.inl rfl))) (fun _ _ _ _ _ => pts_nil) (fun _ _ _ _ _ => (pe_call GC_ hrC_ (by rfl) mC_ kC_ bC_ .nil pass0 (pa_cons (pv 1) (pa_cons (pv 6) pa_nil))))) pa_nil))))))) (pss_one (ps_ret pe_non)) pss_nil)
      (pss_cons (ps_setLc (i := 7) (own := [("name", 8)]) (g := (gName 8)) (tt := tYes) (te := teG2) (by rfl) scGo.nd rfl rfl (sw_true rfl rfl rfl (by decide +kernel)) (pi_tup (pv 4)) (blkOk_by (own := [("name", 8)]) (N := nGo) (sc := defScope sGo) (by decide +kernel)) (fun _ _ _ _ _ => (pg_name (i := 8) scGo.nd rfl (.inl rfl))) (fun _ _ _ _ _ => pts_nil) (fun _ _ _ _ _ => (pe_tup (pa_cons (pv 8) (pa_cons (pe_call GD_ hrD_ (by rfl) mD_ kD_ bD_ .nil pass0 (pa_cons (pv 1) (pa_cons (pv 8) pa_nil))) pa_nil)))))
      (pss_cons (ps_set (i := 9) scGo.nd rfl (Or.inl rfl) (pe_callTy call_tupleZ (by rfl) T.tuple boot_tuple (pa_cons (pe_op op_cat (pv 7) (pe_lc (own := [("thing", 6)]) (g := (gName 6)) (tt := tYes) (te := (teG3 K)) (by rfl) scGo.nd (pi_tup (pv 5)) (blkOk_by (own := [("thing", 6)]) (N := nGo) (sc := defScope sGo) (by decide +kernel)) (fun _ _ _ _ _ => (pg_name (i := 6) scGo.nd rfl (.inl rfl))) (fun _ _ _ _ _ => pts_nil) (fun _ _ _ _ _ => (pe_tup (pa_cons (pe_ix ix_tup (pv 6) pe_int (fun _ _ => rfl)) (pa_cons pe_str pa_nil)))))) pa_nil)))
      (pss_cons (ps_if (pt_cmpR op_lt (pe_callB call_lenX (by rfl) T.len PySem.boot_len (pa_cons (pe_callTy (cr_setX rfl) (by rfl) mE boot_set (pa_cons (pe_call GE_ hrE_ (by rfl) mE_ kE_ bE_ .nil pass0 (pa_cons (pv 9) pa_nil)) pa_nil)) pa_nil)) (pe_callB call_len_seq (by rfl) T.len PySem.boot_len (pa_cons (pv 9) pa_nil)) (nomark _)) (pss_one (ps_ret pe_non)) pss_nil)
      (pss_one (ps_ret (pe_call GF_ hrF_ (by rfl) mF_ kF_ bF_ .nil pass0 (pa_cons (pv 9) pa_nil)))))))))), ?_⟩
    have two : 2 ≤ sizeLine := by decide
    cases st with
    | group ks ts =>
    cases ld with
    | group hk g ht =>
    obtain ⟨v, u, e1, dv, du⟩ := dh3g hd
    obtain ⟨b, rfl, eb⟩ := dh_strs dv
    cases du with
    | @tup tq us _ eu hu =>
    have lu : us.length = ts.length := by rw [hu.len, List.length_map]
    obtain ⟨t1, t6⟩ := g.tl
    have kl := g.kl
    have al := g.al
    refine ⟨_, rfl, p, _, rfl, SqT.of e1, rfl, _, _, rfl, _, _, rfl, _, _, rfl, rfl, ?_⟩
    dsimp only [gNil]
    have knd : ks.Nodup := by
      have := g.nd
      rw [List.nodup_append] at this
      exact this.1
    refine ⟨_, rfl, b, vS ks, 0, 3, rfl, eb, _, rfl, ?_⟩
    rw [List.length_map, decide_eq_true (show (0 : Int) ≤ (ks.length : Int) by omega), decide_eq_true (show (ks.length : Int) ≤ 3 by omega)]
    refine iteF ⟨_, rfl, _, rfl, cv, b, ps, ks, rfl, hL, cp, eb, hk, knd, by omega, fun H1 s1 => ⟨_, rfl, iteF ?_⟩⟩
    refine ⟨_, rfl, tq, us, 1, 6, rfl, s1 _ _ eu, _, rfl, ?_⟩
    rw [decide_eq_true (show (1 : Int) ≤ (us.length : Int) by omega), decide_eq_true (show (us.length : Int) ≤ 6 by omega)]
    have hL1 := hL.same s1
    have eu1 := s1 _ _ eu
    have eb1 := s1 _ _ eb
    have hu1 := hu.same s1
    -- each total is one
    refine iteF ⟨_, rfl, tq, rfl, ⟨_, SqT.of eu1⟩, fun A hA => lc_tup (K := K) (a := tq) (xs := us) (fun i H' => H' A = some (.lst ((List.replicate i true).map V.bl)) ∧ Same H1 H') ⟨upd_same, Same.upd hA⟩ (fun i H' _ pr => SqT.of (pr.2 _ _ eu1)) ?_ ?_⟩
    · rintro i y H3 hy ⟨eA, s3⟩
      have li := (List.getElem?_eq_some_iff.mp hy).1
      obtain ⟨dd, edd, hdd⟩ := hu1.get i y hy
      rw [List.getElem?_map] at edd
      obtain ⟨tt, et, rfl⟩ := Option.map_eq_some_iff.mp edd
      obtain ⟨q, rfl, eq⟩ := totS3_dh hdd
      have tm := List.mem_of_getElem? et
      obtain ⟨q1, q2, q3⟩ := ht tt tm
      obtain ⟨q4, q5, _⟩ := g.t tt tm
      refine ⟨rfl, ?_⟩
      dsimp only [tYes]
      refine iteT ?_
      change teG1 _ _ _
      exact ⟨_, rfl, _, rfl, cv, q, ps, tt, rfl, hL1.same s3, cp, s3 _ _ eq, q1, q4, q5, q2, q3, fun H4 s4 => bl_turn hA (s4 _ _ eA) (by omega) (s3.trans s4)⟩
    rintro H3 ⟨eA, s3⟩
    refine ⟨A, List.replicate _ true, rfl, SqL.of eA, _, rfl, ?_⟩
    rw [all_rep]
    have hL3 := hL1.same s3
    have eu3 := s3 _ _ eu1
    have eb3 := s3 _ _ eb1
    have hu3 := hu1.same s3
    -- the keys
    refine iteF ⟨_, rfl, b, rfl, ⟨_, SqT.of eb3⟩, fun B hB => lc_tup (K := K) (a := b) (xs := vS ks) (fun i H' => (∃ ys, H' B = some (.lst ys) ∧ Cols H' ys ((ks.take i).map fun n => (n, kdOf ps n))) ∧ Same H3 H') ⟨⟨[], upd_same, .nil⟩, Same.upd hB⟩ (fun i H' _ pr => SqT.of (pr.2 _ _ eb3)) ?_ ?_⟩
    · rintro i y H4 hy ⟨⟨ys, e4, c4⟩, s4⟩
      rw [List.getElem?_map] at hy
      obtain ⟨n, en, rfl⟩ := Option.map_eq_some_iff.mp hy
      have l4 := c4.len
      rw [List.length_map, List.length_take] at l4
      refine ⟨rfl, ?_⟩
      dsimp only [tYes]
      refine iteT ?_
      change teG2 _ _ _
      refine ⟨_, rfl, _, rfl, _, rfl, cv, ps, n, rfl, hL3.same s4, cp.nd, ?_⟩
      rw [kdV_in (hk n (List.mem_of_getElem? en))]
      refine ⟨two, fun q hq => ?_⟩
      rw [List.take_add_one, en, List.map_append]
      exact col_turn hB e4 c4 (by omega) s4 (Same.refl _) hq
    rintro H4 ⟨⟨ys, e4, c4⟩, s4⟩
    rw [List.length_map, List.take_length] at c4
    have eu4 := s4 _ _ eu3
    have hu4 := hu3.same s4
    -- .. and the totals
    refine ⟨_, rfl, _, rfl, tq, rfl, ⟨_, SqT.of eu4⟩, fun G hG => lc_tup (K := K) (a := tq) (xs := us) (fun i H' => (∃ zs, H' G = some (.lst zs) ∧ Cols H' zs ((ts.take i).map fun t => (t.1, ("number" : Str)))) ∧ Same H4 H') ⟨⟨[], upd_same, .nil⟩, Same.upd hG⟩ (fun i H' _ pr => SqT.of (pr.2 _ _ eu4)) ?_ ?_⟩
    · rintro i y H5 hy ⟨⟨zs, e5, c5⟩, s5⟩
      obtain ⟨dd, edd, hdd⟩ := hu4.get i y hy
      rw [List.getElem?_map] at edd
      obtain ⟨tt, et, rfl⟩ := Option.map_eq_some_iff.mp edd
      obtain ⟨q, rfl, eq⟩ := totS3_dh hdd
      have l5 := c5.len
      rw [List.length_map, List.length_take] at l5
      refine ⟨rfl, ?_⟩
      dsimp only [tYes]
      refine iteT ?_
      change teG3 K _ _ _
      refine ⟨_, rfl, q, _, _, .str tt.1, rfl, rfl, SqT.of (s5 _ _ eq), at_of (j := 0) rfl rfl, two, fun pp hp => ?_⟩
      rw [List.take_add_one, et, List.map_append]
      exact col_turn hG e5 c5 (by omega) s5 (Same.refl _) hp
    rintro H5 ⟨⟨zs, e5, c5⟩, s5⟩
    rw [lu, List.take_length] at c5
    have lys := c4.len
    have lzs := c5.len
    rw [List.length_map] at lys lzs
    refine ⟨B, G, ys, zs, rfl, rfl, s5 _ _ e4, e5, by rw [lys, lzs]; exact Nat.le_trans (show _ ≤ 8 by omega) (by decide), fun M hM => ?_⟩
    have zM := Same.upd (o := .lst (ys ++ zs)) hM
    refine ⟨M, _, rfl, SqL.of upd_same, fun q ob hq d1 d2 => ?_⟩
    have zq := Same.upd (o := .frz ob (.tup (ys ++ zs))) hq
    let qs : CsL := ks.map (fun n => (n, kdOf ps n)) ++ ts.map fun t => (t.1, ("number" : Str))
    have ca : CA _ q qs := ⟨ys ++ zs, ⟨ob, d1, d2, upd_same⟩, ((c4.t (SameT.of s5)).app c5).t (SameT.of (zM.trans zq))⟩
    have s06 := (((s1.trans s3).trans s4).trans s5).trans (zM.trans zq)
    have q8 : qs.length ≤ 8 := by simp only [qs, List.length_append, List.length_map]; exact al
    have qnd : (nms qs).Nodup := by
      have e1 : ks.map ((fun x : Str × Str => x.1) ∘ fun n => (n, kdOf ps n)) = ks := List.map_id' ks
      have e2 : nms qs = ks ++ ts.map (·.1) := by
        simp only [qs, nms, List.map_append, List.map_map]
        rw [e1]
        rfl
      rw [e2]
      exact g.nd
    generalize L2.upd (L2.upd H5 M (.lst (ys ++ zs))) q (.frz ob (.tup (ys ++ zs))) = H6 at ca s06 ⊢
    -- unlike names
    have lnq : (nms qs).length = qs.length := List.length_map _
    obtain ⟨xs6, z6, c6⟩ := id ca
    have lx6 := c6.len
    refine ⟨_, rfl, q, qs, rfl, ca, q8, fun D H7 s7 _ e7 => ⟨D, nms qs, rfl, SqL.of e7, by omega, fun S hS => ⟨S, nms qs, rfl, upd_same, fun n ln en => ?_⟩⟩⟩
    have zS := Same.upd (o := SetXO w S (nms qs)) hS
    have en : n = (nms qs).length := en.mpr qnd
    have s8 := s7.trans zS
    refine ⟨_, rfl, q, _, rfl, .inr (z6.same s8).sq, _, _, rfl, rfl, _, rfl, ?_⟩
    rw [decide_eq_false (by omega)]
    exact iteF ⟨_, rfl, q, qs, rfl, ca.same s8, q8, k q _ (s06.trans s8) (ca.same s8)⟩
end
end
def spCb : Sp := fun vs H Q _ => ∃ (D0 : Addr) (kvs : List (Key × V)) (os : OsL) (cv p : Addr) (ps qs : CsL) (st : Ps), vs = [.ref D0, .ref cv, .ref p] ∧ H D0 = some (.dK kvs) ∧ TabC H kvs os ∧ WdP os ∧ CA H cv ps ∧ ColP ps ∧ Dh H (.ref p) st.d ∧ Lead os ps st qs ∧ ∀ (cv' : Addr) (H' : Hp), Same H H' → CA H' cv' qs → Q (.ref cv') H'
structure CbA (P : Program) (w : World) (K : PySem.W.Frag) (mg : Str → Option Value) (base : Heap) (lA bA : Addr) : Prop where
  gl : mg "LENGTHS" = some (.ref lA)
  gb : mg "BEHIND" = some (.ref bA)
  dl : ∃ es n, KDict K w lA es n
  le : ∀ st : Ps, KDct K w lA st.w (.int st.len) ∧ ∃ u, PySem.W.nsIn K lA st.w = some (some u)
  be : ∀ st : Ps, ∃ g, KDct K w bA st.w (.ref g) ∧ Held P w K mg base 16 g (spBeh st.w)
section
variable {P : Program} {w : World} {K : PySem.W.Frag} {mg : Str → Option Value} {base : Heap} {f : Addr} {fd : FuncData}
abbrev sCb : Stmt := top 98
abbrev nCb : List Str := ["tables", "columns", "step", "word", "follow"]
abbrev pCb : List Str := ["tables", "columns", "step"]
theorem scCb : FnScope nCb pCb (defScope sCb) := ⟨rfl, rfl, rfl, by decide +kernel, rfl, by decide +kernel, by decide +kernel⟩
section
variable {fA_ : Addr} {fdA_ : FuncData}
theorem ok_Cb (F : Fun K "columns_behind" "columns_behind" sCb f fd) (T : Bt mg) {lA bA : Addr} (A2 : CbA P w K mg base lA bA)
    (GA_ : FnOk P w K mg base CX0 1 fA_ fdA_ ["step"] (spWd)) (mA_ : mg "word_of" = some (.ref fA_)) (kA_ : PySem.W.keepIn K (.ref fA_) = true) (bA_ : Binds K fdA_ ["step"] []) : FnOk P w K mg base CX0 17 f fd pCb (spCb) := by
  refine F.ok scCb (fun vs H Q E h => ?_) (fun cdv A outer s H vs Q E hr h => ?_)
  · obtain ⟨D0, kvs, os, cv, p, ps, qs, st, rfl, _⟩ := h
    rfl
  · obtain ⟨D0, kvs, os, cv, p, ps, qs, st, rfl, hD0, hO, wO, hL, cp, hd, ld, k⟩ := h
    have hrA_ : Room (1) _ := hr.mono (by first | decide | omega)
    obtain ⟨es, n0, KD⟩ := A2.dl
    obtain ⟨g, g1, hH⟩ := A2.be st
    obtain ⟨l1, u0, l2⟩ := A2.le st
    have hr3 : Room 16 _ := hr.mono (by decide)
    have AS : ∀ f sp, (fun q => if q = g then some (spBeh st.w) else none : Addr → Option Sp) f = some sp → Held P w K mg base 16 f sp := fun f sp e => by
      dsimp only at e
      by_cases z : f = g
      · subst z
        rw [if_pos rfl] at e
        obtain rfl := Option.some.inj e
        exact hH
      · rw [if_neg z] at e
        cases e
    refine ⟨_, (pss_cons (ps_set (i := 3) scCb.nd rfl (Or.inl rfl) (pe_call GA_ hrA_ (by rfl) mA_ kA_ bA_ .nil pass0 (pa_cons (pv 2) pa_nil)))
      (pss_cons (ps_if (PW.pt (pw_or (pt_cmpR op_isN (pv 3) pe_non (nomark _)) (pw_or (pt_cmpR (op_notIn_kd KD) (pv 3) (pe_glob (v := .ref lA) (by rfl) A2.gl rfl) (by rfl)) (pw_or1 (pt_cmpR op_ne (pe_callB call_len_seq (by rfl) T.len PySem.boot_len (pa_cons (pv 2) pa_nil)) (pe_ix ix_kdict (pe_glob (v := .ref lA) (by rfl) A2.gl rfl) (pv 3) (fun _ _ => rfl)) (nomark _)))))) (pss_one (ps_ret pe_non)) pss_nil)
      (pss_cons (ps_set (i := 4) scCb.nd rfl (Or.inl rfl) (pe_ix ix_kdict (pe_glob (v := .ref bA) (by rfl) A2.gb rfl) (pv 3) (fun _ _ => rfl)))
      (pss_one (ps_ret (pe_callA (i := 4) AS hr3 rfl (Or.inl rfl) (pa_cons (pv 0) (pa_cons (pv 1) (pa_cons (pv 2) pa_nil))))))))), ?_⟩
    obtain ⟨xs, e, lx⟩ := ps_at hd
    have l4 : st.len ≤ 4 := by cases st <;> simp [Ps.len]
    refine ⟨_, rfl, p, st.w, xs, rfl, e, by omega, ?_⟩
    refine ⟨_, rfl, rfl, _, rfl, iteF ⟨_, rfl, st.w, _, rfl, rfl, l2, _, rfl, iteF ⟨_, rfl, p, _, rfl, .inr (SqT.of e), _, rfl, lA, st.w, _, rfl, rfl, l1, rfl, _, rfl, ?_⟩⟩⟩
    rw [List.length_cons, lx, decide_eq_true rfl]
    refine iteF ⟨_, rfl, bA, st.w, _, rfl, rfl, g1, ?_⟩
    exact ⟨g, spBeh st.w, rfl, if_pos rfl, _, rfl, _, rfl, _, rfl, D0, kvs, os, cv, p, ps, qs, st, rfl, hD0, hO, wO, hL, cp, hd, ld, rfl, k⟩
end
end
end K20
set_option Elab.async false
set_option linter.all false
set_option maxRecDepth 100000
set_option maxHeartbeats 4000000
namespace K20
open PySem PySem.Spec PyProof.Rows L2 Lc
theorem erase_perm {α : Type} : ∀ {l : List α} {k : Nat} {y : α}, l[k]? = some y → (y :: l.eraseIdx k).Perm l
  | [], k, y, h => by simp at h
  | a :: l, 0, y, h => by
    have e : a = y := by simpa using h
    subst e
    exact List.Perm.refl _
  | a :: l, k + 1, y, h => by
    have ih := erase_perm (l := l) (k := k) (y := y) (by simpa using h)
    show (y :: a :: l.eraseIdx k).Perm (a :: l)
    exact (List.Perm.swap a y _).trans (ih.cons a)
theorem map_er {α β : Type} (f : α → β) : ∀ (l : List α) (k : Nat), (l.map f).eraseIdx k = (l.eraseIdx k).map f
  | [], k => by cases k <;> rfl
  | a :: l, 0 => rfl
  | a :: l, k + 1 => by
    show f a :: (l.map f).eraseIdx k = f a :: (l.eraseIdx k).map f
    rw [map_er f l k]
def spPk : Sp := fun vs H Q _ => ∃ (t c L : Addr) (ss : List Str) (many : Int), vs = [.ref t, .ref L, .int many] ∧ TapeL c H t ∧ H L = some (.lst (vS ss)) ∧ ss.Nodup ∧ ss.length ≤ 8 ∧ 1 ≤ many ∧ many ≤ 8 ∧
  ∀ (G : Addr) (gs : List Str) (H' : Hp), H' G = some (.lst (vS gs)) → H G = none → (∀ x ∈ gs, x ∈ ss) → gs.Nodup → (ss ≠ [] → gs ≠ []) → (gs.length : Int) ≤ many → TapeL c H' t → SameB t H H' → Q (.ref G) H'
theorem seq_ix {n : Nat} {d : Int} (h0 : 0 ≤ d) (h1 : d < n) : seqIndex? d n = some d.toNat := by
  refine (ixN_seq (n := n) (i := d) (j := d.toNat) ?_).1
  unfold ixN
  rw [if_pos h0, if_pos h1]
section
variable {P : Program} {w : World} {K : PySem.W.Frag} {mg : Str → Option Value} {base : Heap} {f : Addr} {fd : FuncData}
abbrev sPk : Stmt := top 133
abbrev nPk : List Str := ["_law_tape_here", "_law_items", "_law_many", "_law_rest", "_law_got", "_law_k"]
abbrev pPk : List Str := ["_law_tape_here", "_law_items", "_law_many"]
theorem scPk : FnScope nPk pPk (defScope sPk) := ⟨rfl, rfl, rfl, by decide +kernel, rfl, by decide +kernel, by decide +kernel⟩
section
variable {fA_ : Addr} {fdA_ : FuncData}
theorem ok_Pk (F : Fun K "_law_pick" "_law_pick" sPk f fd) (T : Bt mg)
    (GA_ : FnOk P w K mg base CX0 1 fA_ fdA_ ["_law_tape_here", "_law_many"] (spDrawL)) (mA_ : mg "_law_draw" = some (.ref fA_)) (kA_ : PySem.W.keepIn K (.ref fA_) = true) (bA_ : Binds K fdA_ ["_law_tape_here", "_law_many"] []) : FnOk P w K mg base CX0 2 f fd pPk (spPk) := by
  refine F.ok scPk (fun vs H Q E h => ?_) (fun cdv A outer s H vs Q E hr h => ?_)
  · obtain ⟨t, c, L, ss, many, rfl, _⟩ := h
    rfl
  · obtain ⟨t, c, L, ss, many, rfl, hT, hL, nd, l8, m1, m8, k⟩ := h
    have hrA_ : Room (1) _ := hr.mono (by first | decide | omega)
    refine ⟨_, (pss_cons (ps_set (i := 3) scPk.nd rfl (Or.inl rfl) (pe_callTy call_list_of (by rfl) T.list boot_list (pa_cons (pv 1) pa_nil)))
      (pss_cons (ps_set (i := 4) scPk.nd rfl (Or.inl rfl) (pe_lst pa_nil))
      (pss_cons (ps_for PassesOwn.never rfl (pi_range1 (by rfl) T.range (pa_cons (pe_callB (call_min2 rfl) (by rfl) T.min (by decide +kernel) (pa_cons (pe_callB call_len_seq (by rfl) T.len PySem.boot_len (pa_cons (pv 3) pa_nil)) (pa_cons (pv 2) pa_nil))) pa_nil)) (pg_name (i := 5) scPk.nd rfl (.inl rfl)) (pss_one (ps_if (PW.pt (pw_or (pt_cmpR op_eq (pv 5) pe_int (nomark _)) (pw_or1 (pt_cmpR op_gt (pe_call GA_ hrA_ (by rfl) mA_ kA_ bA_ .nil pass0 (pa_cons (pv 0) (pa_cons pe_int pa_nil))) pe_int (nomark _))))) (pss_one (ps_expr (pe_bm PySem.F.plainAttrs_list PySem.F.slot_list_append PySem.F.type_list_append mt_append (pv 4) (pa_cons (pe_bm PySem.F.plainAttrs_list PySem.F.slot_list_pop PySem.F.type_list_pop mt_popAt (pv 3) (pa_cons (pe_call GA_ hrA_ (by rfl) mA_ kA_ bA_ .nil pass0 (pa_cons (pv 0) (pa_cons (pe_callB call_len_seq (by rfl) T.len PySem.boot_len (pa_cons (pv 3) pa_nil)) pa_nil))) pa_nil)) pa_nil)))) pss_nil)))
      (pss_one (ps_ret (pv 4)))))), ?_⟩
    have two : 2 ≤ sizeLine := by decide
    have one : 1 ≤ sizeLine := by decide
    have three : 3 ≤ sizeLine := by decide
    have four : 4 ≤ sizeLine := by decide
    have nLt := ne_tape hT.tape hL
    refine ⟨_, rfl, L, _, rfl, .inl (SqL.of hL), fun R hR => ⟨Nat.zero_le _, fun G hG => ?_⟩⟩
    have zR := Same.upd (o := .lst (vS ss)) hR
    have zG := Same.upd (o := .lst []) hG
    have gG := Same.gone zR hG
    have nRt := hT.tape.ne hR
    have nGt := hT.tape.ne gG
    obtain ⟨ys, hc⟩ := hT.list
    have nRc : R ≠ c := Ne.symm (ne_of_none hc hR)
    have nGc : G ≠ c := Ne.symm (ne_of_none hc gG)
    have eR0 : upd H R (.lst (vS ss)) R = some (.lst (vS ss)) := upd_same
    have nRG : R ≠ G := ne_of_none eR0 hG
    have eR1 := zG _ _ eR0
    have eG1 : upd (upd H R (.lst (vS ss))) G (.lst []) G = some (.lst []) := upd_same
    have z2 := zR.trans zG
    have T2 := hT.same z2
    generalize upd (upd H R (.lst (vS ss))) G (.lst []) = H2 at eR1 eG1 z2 T2 ⊢
    clear zG eR0 zR
    refine ⟨_, rfl, R, _, rfl, .inl (SqL.of eR1), _, rfl, _, _, rfl, ?_⟩
    rw [List.length_map]
    generalize hn : (if many < (ss.length : Int) then many else (ss.length : Int)) = n
    have n1 : n ≤ many ∧ n ≤ ss.length ∧ 0 ≤ n ∧ (ss ≠ [] → 0 < n) := by
      have : ss ≠ [] → 0 < ss.length := fun h => List.length_pos_iff.mpr h
      by_cases q : many < (ss.length : Int)
      · rw [if_pos q] at hn; omega
      · rw [if_neg q] at hn
        refine ⟨by omega, by omega, by omega, fun h => ?_⟩
        have := this h
        omega
    clear hn
    refine ⟨n, rfl, by omega, by omega, for_range (n := n.toNat) (fun i σ H' => (∃ (x5 : Option V) (rs gs : List Str), σ = [some (.ref t), some (.ref L), some (.int many), some (.ref R), some (.ref G), x5] ∧ H' R = some (.lst (vS rs)) ∧ H' G = some (.lst (vS gs)) ∧ (gs ++ rs).Nodup ∧ (∀ x ∈ gs ++ rs, x ∈ ss) ∧ gs.length + rs.length = ss.length ∧ gs.length ≤ i ∧ (0 < i → gs ≠ [])) ∧ TapeL c H' t ∧ SameB t H H')
      ⟨⟨none, ss, [], rfl, eR1, eG1, nd, fun x hx => hx, Nat.zero_add _, Nat.le_refl _, fun h => absurd h (Nat.lt_irrefl 0)⟩, T2, Same.b t z2⟩ ?_ ?_⟩
    · clear eR1 eG1 T2
      rintro i σ H3 hi ⟨⟨x5, rs, gs, rfl, eR, eG, pnd, pin, len, gl, ge⟩, T3, S3⟩
      refine ⟨_, rfl, rfl, _, rfl, ?_⟩
      by_cases z : i = 0
      · rw [show decide (V.int ((0 : Int) + (i : Int)) = V.int 0) = true by rw [z]; rfl]
        refine iteT (iteT ?_)
        refine ⟨_, rfl, .inl ⟨rfl, _, SqL.of eG⟩, _, rfl, .inl ⟨rfl, _, SqL.of eR⟩, _, rfl, _, rfl, R, _, rfl, .inl (SqL.of eR), t, c, _, rfl, T3, by rw [List.length_map]; omega, big1000 (by omega) (by rw [List.length_map]; omega), fun d Hd d0 d1 Td Sd => ?_⟩
        rw [List.length_map] at d1
        have eR2 := Sd _ _ nRt eR
        have eG2 := Sd _ _ nGt eG
        have hd : d.toNat < rs.length := by omega
        obtain ⟨y, ey⟩ : ∃ y, rs[d.toNat]? = some y := ⟨_, List.getElem?_eq_getElem hd⟩
        have pm := erase_perm ey
        refine ⟨R, _, d, d.toNat, .str y, rfl, rfl, eR2, by omega, by omega, seq_ix d0 (by rw [List.length_map]; omega), by rw [List.getElem?_map, ey]; rfl, G, _, _, rfl, rfl, by rw [upd_ne (Ne.symm nRG)]; exact eG2, by rw [List.length_map]; exact lt_size (by omega), ?_⟩
        rw [map_er]
        have er := List.length_eraseIdx_of_lt hd
        refine ⟨⟨_, rs.eraseIdx d.toNat, gs ++ [y], rfl, by rw [upd_ne nRG, upd_same], by rw [upd_same]; unfold vS; rw [List.map_append]; rfl, ?_, ?_, by rw [List.length_append]; show _ + 1 + _ = _; omega, by rw [List.length_append]; show _ + 1 ≤ _; omega, fun _ => by simp⟩, (Td.upd nRt nRc).upd nGt nGc, ?_⟩
        · rw [List.append_assoc]
          exact pnd.perm ((List.Perm.append_left gs pm).symm)
        · intro x hx
          refine pin x ?_
          rw [List.append_assoc] at hx
          exact (List.Perm.append_left gs pm).mem_iff.mp hx
        · intro b o n e
          rw [upd_ne (fun z => by rw [z, gG] at e; cases e), upd_ne (fun z => by rw [z, hR] at e; cases e)]
          exact (S3.trans Sd) b o n e
      · rw [show decide (V.int ((0 : Int) + (i : Int)) = V.int 0) = false from decide_eq_false (fun h => z (by injection h with h; omega))]
        refine iteF ⟨_, rfl, t, c, _, rfl, T3, by decide, big1000 (by decide) (by decide), fun e He e0 e3 T4 S4 => ?_⟩
        replace eR := S4 _ _ nRt eR
        replace eG := S4 _ _ nGt eG
        have S34 := S3.trans S4
        refine ⟨_, _, rfl, rfl, _, rfl, ite2 (fun _ => ?_) (fun _ => ⟨⟨_, rs, gs, rfl, eR, eG, pnd, pin, len, by omega, fun _ => ge (by omega)⟩, T4, S34⟩)⟩
        refine ⟨_, rfl, .inl ⟨rfl, _, SqL.of eG⟩, _, rfl, .inl ⟨rfl, _, SqL.of eR⟩, _, rfl, _, rfl, R, _, rfl, .inl (SqL.of eR), t, c, _, rfl, T4, by rw [List.length_map]; omega, big1000 (by omega) (by rw [List.length_map]; omega), fun d Hd d0 d1 Td Sd => ?_⟩
        rw [List.length_map] at d1
        have eR2 := Sd _ _ nRt eR
        have eG2 := Sd _ _ nGt eG
        have hd : d.toNat < rs.length := by omega
        obtain ⟨y, ey⟩ : ∃ y, rs[d.toNat]? = some y := ⟨_, List.getElem?_eq_getElem hd⟩
        have pm := erase_perm ey
        refine ⟨R, _, d, d.toNat, .str y, rfl, rfl, eR2, by omega, by omega, seq_ix d0 (by rw [List.length_map]; omega), by rw [List.getElem?_map, ey]; rfl, G, _, _, rfl, rfl, by rw [upd_ne (Ne.symm nRG)]; exact eG2, by rw [List.length_map]; exact lt_size (by omega), ?_⟩
        rw [map_er]
        have er := List.length_eraseIdx_of_lt hd
        refine ⟨⟨_, rs.eraseIdx d.toNat, gs ++ [y], rfl, by rw [upd_ne nRG, upd_same], by rw [upd_same]; unfold vS; rw [List.map_append]; rfl, ?_, ?_, by rw [List.length_append]; show _ + 1 + _ = _; omega, by rw [List.length_append]; show _ + 1 ≤ _; omega, fun _ => by simp⟩, (Td.upd nRt nRc).upd nGt nGc, ?_⟩
        · rw [List.append_assoc]
          exact pnd.perm ((List.Perm.append_left gs pm).symm)
        · intro x hx
          refine pin x ?_
          rw [List.append_assoc] at hx
          exact (List.Perm.append_left gs pm).mem_iff.mp hx
        · intro b o n e
          rw [upd_ne (fun z => by rw [z, gG] at e; cases e), upd_ne (fun z => by rw [z, hR] at e; cases e)]
          exact (S34.trans Sd) b o n e
    · rintro σ H3 ⟨⟨x5, rs, gs, rfl, eR, eG, pnd, pin, len, gl, ge⟩, T3, S3⟩
      exact ⟨_, rfl, k G gs H3 eG gG (fun x hx => pin x (List.mem_append_left _ hx)) (List.nodup_append.mp pnd).1 (fun h => ge (by have := n1.2.2.2 h; omega)) (by omega) T3 S3⟩
end
end
end K20
set_option Elab.async false
set_option linter.all false
set_option maxRecDepth 100000
set_option maxHeartbeats 4000000
namespace Lc
open PySem PySem.Spec PyProof.Rows L2
/-! ## dicts whose keys are tuples of data -/
mutual
def nkD : PyData → NestedKey
  | .none => .none
  | .bool b => .num (if b = true then 1 else 0)
  | .int i => .num i
  | .str x => .text x
  | .tuple ds => .tup (nkDs ds)
  | .list _ => .none
  | .dict _ => .none
def nkDs : List PyData → List NestedKey
  | [] => []
  | d :: ds => nkD d :: nkDs ds
end
mutual
def keyD : PyData → Bool
  | .none => true
  | .bool _ => true
  | .int _ => true
  | .str _ => true
  | .tuple ds => keyDs ds
  | .list _ => false
  | .dict _ => false
def keyDs : List PyData → Bool
  | [] => true
  | d :: ds => keyD d && keyDs ds
end
mutual
theorem reads_nested {h : Heap} : ∀ (d : PyData) (v : Value) (as : List Addr), keyD d = true → Reads h v d as → NestedIs h (nkD d) v
  | .none, _, _, _, r => by cases r; exact .none
  | .bool b, _, _, _, r => by cases r; exact .bool rfl
  | .int i, _, _, _, r => by cases r; exact .int _ _
  | .str x, _, _, _, r => by cases r; exact .text _ _
  | .tuple ds, _, _, k, r => by
    cases r with
    | tuple h1 h2 h3 h4 => exact .tup h1 h2 h3 (reads_nesteds ds _ _ k h4)
  | .list _, _, _, k, _ => by cases k
  | .dict _, _, _, k, _ => by cases k
theorem reads_nesteds {h : Heap} : ∀ (ds : List PyData) (vs : List Value) (as : List Addr), keyDs ds = true → ReadsAll h vs ds as → NestedAll h (nkDs ds) vs
  | [], _, _, _, r => by cases r; exact .nil
  | d :: ds, _, _, k, r => by
    have k : (keyD d && keyDs ds) = true := k
    rw [Bool.and_eq_true] at k
    cases r with
    | cons r1 r2 => exact .cons (reads_nested d _ _ k.1 r1) (reads_nesteds ds _ _ k.2 r2)
end
mutual
theorem keyD_flat : ∀ (d : PyData), keyD d = true → d.hasDict = false
  | .none, _ => rfl
  | .bool _, _ => rfl
  | .int _, _ => rfl
  | .str _, _ => rfl
  | .tuple ds, k => by
    rw [PyData.hasDict]
    exact keyDs_flat ds k
  | .list _, k => by cases k
  | .dict _, k => by cases k
theorem keyDs_flat : ∀ (ds : List PyData), keyDs ds = true → PyData.hasDictAll ds = false
  | [], _ => rfl
  | d :: ds, k => by
    have k : (keyD d && keyDs ds) = true := k
    rw [Bool.and_eq_true] at k
    rw [PyData.hasDictAll, keyD_flat d k.1, keyDs_flat ds k.2]
    rfl
end
/-- at b stands the key k -/
def KeyN (H : Hp) (b : Addr) (k : NestedKey) : Prop := ∃ d, Dh H (.ref b) d ∧ keyD d = true ∧ nkD d = k ∧ k.depth ≤ 8
theorem KeyN.same {H H' : Hp} {b : Addr} {k : NestedKey} (x : KeyN H b k) (s : Same H H') : KeyN H' b k := let ⟨d, h, r⟩ := x; ⟨d, h.same s, r⟩
abbrev NkE := NestedKey × Addr × V
def valN : List NkE → NestedKey → Option V
  | [], _ => none
  | e :: L, k => if e.1 = k then some e.2.2 else valN L k
abbrev RelN : List NkE → List (NestedKey × Addr × Value) → Prop := Paired fun (p : NkE) (q : NestedKey × Addr × Value) => p.1 = q.1 ∧ p.2.1 = q.2.1 ∧ RelV p.2.2 q.2.2
def DnO (P : Program) (w : World) (a : Addr) (L : List NkE) : HO := .ext fun h => (a == sysModules) = false ∧ L.length ≤ sizeLine ∧ ∃ xs : List (NestedKey × Addr × Value), RelN L xs ∧
  ∃ o es ep, h.get? a = some o ∧ o.ExactDict ∧ o.data = .dict es ep ∧ es.toList = xs.map (entryOfKey (nestedKind P w)) ∧ (xs.map (·.1)).Nodup
/-- the dict of L stands at a (an empty one of ours is one too) -/
def DnAt (P : Program) (w : World) (H : Hp) (a : Addr) (L : List NkE) : Prop := H a = some (DnO P w a L) ∨ (L = [] ∧ H a = some (.dK []))
theorem DnAt.same {P : Program} {w : World} {H H' : Hp} {a : Addr} {L : List NkE} (x : DnAt P w H a L) (s : Same H H') : DnAt P w H' a L := x.imp (s _ _) fun ⟨e, h⟩ => ⟨e, s _ _ h⟩
theorem DnAt.ne {P : Program} {w : World} {H : Hp} {a b : Addr} {L : List NkE} {o : HO} (x : DnAt P w H a L) (e : H b = some o) (n : (∀ φ, o ≠ .ext φ) ∧ ∀ kvs, o ≠ .dK kvs) : a ≠ b := by
  rcases x with h | ⟨_, h⟩
  · exact ne_of h e fun z => n.1 _ z.symm
  · exact ne_of h e fun z => n.2 _ z.symm
theorem DnAt.ex {P : Program} {w : World} {H : Hp} {a : Addr} {L : List NkE} (x : DnAt P w H a L) : ∃ u, H a = some u ∧ (∀ xs, u ≠ .tup xs) ∧ (∀ xs, u ≠ .lst xs) ∧ ∀ c d f, u ≠ .ins c d f := by
  rcases x with h | ⟨_, h⟩
  · exact ⟨_, h, nofun, nofun, nofun⟩
  · exact ⟨_, h, nofun, nofun, nofun⟩
theorem same_free {H H' : Hp} {a : Addr} (s : Same H H') (h : H' a = none) : H a = none := by
  cases e : H a with
  | none => rfl
  | some o => rw [s _ _ e] at h; cases h
theorem relN_val : ∀ {L : List NkE} {xs : List (NestedKey × Addr × Value)} (k : NestedKey), RelN L xs → RelO (valN L k) ((atKey xs k).map (·.2))
  | _, _, _, .nil => trivial
  | _, _, k, .cons (a := p) (b := q) (l₁ := ps) (l₂ := qs) ⟨e1, e2, e3⟩ t => by
    show RelO (if p.1 = k then some p.2.2 else valN ps k) _
    by_cases z : p.1 = k
    · have z' : q.1 = k := e1 ▸ z
      rw [if_pos z]
      have q' : atKey (q :: qs) k = some q.2 := by simp [atKey, z']
      rw [q']
      exact e3
    · have z' : ¬ q.1 = k := e1 ▸ z
      rw [if_neg z]
      have q' : atKey (q :: qs) k = atKey qs k := by simp [atKey, z']
      rw [q']
      exact relN_val k t
theorem relN_nil {xs : List (NestedKey × Addr × Value)} (r : RelN [] xs) : xs = [] := by cases r; rfl
section
variable {X : Cx} {pins : List (Addr × Obj)} {σ : L2.St} {H : Hp} {s : Shared}
theorem KeyN.is {b : Addr} {k : NestedKey} (I : Inv X pins σ H s) (x : KeyN H b k) : (nestedKind X.prog X.w).is s.heap k b := by
  obtain ⟨d, h, kd, rfl, dp⟩ := x
  obtain ⟨as, r⟩ := Dp.reads I _ _ (.ref b) (h.dp (keyD_flat d kd)) rfl
  exact ⟨reads_nested d _ as kd r, dp⟩
/-- what stands there -/
theorem dn_of {a : Addr} {L : List NkE} (I : Inv X pins σ H s) (x : DnAt X.prog X.w H a L) : (a == sysModules) = false ∧ L.length ≤ sizeLine ∧ ∃ xs : List (NestedKey × Addr × Value), RelN L xs ∧
    ∃ o es ep, s.heap.get? a = some o ∧ o.ExactDict ∧ o.data = .dict es ep ∧ es.toList = xs.map (entryOfKey (nestedKind X.prog X.w)) ∧ (xs.map (·.1)).Nodup := by
  rcases x with e | ⟨rfl, e⟩
  · exact (I.hok a _ e).1
  · obtain ⟨z, hs, vs, r, o, es, ep, ho, hx, hd, _, hp, hn⟩ := (show ObjOk X.prog X.w H s.heap a (.dK []) from I.hok a _ e)
    cases r
    refine ⟨hs, Nat.zero_le _, [], .nil, o, es, ep, ho, hx, hd, ?_, List.nodup_nil⟩
    generalize es.toList = l at hp
    cases hp
    rfl
theorem dn_dict {a : Addr} {L : List NkE} (I : Inv X pins σ H s) (x : DnAt X.prog X.w H a L) (hk : ∀ e ∈ L, KeyN H e.2.1 e.1) : (a == sysModules) = false ∧ L.length ≤ sizeLine ∧ ∃ xs : List (NestedKey × Addr × Value), RelN L xs ∧ s.heap.DictOfH (nestedKind X.prog X.w) a xs := by
  obtain ⟨h1, h2, xs, r, o, es, ep, ho, hx, hd, he, hn⟩ := dn_of I x
  refine ⟨h1, h2, xs, r, o, es, ep, ho, hx, hd, he, fun y hy => ?_, hn⟩
  have all : ∀ {L : List NkE} {xs : List (NestedKey × Addr × Value)}, RelN L xs → (∀ e ∈ L, KeyN H e.2.1 e.1) → ∀ y ∈ xs, (nestedKind X.prog X.w).is s.heap y.1 y.2.1 := by
    intro L xs q
    induction q with
    | nil => exact fun _ _ h => nomatch h
    | @cons p q ps qs r _ ih =>
      intro k y hy
      obtain ⟨e1, e2, _⟩ := r
      rcases List.mem_cons.mp hy with rfl | hy
      · have z := (k p List.mem_cons_self).is I
        rw [e1, e2] at z
        exact z
      · exact ih (fun e he => k e (List.mem_cons_of_mem _ he)) y hy
  exact all r hk y hy
theorem dnO_new {P : Program} {w : World} {H' : Hp} {h' : Heap} {a : Addr} {L : List NkE} {xs : List (NestedKey × Addr × Value)} (hs : (a == sysModules) = false) (z : L.length ≤ sizeLine) (r : RelN L xs) (dd : h'.DictOfH (nestedKind P w) a xs) : ObjOk P w H' h' a (DnO P w a L) := by
  obtain ⟨o, es, ep, ho, hx, hd, he, _, hn⟩ := dd
  refine ⟨⟨hs, z, xs, r, o, es, ep, ho, hx, hd, he, hn⟩, ⟨o, ho⟩, fun h1 h2 p k => ?_⟩
  obtain ⟨c1, c2, xs, c3, o, es, ep, ho, c4⟩ := p
  exact ⟨c1, c2, xs, c3, o, es, ep, k o ho, c4⟩
theorem dn_mut {P : Program} {w : World} {a : Addr} {L : List NkE} (x : DnAt P w H a L) : Mut (H a) := by
  rcases x with e | ⟨_, e⟩ <;> rw [e] <;> trivial
/-! ### d.setdefault(k, x) -/
def rSetdN (P : Program) (w : World) : V → List V → Hp → VK → Prop := fun x xs H Q => ∃ (a b : Addr) (L : List NkE) (k : NestedKey) (y : V), x = .ref a ∧ xs = [.ref b, y] ∧ DnAt P w H a L ∧ KeyN H b k ∧ (∀ e ∈ L, KeyN H e.2.1 e.1) ∧ L.length < sizeLine ∧
  (∀ v, valN L k = some v → Q v H) ∧ (valN L k = none → Q y (upd H a (DnO P w a (L ++ [(k, b, y)]))))
theorem storedH_none {K : Type} [DecidableEq K] : ∀ {xs : List (K × Addr × Value)} {k : K} {a : Addr} {v : Value}, atKey xs k = none → storedH xs k a v = xs ++ [(k, a, v)] := by
  intro xs k a v e
  unfold storedH
  rw [e]
  rfl
theorem mt_setdN (hu : X.A.units + 16 < cLine) : MtR X "dict.setdefault" (rSetdN X.prog X.w) := by
  intro pins s σ H x xs v us Q I rx rxs h
  obtain ⟨a, b, L, k, y, rfl, rfl, da, kb, ks, lt, q1, q2⟩ := h
  cases rx
  obtain ⟨u1, u2, rfl, r1, r2⟩ := vals2 rxs
  cases r1
  obtain ⟨hs, z, xs', rel, dd⟩ := dn_dict I da ks
  have hz : xs'.length ≤ sizeLine := by rw [← Paired.length rel]; exact z
  have rm : (nestedKind X.prog X.w).room X.A.in1 := by
    show X.A.in1.units + 8 < cLine
    have := X.A.in1_units
    omega
  refine call_setdefault_heap (knd := nestedKind X.prog X.w) (k := k) rm (kb.is I) hs dd (fun p hp => ?_) (fun hn h' dd' sb => ?_) hz
  · have r := relN_val k rel
    rw [hp] at r
    cases ev : valN L k with
    | none => rw [ev] at r; exact (show False from r).elim
    | some v0 =>
      rw [ev] at r
      exact ⟨v0, H, I.tok _, r, q1 v0 ev⟩
  · have r := relN_val k rel
    rw [hn] at r
    have ev : valN L k = none := by
      cases ev : valN L k with
      | none => rfl
      | some v0 => rw [ev] at r; exact (show False from r).elim
    rw [storedH_none hn] at dd'
    have rel' : RelN (L ++ [(k, b, y)]) (xs' ++ [(k, b, u2)]) := Paired.snoc rel ⟨rfl, rfl, r2⟩
    have hl : (L ++ [(k, b, y)]).length ≤ sizeLine := by
      rw [List.length_append]
      exact lt
    have he : ∃ q, h'.get? a = some q := by
      obtain ⟨o, _, _, ho, _⟩ := id dd'
      exact ⟨o, ho⟩
    exact ⟨y, _, d_write I (dn_mut da) sb he (dnO_new hs hl rel' dd'), r2, q2 ev⟩
/-! ### d.get(k, x) -/
def rGetN (P : Program) (w : World) : V → List V → Hp → VK → Prop := fun x xs H Q => ∃ (a b : Addr) (L : List NkE) (k : NestedKey) (y : V), x = .ref a ∧ xs = [.ref b, y] ∧ DnAt P w H a L ∧ KeyN H b k ∧ (∀ e ∈ L, KeyN H e.2.1 e.1) ∧ Q ((valN L k).getD y) H
theorem mt_getN (hu : X.A.units + 16 < cLine) : MtR X "dict.get" (rGetN X.prog X.w) := by
  intro pins s σ H x xs v us Q I rx rxs h
  obtain ⟨a, b, L, k, y, rfl, rfl, da, kb, ks, q⟩ := h
  cases rx
  obtain ⟨u1, u2, rfl, r1, r2⟩ := vals2 rxs
  cases r1
  obtain ⟨hs, z, xs', rel, dd⟩ := dn_dict I da ks
  have rm : (nestedKind X.prog X.w).room X.A.in1 := by
    show X.A.in1.units + 8 < cLine
    have := X.A.in1_units
    omega
  refine call_meetsIn F.slot_dict_get dd.typeIs F.entry_dict_get (F.args_dict_get_3 _ _ _) (meetsH_dict_get_default (nestedKind X.prog X.w) a b hs u2) ⟨rm, k, xs', kb.is I, dd, ?_⟩
  have r := relN_val k rel
  refine ⟨_, H, I.tok _, ?_, q⟩
  cases ev : valN L k with
  | none =>
    rw [ev] at r
    cases eq : (atKey xs' k).map (·.2) with
    | none => exact r2
    | some p => rw [eq] at r; exact (show False from r).elim
  | some v0 =>
    rw [ev] at r
    cases eq : (atKey xs' k).map (·.2) with
    | none => rw [eq] at r; exact (show False from r).elim
    | some p => rw [eq] at r; exact r
/-! ### methods of such a dict -/
theorem dnT {a : Addr} {L : List NkE} (I : Inv X pins σ H s) (x : DnAt X.prog X.w H a L) : s.TypeIs (.ref a) "dict" ∧ ∀ b : Addr, Value.ref a = Value.ref b → ∃ ob, s.heap.get? b = some ob ∧ ob.dict = none := by
  obtain ⟨_, _, _, _, o, _, _, ho, hx, _⟩ := dn_of I x
  exact ⟨⟨o, ho, hx.1⟩, fun b e => by cases e; exact ⟨o, ho, hx.2.1⟩⟩
def tBMN (P : Program) (w : World) (r : V → List V → Hp → VK → Prop) (to : TE) (t : TA) : TE := fun σ H Q => to σ H fun x H1 => (∃ a L, x = .ref a ∧ DnAt P w H1 a L) ∧ t σ H1 fun xs H2 => r x xs H2 Q
theorem pe_bmN {o e : Expr} {es : List Expr} {to : TE} {t : TA} {name : Str} {apos cpos : Pos} {id : String} {r : V → List V → Hp → VK → Prop} (slot : Slot "dict" name id) (hty : typeOf (.builtin id) = pure (.type "method_descriptor")) (hm : MtR X id r) (ho : PE X o to) (ha : PA X (e :: es) t)
    (hbase : attributeBase o name X.env (eval o X.env) = eval o X.env := by rfl)
    (hfew : ((backTo cpos (starEach (e :: es) X.env)).all (fun x => !x.1) && (backToKw cpos (keywordEach [] X.env)).all (fun x => x.1.isSome)
      && decide ((e :: es).length + ([] : List Keyword).length + (if ([] : List Keyword).isEmpty then 0 else 1) < 30)) = true := by rfl)
    (hline : (apos.endLine == cpos.line) = true := by rfl) (hs : starEach (e :: es) X.env = (false, eval e X.env) :: starEach es X.env := by rfl) (hplain : (backTo cpos (starEach es X.env)).any (·.1) = false := by rfl) :
    PE X (.Call (.Attribute o name apos) (e :: es) [] cpos) (tBMN X.prog X.w r to t) := by
  refine ⟨fun pins s σ H Q I h => ?_⟩
  refine wpAny_Call_method_late hbase hfew hline rfl (thn (ho.run pins s σ H _ I h) fun v s1 ⟨x, H1, I1, r1, ⟨a, L, ex, da⟩, q1⟩ => ?_)
  subst ex
  obtain rfl : v = Value.ref a := r1
  obtain ⟨h1, h2⟩ := dnT I1 da
  refine ⟨"dict", id, PySem.F.plainAttrs_dict, slot, hty, h1, h2, ?_⟩
  have hA := ha.run cpos pins s1 σ H1 _ I1 q1
  rw [hs] at hA ⊢
  refine Calls.callWith_builtin (by show (false || (backTo cpos (starEach es X.env)).any (·.1)) = false; rw [hplain] <;> rfl) (Calls.evalArgs_plain ?_)
  exact thn hA fun us s2 ⟨vs, H2, I2, r2, q2⟩ => hm pins s2 σ H2 (.ref a) vs (.ref a) us Q I2 rfl r2 q2
/-! ### for k, v in d.items() -/
def ItN (P : Program) (w : World) (d : Addr) (o : Obj) (L : List NkE) : It :=
  ⟨fun i H => H d = some (.frz o (DnO P w d L)) ∧ i < L.length, fun i H x H' => ∃ T k b v, L[i]? = some (k, b, v) ∧ x = .ref T ∧ H T = none ∧ H' = upd H T (.tup [.ref b, v]), fun i H => H d = some (.frz o (DnO P w d L)) ∧ L.length ≤ i⟩
theorem frz_dn {d : Addr} {o : Obj} {L : List NkE} (I : Inv X pins σ H s) (e : H d = some (.frz o (DnO X.prog X.w d L))) : ∃ es ep, DT.Raw s.heap d es ep ∧ s.heap.get? d = some o ∧ o.data = .dict es ep ∧ es.size = L.length ∧
    ∀ (i : Nat) (y : NkE), L[i]? = some y → ∃ en : DictEntry, es[i]? = some en ∧ en.key = .ref y.2.1 ∧ RelV y.2.2 en.val := by
  obtain ⟨hd, ⟨_, _, xs, rel, o', es, ep, ho, hx, hdt, he, _⟩, _⟩ := (show ObjOk X.prog X.w H s.heap d (.frz o (DnO X.prog X.w d L)) from I.hok d _ e)
  rw [hd] at ho
  cases ho
  have l1 : es.size = xs.length := size_of_entries he
  have l2 : L.length = xs.length := Paired.length rel
  refine ⟨es, ep, ⟨o, hd, hx, hdt⟩, hd, hdt, by omega, fun i y ey => ?_⟩
  obtain ⟨b, hb, e1, e2, e3⟩ := paired_get rel ey
  have q := entry_at he i
  rw [hb] at q
  exact ⟨_, q, by rw [e2]; rfl, e3⟩
theorem turn_itemsN {P : Program} {w : World} {K : PySem.W.Frag} {d : Addr} {o : Obj} {es : Array DictEntry} {ep : Nat} {L : List NkE} {elts : List Expr} {kk : Nat} {tpos : Pos} (it : Addr) (hod : o.data = .dict es ep) :
    Turn P w K (.Tuple elts kk tpos) (ItN P w d o L) [it] it (fun i h => ∃ ok ov, IsItemIter h it d i L.length ep ok ov) where
  mem := by simp
  obj := fun i h st b hb => by
    have e : b = it := by simpa using hb
    subst e
    obtain ⟨ok, ov, e⟩ := st
    exact ⟨_, e, fun v z => nomatch z⟩
  keep := fun i h h' st k => let ⟨ok, ov, e⟩ := st; ⟨ok, ov, k it (by simp) _ e⟩
  item := by
    intro X hP hw hK hc i pins s σ H E I hf st hg
    subst hP hw hK
    obtain ⟨hd, hi⟩ := hg
    obtain ⟨es', ep', raw, hgd, hdt, hsz, ent⟩ := frz_dn I hd
    obtain ⟨rfl, rfl⟩ := dict_ep hod hdt
    obtain ⟨⟨k, b, v⟩, hkv⟩ : ∃ p, L[i]? = some p := ⟨L[i], List.getElem?_eq_getElem hi⟩
    obtain ⟨en, hen, ek, ev⟩ := ent i _ hkv
    obtain ⟨ok, ov, he⟩ := st
    rw [← hsz] at he
    have hi' : i < es'.size := by omega
    have een : es'[i] = en := by
      rw [Array.getElem?_eq_getElem hi'] at hen
      exact Option.some.inj hen
    have hlt : it < s.heap.objs.size := Heap.lt_size he
    refine DT.nextI he raw hi' fun h' ho hT hz hk => ?_
    refine ⟨_, rfl, wpAny_letOwnedTupleGo_items (s := { s with heap := h' }) ho fun h'' he' sb => ?_⟩
    have hT2 : h''.get? s.heap.objs.size = some { cls := .type "tuple", data := .seq #[es'[i].key, es'[i].val] } := (sb.2 _ (Nat.ne_of_gt hlt)).trans hT
    have new : ObjOk X.prog X.w (upd H s.heap.objs.size (.tup [.ref b, v])) h'' s.heap.objs.size (.tup [.ref b, v]) :=
      ⟨by show 2 ≤ sizeLine; decide, [es'[i].key, es'[i].val], .cons (by rw [een, ek]; rfl) (.cons (by rw [een]; exact ev) .nil), ⟨_, hT2, rfl, _, rfl⟩⟩
    have I1 : Inv X pins σ (upd H s.heap.objs.size (.tup [.ref b, v])) { s with heap := h'' } :=
      I.turnedNew (t' := s.toks) (ch := [it]) (fun b ob hb e => (sb.2 b (by simpa using hb)).trans (hk b ob (by simpa using hb) e)) hf (Nat.le_refl _) new
    refine ⟨.ref s.heap.objs.size, _, I1, rfl, ⟨_, k, b, v, hkv, rfl, I.hok.fresh (Nat.le_refl _), rfl⟩, ⟨es'[i].key, es'[i].val, ?_⟩, fun b hb => ?_⟩
    · rw [← hsz]; exact he'
    · have e : b = it := by simpa using hb
      rw [e, upd_ne (Nat.ne_of_lt hlt)]
      exact (hf it (by simp)).1
  done := by
    intro X hP hw hK hc i pins s σ H E I hf st hg
    subst hP hw hK
    obtain ⟨hd, hi⟩ := hg
    obtain ⟨f0, f1, f2, f3, f4, f5⟩ := hf it (by simp)
    obtain ⟨es', ep', raw, hgd, hdt, hsz, ent⟩ := frz_dn I hd
    obtain ⟨rfl, rfl⟩ := dict_ep hod hdt
    obtain ⟨ok, ov, he⟩ := st
    rw [← hsz] at he
    exact DT.endI (I.ok.hd hc) he raw (by omega) fun h' eb => ⟨rfl, I.turned (t' := s.toks) (fun b ob hb e => eb b ob hb e) f0 f1 f3 f4 f5⟩
  self := fun A i s Q E st h => let ⟨_, _, e⟩ := st; PySem.W.kcp_self e h
/-- the dict is locked from here on -/
def iItemsN (P : Program) (w : World) (td : TE) : TI := fun σ H R => td σ H fun x H1 => ∃ d L, x = .ref d ∧ DnAt P w H1 d L ∧ ∀ o, R (ItN P w d o L) (upd H1 d (.frz o (DnO P w d L)))
theorem pi_itemsN {e : Expr} {td : TE} {apos cpos : Pos} {elts : List Expr} {kk : Nat} {tpos : Pos} (he : PE X e td) (hbase : attributeBase e "items" X.env (eval e X.env) = eval e X.env := by rfl) (hline : (apos.endLine == cpos.line) = true := by rfl) :
    PI X (.Tuple elts kk tpos) (.Call (.Attribute e "items" apos) [] [] cpos) (iItemsN X.prog X.w td) := by
  refine ⟨fun pins s σ H R I h => ?_⟩
  refine wpAny_Call_method (T := "dict") (id := "dict.items") hbase rfl hline F.plainAttrs_dict F.slot_dict_items F.type_dict_items (thn (he.run pins s σ H _ I h) fun u s1 ⟨x, H1, I1, rx, d, L, ex, hd, q⟩ => ?_)
  subst ex
  obtain rfl : u = Value.ref d := rx
  obtain ⟨hs, hz, xs, rel, o, es, ep, ho, hx, hdt, hen, hn⟩ := dn_of I1 hd
  have raw : DT.Raw s1.heap d es ep := ⟨o, ho, hx, hdt⟩
  have nd : ∀ a : Addr, Value.ref d = Value.ref a → ∃ ob, s1.heap.get? a = some ob ∧ ob.dict = none := fun a e => by
    cases e
    exact ⟨o, ho, hx.2.1⟩
  have lock : ObjOk X.prog X.w (upd H1 d (.frz o (DnO X.prog X.w d L))) s1.heap d (.frz o (DnO X.prog X.w d L)) := by
    refine ⟨ho, ⟨hs, hz, xs, rel, o, es, ep, ho, hx, hdt, hen, hn⟩, ⟨o, ho⟩, fun h1 h2 p k => ?_⟩
    obtain ⟨c1, c2, xs, c3, o, es, ep, ho, c4⟩ := p
    exact ⟨c1, c2, xs, c3, o, es, ep, k o ho, c4⟩
  have I1' : Inv X pins σ (upd H1 d (.frz o (DnO X.prog X.w d L))) s1 := I1.write (t' := s1.toks) (e := d) (h' := s1.heap) (dn_mut hd) (.inl rfl) (fun b u _ q => q) ⟨o, ho⟩ lock
  have hl : es.size = L.length := by rw [size_of_entries hen]; exact (Paired.length rel).symm
  have I2 : Inv X pins σ (upd H1 d (.frz o (DnO X.prog X.w d L))) { s1 with heap := s1.heap.push { cls := .type "dict_items", data := .fields #[.ref d] } } := I1'.kept (t' := s1.toks) fun b ob q => Heap.get?_push_of_some _ q
  have fin : wpAny (model X.prog X.w) X.A (pyIter (.ref s1.heap.objs.size)) (PIE X pins σ (.Tuple elts kk tpos) R) X.xe { s1 with heap := s1.heap.push { cls := .type "dict_items", data := .fields #[.ref d] } } := by
    refine DT.iterI (s := { s1 with heap := s1.heap.push { cls := .type "dict_items", data := .fields #[.ref d] } }) (v := s1.heap.objs.size) (d := d) (es := es) (ep := ep) ⟨_, Heap.get?_push_size _ rfl, rfl, rfl⟩ (raw.push _) (pi_one (tk := s1.toks) I2 _ (turn_itemsN _ hdt) ⟨.none, .none, ?_⟩ (q o))
    rw [← hl]
    exact Heap.get?_push_size _ rfl
  refine ⟨raw.typeIs, nd, ?_⟩
  show wpAny _ _ (callWith cpos (.builtin "dict.items") [.ref d] [] []) _ X.xe s1
  exact method_meetsIn F.slot_dict_items F.entry_dict_items rfl (PySem.evalArgs_none ⟨rfl, raw.typeIs, F.args_dict_items_1 _, _, DT.meetsItems (es := es) (ep := ep) hs, raw, fin⟩)
end
/-- a list comprehension over the pairs -/
theorem lc_itemsN {P : Program} {w : World} {d : Addr} {o : Obj} {L : List NkE} {g : TG} {tt : TT} {te : TE} {vs : List Nat} {σ : L2.St} {H1 : Hp} {D : Addr} {Qd : Hp → Prop} (Pv : Nat → Hp → Prop) (h0 : Pv 0 (upd H1 D (.lst []))) (hl : ∀ i H, i ≤ L.length → Pv i H → H d = some (.frz o (DnO P w d L)))
    (hs : ∀ i k b v T H, L[i]? = some (k, b, v) → Pv i H → H T = none → g (.ref T) (wipe σ vs) (upd H T (.tup [.ref b, v])) fun σ2 H2 => wipe σ2 vs = wipe σ vs ∧ tt σ2 H2 fun c H3 =>
      if c = true then te σ2 H3 fun y H4 => ∃ acc, H4 D = some (.lst acc) ∧ acc.length < sizeLine ∧ Pv (i + 1) (upd H4 D (.lst (acc ++ [y]))) else Pv (i + 1) H3) (hd : ∀ H, Pv L.length H → Qd H) :
    ∃ W : Nat → Nat → Hp → Prop, (∃ m, W 0 m (upd H1 D (.lst []))) ∧ ∀ i m H, W i m H →
      ((ItN P w d o L).stop i H ∧ Qd H) ∨ ((ItN P w d o L).go i H ∧ ∃ Nx : Hp → Prop, (∀ H', Nx H' → ∃ m', m' < m ∧ W (i + 1) m' H') ∧ ∀ x H', (ItN P w d o L).yld i H x H' → g x (wipe σ vs) H' fun σ2 H2 => wipe σ2 vs = wipe σ vs ∧ tt σ2 H2 fun b H3 =>
        if b = true then te σ2 H3 fun y H4 => ∃ acc, H4 D = some (.lst acc) ∧ acc.length < sizeLine ∧ Nx (upd H4 D (.lst (acc ++ [y]))) else Nx H3) := by
  refine ⟨fun i m H => m = L.length - i ∧ i ≤ L.length ∧ Pv i H, ⟨L.length, by simp, Nat.zero_le _, h0⟩, ?_⟩
  rintro i m H ⟨rfl, hi, p⟩
  have q := hl i H hi p
  by_cases hlt : i < L.length
  · refine .inr ⟨⟨q, hlt⟩, Pv (i + 1), fun H' p' => ⟨L.length - (i + 1), by omega, rfl, hlt, p'⟩, fun x H' y => ?_⟩
    obtain ⟨T, k, b, v, e, rfl, hT, rfl⟩ := y
    exact hs i k b v T H e p hT
  · have e : i = L.length := by omega
    subst e
    exact .inl ⟨⟨q, Nat.le_refl _⟩, hd H p⟩
/-- a loop over the pairs -/
theorem for_itemsN {P : Program} {w : World} {d : Addr} {o : Obj} {L : List NkE} {g : TG} {tb : TS} {D : Ends} {σ : L2.St} {H : Hp} (Pv : Nat → L2.St → Hp → Prop) (h0 : Pv 0 σ H) (hl : ∀ i σ H, i ≤ L.length → Pv i σ H → H d = some (.frz o (DnO P w d L)))
    (hs : ∀ i k b v T σ H, L[i]? = some (k, b, v) → Pv i σ H → H T = none → g (.ref T) σ (upd H T (.tup [.ref b, v])) fun σ2 H2 => tb { D with nx := Pv (i + 1), ct := Pv (i + 1), bk := D.nx } σ2 H2) (hd : ∀ σ H, Pv L.length σ H → D.nx σ H) :
    ∃ W : Nat → Nat → L2.St → Hp → Prop, (∃ m, W 0 m σ H) ∧ ∀ i m σ H, W i m σ H →
      ((ItN P w d o L).stop i H ∧ D.nx σ H) ∨ ((ItN P w d o L).go i H ∧ ∃ N : L2.St → Hp → Prop, (∀ σ' H', N σ' H' → ∃ m', m' < m ∧ W (i + 1) m' σ' H') ∧ ∀ x H', (ItN P w d o L).yld i H x H' → g x σ H' fun σ2 H2 => tb { D with nx := N, ct := N, bk := D.nx } σ2 H2) := by
  refine ⟨fun i m σ H => m = L.length - i ∧ i ≤ L.length ∧ Pv i σ H, ⟨L.length, by simp, Nat.zero_le _, h0⟩, ?_⟩
  rintro i m σ H ⟨rfl, hi, p⟩
  have q := hl i σ H hi p
  by_cases hlt : i < L.length
  · refine .inr ⟨⟨q, hlt⟩, Pv (i + 1), fun σ' H' p' => ⟨L.length - (i + 1), by omega, rfl, hlt, p'⟩, fun x H' y => ?_⟩
    obtain ⟨T, k, b, v, e, rfl, hT, rfl⟩ := y
    exact hs i k b v T σ H e p hT
  · have e : i = L.length := by omega
    subst e
    exact .inl ⟨⟨q, Nat.le_refl _⟩, hd σ H p⟩
/-- a list comprehension over zip of two lists of one length -/
theorem lc_zipL {K : PySem.W.Frag} {a b : Addr} {xs ys : List V} {g : TG} {tt : TT} {te : TE} {vs : List Nat} {σ : L2.St} {H1 : Hp} {D : Addr} {Qd : Hp → Prop} (hl : xs.length = ys.length) (Pv : Nat → Hp → Prop) (h0 : Pv 0 (upd H1 D (.lst []))) (hq : ∀ i H, Pv i H → SqL K H a xs ∧ SqL K H b ys)
    (hs : ∀ (i : Nat) (x y : V) (T : Addr) (H : Hp), xs[i]? = some x → ys[i]? = some y → Pv i H → H T = none → g (.ref T) (wipe σ vs) (upd H T (.tup [x, y])) fun σ2 H2 => wipe σ2 vs = wipe σ vs ∧ tt σ2 H2 fun c H3 =>
      if c = true then te σ2 H3 fun z H4 => ∃ acc, H4 D = some (.lst acc) ∧ acc.length < sizeLine ∧ Pv (i + 1) (upd H4 D (.lst (acc ++ [z]))) else Pv (i + 1) H3) (hd : ∀ H, Pv xs.length H → Qd H) :
    ∃ W : Nat → Nat → Hp → Prop, (∃ m, W 0 m (upd H1 D (.lst []))) ∧ ∀ i m H, W i m H →
      ((Itz K a b).stop i H ∧ Qd H) ∨ ((Itz K a b).go i H ∧ ∃ N : Hp → Prop, (∀ H', N H' → ∃ m', m' < m ∧ W (i + 1) m' H') ∧ ∀ v H', (Itz K a b).yld i H v H' → g v (wipe σ vs) H' fun σ2 H2 => wipe σ2 vs = wipe σ vs ∧ tt σ2 H2 fun c H3 =>
        if c = true then te σ2 H3 fun z H4 => ∃ acc, H4 D = some (.lst acc) ∧ acc.length < sizeLine ∧ N (upd H4 D (.lst (acc ++ [z]))) else N H3) := by
  refine ⟨fun i m H => i + m = xs.length ∧ Pv i H, ⟨xs.length, Nat.zero_add _, h0⟩, ?_⟩
  rintro i m H ⟨em, pv⟩
  obtain ⟨q1, q2⟩ := hq i H pv
  cases m with
  | zero =>
    obtain rfl : i = xs.length := by omega
    exact .inl ⟨⟨xs, ys, q1, q2, .inl (Nat.le_refl _)⟩, hd H pv⟩
  | succ m =>
    have l1 : i < xs.length := by omega
    have l2 : i < ys.length := by omega
    refine .inr ⟨⟨xs, ys, _, _, q1, q2, List.getElem?_eq_getElem l1, List.getElem?_eq_getElem l2⟩, Pv (i + 1), fun H' p' => ⟨m, by omega, by omega, p'⟩, fun v H' yl => ?_⟩
    obtain ⟨T, x', y', rfl, hT, rfl, f1, f2⟩ := yl
    exact hs i x' y' T H (f1 xs q1) (f2 ys q2) pv hT
end Lc
set_option Elab.async false
set_option linter.all false
set_option maxRecDepth 100000
set_option maxHeartbeats 4000000
namespace Lc
open PySem PySem.Spec PyProof.Rows L2
theorem num_dec (a b : Int) : decide (NestedKey.num a = NestedKey.num b) = (a == b) := by
  by_cases h : a = b
  · subst h; simp
  · rw [beq_eq_false_iff_ne.mpr h]
    exact decide_eq_false fun e => h (by injection e)
theorem dec_f {a b : NestedKey} (h : a ≠ b) : decide (a = b) = false := decide_eq_false h
mutual
theorem eqv_nk : ∀ (a b : PyData), keyD a = true → keyD b = true → PyData.eqv a b = decide (nkD a = nkD b)
  | .none, .none, _, _ => by simp [PyData.eqv]
  | .none, .bool _, _, _ => by rw [dec_f (by simp [nkD])]; rfl
  | .none, .int _, _, _ => by rw [dec_f (by simp [nkD])]; rfl
  | .none, .str _, _, _ => by rw [dec_f (by simp [nkD])]; rfl
  | .none, .tuple _, _, _ => by rw [dec_f (by simp [nkD])]; rfl
  | .bool _, .none, _, _ => by rw [dec_f (by simp [nkD])]; rfl
  | .bool a, .bool b, _, _ => by
    show (a == b) = decide (NestedKey.num _ = NestedKey.num _)
    rw [num_dec]
    cases a <;> cases b <;> rfl
  | .bool a, .int b, _, _ => by
    show ((if a then (1 : Int) else 0) == b) = decide (NestedKey.num _ = NestedKey.num _)
    rw [num_dec]
  | .bool _, .str _, _, _ => by rw [dec_f (by simp [nkD])]; rfl
  | .bool _, .tuple _, _, _ => by rw [dec_f (by simp [nkD])]; rfl
  | .int _, .none, _, _ => by rw [dec_f (by simp [nkD])]; rfl
  | .int a, .bool b, _, _ => by
    show (a == (if b then (1 : Int) else 0)) = decide (NestedKey.num _ = NestedKey.num _)
    rw [num_dec]
  | .int a, .int b, _, _ => by
    show (a == b) = decide (NestedKey.num _ = NestedKey.num _)
    rw [num_dec]
  | .int _, .str _, _, _ => by rw [dec_f (by simp [nkD])]; rfl
  | .int _, .tuple _, _, _ => by rw [dec_f (by simp [nkD])]; rfl
  | .str _, .none, _, _ => by rw [dec_f (by simp [nkD])]; rfl
  | .str _, .bool _, _, _ => by rw [dec_f (by simp [nkD])]; rfl
  | .str _, .int _, _, _ => by rw [dec_f (by simp [nkD])]; rfl
  | .str a, .str b, _, _ => by
    show (a == b) = decide (NestedKey.text _ = NestedKey.text _)
    by_cases h : a = b
    · subst h; simp
    · rw [beq_eq_false_iff_ne.mpr h]
      exact (decide_eq_false fun e => h (by injection e)).symm
  | .str _, .tuple _, _, _ => by rw [dec_f (by simp [nkD])]; rfl
  | .tuple _, .none, _, _ => by rw [dec_f (by simp [nkD])]; rfl
  | .tuple _, .bool _, _, _ => by rw [dec_f (by simp [nkD])]; rfl
  | .tuple _, .int _, _, _ => by rw [dec_f (by simp [nkD])]; rfl
  | .tuple _, .str _, _, _ => by rw [dec_f (by simp [nkD])]; rfl
  | .tuple as, .tuple bs, ha, hb => by
    show PyData.eqvAll as bs = decide (NestedKey.tup _ = NestedKey.tup _)
    rw [eqv_nks as bs ha hb]
    by_cases h : nkDs as = nkDs bs
    · rw [h]; simp
    · rw [decide_eq_false h]
      exact (decide_eq_false fun e => h (by injection e)).symm
  | .list _, _, h, _ => by cases h
  | .dict _, _, h, _ => by cases h
  | .none, .list _, _, h => by cases h
  | .bool _, .list _, _, h => by cases h
  | .int _, .list _, _, h => by cases h
  | .str _, .list _, _, h => by cases h
  | .tuple _, .list _, _, h => by cases h
  | .none, .dict _, _, h => by cases h
  | .bool _, .dict _, _, h => by cases h
  | .int _, .dict _, _, h => by cases h
  | .str _, .dict _, _, h => by cases h
  | .tuple _, .dict _, _, h => by cases h
theorem eqv_nks : ∀ (as bs : List PyData), keyDs as = true → keyDs bs = true → PyData.eqvAll as bs = decide (nkDs as = nkDs bs)
  | [], [], _, _ => by simp [PyData.eqvAll]
  | [], _ :: _, _, _ => by simp [PyData.eqvAll, nkDs]
  | _ :: _, [], _, _ => by simp [PyData.eqvAll, nkDs]
  | a :: as, b :: bs, ha, hb => by
    have ha : (keyD a && keyDs as) = true := ha
    have hb : (keyD b && keyDs bs) = true := hb
    rw [Bool.and_eq_true] at ha hb
    rw [PyData.eqvAll, eqv_nk a b ha.1 hb.1, eqv_nks as bs ha.2 hb.2]
    show _ = decide (nkD a :: nkDs as = nkD b :: nkDs bs)
    by_cases h1 : nkD a = nkD b <;> by_cases h2 : nkDs as = nkDs bs <;> simp [h1, h2]
end
theorem eqv_list {as bs : List PyData} (ha : keyDs as = true) (hb : keyDs bs = true) : PyData.eqv (.list as) (.list bs) = decide (nkDs as = nkDs bs) := by
  rw [PyData.eqv, eqv_nks as bs ha hb]
theorem keyDs_all {ds : List PyData} : keyDs ds = true ↔ ∀ d ∈ ds, keyD d = true := by
  induction ds with
  | nil => simp [keyDs]
  | cons d ds ih => simp [keyDs, ih]
theorem nkDs_map (ds : List PyData) : nkDs ds = ds.map nkD := by
  induction ds with
  | nil => rfl
  | cons d ds ih => rw [nkDs, ih, List.map_cons]
/-! ## rows by their keys -/
abbrev Grp (R : Type) : Type := List (List PyData × List R)
section
variable {R : Type}
def putG (k : List PyData) (r : R) : Grp R → Grp R
  | [] => [(k, [r])]
  | g :: t => if nkDs g.1 = nkDs k then (g.1, g.2 ++ [r]) :: t else g :: putG k r t
def grpR (ky : R → List PyData) (rs : List R) : Grp R := rs.foldl (fun g r => putG (ky r) r g) []
theorem grpR_snoc (ky : R → List PyData) (rs : List R) (r : R) : grpR ky (rs ++ [r]) = putG (ky r) r (grpR ky rs) := by
  unfold grpR
  rw [List.foldl_append]
  rfl
/-- the keys, each once, as they come -/
def keysR (ky : R → List PyData) (rs : List R) : List (List PyData) := rs.foldl (fun ks r => if nkDs (ky r) ∈ ks.map nkDs then ks else ks ++ [ky r]) []
theorem keysR_snoc (ky : R → List PyData) (rs : List R) (r : R) : keysR ky (rs ++ [r]) = if nkDs (ky r) ∈ (keysR ky rs).map nkDs then keysR ky rs else keysR ky rs ++ [ky r] := by
  unfold keysR
  rw [List.foldl_append]
  rfl
theorem putG_in {k : List PyData} {r : R} : ∀ {g : Grp R}, nkDs k ∈ g.map (fun x => nkDs x.1) → (g.map fun x => nkDs x.1).Nodup → putG k r g = g.map fun x => if nkDs x.1 = nkDs k then (x.1, x.2 ++ [r]) else x
  | [], h, _ => by simp at h
  | x :: t, h, nd => by
    rw [List.map_cons, List.nodup_cons] at nd
    unfold putG
    rw [List.map_cons]
    by_cases e : nkDs x.1 = nkDs k
    · rw [if_pos e, if_pos e]
      congr 1
      refine (List.map_id' t).symm.trans (List.map_congr_left fun y hy => ?_)
      rw [if_neg fun z => nd.1 (by rw [e, ← z]; exact List.mem_map_of_mem (f := fun x : List PyData × List R => nkDs x.1) hy)]
    · rw [if_neg e, if_neg e, putG_in (g := t) (by
        rcases List.mem_cons.mp h with h | h
        · exact absurd h.symm e
        · exact h) nd.2]
theorem putG_out {k : List PyData} {r : R} : ∀ {g : Grp R}, nkDs k ∉ g.map (fun x => nkDs x.1) → putG k r g = g ++ [(k, [r])]
  | [], _ => rfl
  | x :: t, h => by
    rw [List.map_cons, List.mem_cons, not_or] at h
    unfold putG
    rw [if_neg fun e => h.1 e.symm, putG_out h.2]
    rfl
theorem keysR_nd (ky : R → List PyData) (rs : List R) : ((keysR ky rs).map nkDs).Nodup := by
  induction rs using snoc_ind with
  | h0 => exact List.nodup_nil
  | h1 rs r ih =>
    rw [keysR_snoc]
    split
    · exact ih
    · next h =>
      rw [List.map_append, List.nodup_append]
      exact ⟨ih, List.nodup_cons.mpr ⟨nofun, List.nodup_nil⟩, fun a ha b hb e => h (by rw [← List.mem_singleton.mp hb, ← e]; exact ha)⟩
/-- the groups: each key with its rows -/
theorem grpR_eq (ky : R → List PyData) (rs : List R) : grpR ky rs = (keysR ky rs).map fun k => (k, rs.filter fun r => decide (nkDs (ky r) = nkDs k)) := by
  induction rs using snoc_ind with
  | h0 => rfl
  | h1 rs r ih =>
    have nd := keysR_nd ky rs
    have e1 : (grpR ky rs).map (fun x => nkDs x.1) = (keysR ky rs).map nkDs := by
      rw [ih, List.map_map]
      rfl
    rw [grpR_snoc, keysR_snoc]
    by_cases h : nkDs (ky r) ∈ (keysR ky rs).map nkDs
    · rw [if_pos h, putG_in (by rw [e1]; exact h) (by rw [e1]; exact nd), ih, List.map_map]
      refine List.map_congr_left fun k hk => ?_
      show (if nkDs k = nkDs (ky r) then (k, rs.filter _ ++ [r]) else (k, rs.filter _)) = _
      rw [List.filter_append]
      by_cases e : nkDs k = nkDs (ky r)
      · rw [if_pos e, List.filter_cons, if_pos (decide_eq_true e.symm)]
        rfl
      · rw [if_neg e, List.filter_cons, if_neg (by simpa using fun z => e z.symm)]
        rw [List.filter_nil, List.append_nil]
    · rw [if_neg h, putG_out (by rw [e1]; exact h), ih, List.map_append]
      congr 1
      · refine List.map_congr_left fun k hk => ?_
        rw [List.filter_append, List.filter_cons, if_neg (by simpa using fun z => h (by rw [z]; exact List.mem_map_of_mem hk)), List.filter_nil, List.append_nil]
      · rw [List.map_cons, List.filter_append, List.filter_cons, if_pos (decide_eq_true rfl)]
        have : rs.filter (fun q => decide (nkDs (ky q) = nkDs (ky r))) = [] := by
          refine List.filter_eq_nil_iff.mpr fun q hq => ?_
          have : nkDs (ky q) ∈ (keysR ky rs).map nkDs := by
            clear ih e1 nd h
            induction rs using snoc_ind with
            | h0 => cases hq
            | h1 rs s ih =>
              rw [keysR_snoc]
              rcases List.mem_append.mp hq with hq | hq
              · have := ih hq
                split
                · exact this
                · rw [List.map_append]; exact List.mem_append_left _ this
              · rw [List.mem_singleton.mp hq]
                split
                · next y => exact y
                · rw [List.map_append]; exact List.mem_append_right _ List.mem_cons_self
          simpa using fun z => h (by rw [← z]; exact this)
        rw [this]
        rfl
theorem putG_map {S : Type} (f : R → S) (k : List PyData) (r : R) : ∀ g : Grp R, (putG k r g).map (fun x => (x.1, x.2.map f)) = putG k (f r) (g.map fun x => (x.1, x.2.map f))
  | [] => rfl
  | x :: t => by
    rw [List.map_cons]
    unfold putG
    by_cases e : nkDs x.1 = nkDs k
    · rw [if_pos e, if_pos e, List.map_cons, List.map_append]
      rfl
    · rw [if_neg e, if_neg e, List.map_cons, putG_map f k r t]
theorem grpR_map {S : Type} (f : R → S) (ky : R → List PyData) (ky' : S → List PyData) (h : ∀ r, ky r = ky' (f r)) (rs : List R) : (grpR ky rs).map (fun x => (x.1, x.2.map f)) = grpR ky' (rs.map f) := by
  induction rs using snoc_ind with
  | h0 => rfl
  | h1 rs r ih => rw [List.map_append, List.map_cons, List.map_nil, grpR_snoc, grpR_snoc, putG_map, ih, h]
theorem keysR_of (ky : R → List PyData) (rs : List R) : ∀ k ∈ keysR ky rs, ∃ r ∈ rs, k = ky r := by
  induction rs using snoc_ind with
  | h0 => exact nofun
  | h1 rs r ih =>
    rw [keysR_snoc]
    intro k hk
    split at hk
    · obtain ⟨q, h1, h2⟩ := ih k hk
      exact ⟨q, List.mem_append_left _ h1, h2⟩
    · rcases List.mem_append.mp hk with hk | hk
      · obtain ⟨q, h1, h2⟩ := ih k hk
        exact ⟨q, List.mem_append_left _ h1, h2⟩
      · exact ⟨r, List.mem_append_right _ List.mem_cons_self, List.mem_singleton.mp hk⟩
theorem grpR_of (ky : R → List PyData) (rs : List R) : ∀ g ∈ grpR ky rs, (∃ r ∈ rs, g.1 = ky r) ∧ ∀ r ∈ g.2, r ∈ rs := by
  rw [grpR_eq]
  intro g hg
  obtain ⟨k, hk, rfl⟩ := List.mem_map.mp hg
  obtain ⟨r, h1, h2⟩ := keysR_of ky rs k hk
  exact ⟨⟨r, h1, h2⟩, fun q hq => (List.mem_filter.mp hq).1⟩
end
end Lc
set_option Elab.async false
set_option linter.all false
set_option maxRecDepth 100000
set_option maxHeartbeats 4000000
namespace K20
open PySem PySem.Spec PyProof.Rows L2 Lc
theorem row_at {H : Hp} {v : V} {r : RowD} (h : Dh H v r.d) : ∃ ra va la, v = .ref ra ∧ H ra = some (.tup [.ref va, .ref la]) ∧ Dh H (.ref va) (.tuple r.vals) ∧ Dh H (.ref la) (linD r.lin) := by
  cases h with
  | tup e hs => cases hs with
    | cons h1 r1 => cases r1 with
      | cons h2 r2 =>
        cases r2
        have h1' := h1
        have h2' := h2
        cases h1 with
        | tup e1 _ => cases h2 with
          | tup e2 _ => exact ⟨_, _, _, rfl, e, h1', h2'⟩
theorem Vks.noL : ∀ {ks : List Str} {ds : List PyData}, Vks ks ds → ∀ d ∈ ds, noL d = true
  | _, _, .nil => nofun
  | _, _, .cons h r => fun d hd => by
    rcases List.mem_cons.mp hd with rfl | hd
    · exact h.noL
    · exact r.noL d hd
def RowW (ps : CsL) (ds : List RowD) : Prop := ∀ r ∈ ds, Vks (ps.map (·.2)) r.vals ∧ LinOk r.lin
theorem RowW.ok {ps : CsL} {rs : RowsL} (h : RowW ps (rs.map (·.2))) : RowsOk rs := fun r hr => by
  obtain ⟨h1, h2⟩ := h r.2 (List.mem_map_of_mem hr)
  exact ⟨noLs_all.mpr h1.noL, h2⟩
def jsV (js : List Nat) : List V := js.map fun j => V.int (j : Nat)
def spPo : Sp := fun vs H Q _ => ∃ (L p : Addr) (ps : CsL) (ns : List Str), vs = [.ref L, .ref p] ∧ CA H L ps ∧ ColP ps ∧ H p = some (.tup (vS ns)) ∧ (∀ n ∈ ns, n ∈ nms ps) ∧ ns.length ≤ 8 ∧ ∀ (D : Addr) (H' : Hp), Same H H' → H' D = some (.lst (jsV (ns.map fun n => (nms ps).idxOf n))) → Q (.ref D) H'
def spPc : Sp := fun vs H Q _ => ∃ (p q : Addr) (us : List V) (ds : List PyData) (js : List Nat), vs = [.ref p, .ref q] ∧ H p = some (.tup us) ∧ DhAll H us ds ∧ (∀ d ∈ ds, noL d = true) ∧ H q = some (.lst (jsV js)) ∧ (∀ j ∈ js, j < ds.length) ∧ js.length ≤ 8 ∧ ∀ (r : Addr) (H' : Hp), Same H H' → Dh H' (.ref r) (.tuple (js.map fun j => ds.getD j .none)) → Q (.ref r) H'
theorem idx_at {ss : List Str} {x : Str} (h : x ∈ ss) : ss[ss.idxOf x]? = some x := by
  rw [List.getElem?_eq_getElem (List.idxOf_lt_length_of_mem h)]
  exact congrArg some (List.getElem_idxOf _)
theorem idx_no {x z : Str} : ∀ {ss : List Str} {m : Nat}, m < ss.idxOf x → ss[m]? = some z → z ≠ x
  | [], m, h, e => by simp at e
  | a :: r, m, h, e => by
    rw [List.idxOf_cons] at h
    by_cases q : a = x
    · rw [beq_iff_eq.mpr q] at h
      exact absurd h (Nat.not_lt_zero m)
    · rw [beq_eq_false_iff_ne.mpr q] at h
      match m, h, e with
      | 0, h, e => injection e with e; rw [← e]; exact q
      | m + 1, h, e => exact idx_no (ss := r) (m := m) (Nat.lt_of_succ_lt_succ h) (by simpa using e)
abbrev tePo (K : PySem.W.Frag) : TE := tBM K "list" (rIndex K) (tVar 2) (tCons (tVar 3) tNil)
abbrev tePc (K : PySem.W.Frag) : TE := tOp (rIxT K) (tVar 0) (tVar 2)
theorem vks_get : ∀ {ks : List Str} {ds : List PyData}, Vks ks ds → ∀ {i : Nat} {k : Str}, ks[i]? = some k → ∃ d, ds[i]? = some d ∧ Vk k d
  | _, _, .nil, i, k, e => by simp at e
  | _, _, .cons h r, 0, k, e => by
    obtain rfl := Option.some.inj e
    exact ⟨_, rfl, h⟩
  | _, _, .cons h r, i + 1, k, e => vks_get r (i := i) (by simpa using e)
theorem vks_of : ∀ {ks : List Str} {ds : List PyData}, ds.length = ks.length → (∀ (i : Nat) (k : Str), ks[i]? = some k → ∃ d, ds[i]? = some d ∧ Vk k d) → Vks ks ds
  | [], [], _, _ => .nil
  | [], _ :: _, l, _ => by simp at l
  | k :: ks, [], l, _ => by simp at l
  | k :: ks, d :: ds, l, h => by
    obtain ⟨d', e, v⟩ := h 0 k rfl
    obtain rfl := Option.some.inj e
    refine .cons v (vks_of (by simpa using l) fun i k' e => ?_)
    obtain ⟨d', e', v'⟩ := h (i + 1) k' (by simpa using e)
    exact ⟨d', by simpa using e', v'⟩
theorem nodup_ix {ss : List Str} (nd : ss.Nodup) {i : Nat} {x : Str} (e : ss[i]? = some x) : ss.idxOf x = i := by
  obtain ⟨l, rfl⟩ := List.getElem?_eq_some_iff.mp e
  exact nd.idxOf_getElem i l
/-! ## rows by their keys -/
theorem Vk.key {k : Str} {d : PyData} (h : Vk k d) : keyD d = true ∧ (nkD d).depth ≤ 1 := by
  cases h with
  | non => exact ⟨rfl, by simp [nkD, NestedKey.depth]⟩
  | num _ _ _ => exact ⟨rfl, by simp [nkD, nkDs, NestedKey.depth, NestedKey.depthAll]⟩
  | flag _ => exact ⟨rfl, by simp [nkD, NestedKey.depth]⟩
  | word _ _ => exact ⟨rfl, by simp [nkD, NestedKey.depth]⟩
theorem Vk.can {k : Str} {d : PyData} (h : Vk k d) : d.canLay0 = true := by
  cases h with
  | non => rfl
  | num => rfl
  | flag => rfl
  | word h _ => exact can_str h
theorem Vk.depth {k : Str} {d : PyData} (h : Vk k d) : d.depth ≤ 1 := by cases h <;> simp [PyData.depth, PyData.depthAll]
def KeyOk (ds : List PyData) : Prop := ∀ d ∈ ds, keyD d = true ∧ (nkD d).depth ≤ 1 ∧ noL d = true ∧ d.canLay0 = true ∧ d.depth ≤ 1
theorem KeyOk.all {ds : List PyData} (h : KeyOk ds) : keyDs ds = true := keyDs_all.mpr fun d hd => (h d hd).1
theorem KeyOk.dep {ds : List PyData} (h : KeyOk ds) : (NestedKey.tup (nkDs ds)).depth ≤ 8 := by
  have : NestedKey.depthAll (nkDs ds) ≤ 1 := by
    induction ds with
    | nil => exact Nat.zero_le _
    | cons d ds ih =>
      have h1 := (h d List.mem_cons_self).2.1
      have h2 := ih fun x hx => h x (List.mem_cons_of_mem _ hx)
      rw [nkDs, NestedKey.depthAll]
      omega
  rw [NestedKey.depth]
  omega
/-- the values at these places -/
def atJ (js : List Nat) (r : V × RowD) : List PyData := js.map fun j => r.2.vals.getD j .none
theorem atJ_ok {ks : List Str} {js : List Nat} {r : V × RowD} (h : Vks ks r.2.vals) (hj : ∀ j ∈ js, j < ks.length) : KeyOk (atJ js r) := fun d hd => by
  obtain ⟨j, h1, rfl⟩ := List.mem_map.mp hd
  obtain ⟨d, e, v⟩ := vks_get h (i := j) (k := ks[j]'(hj j h1)) (List.getElem?_eq_getElem _)
  rw [List.getD_eq_getElem?_getD, e]
  exact ⟨v.key.1, v.key.2, v.noL, v.can, v.depth⟩
inductive GrpAt (H : Hp) : List NkE → Grp (V × RowD) → Prop
  | nil : GrpAt H [] []
  | cons {b la : Addr} {L : List NkE} {key : List PyData} {mem : RowsL} {G : Grp (V × RowD)} (hk : Dh H (.ref b) (.tuple key)) (ko : KeyOk key) (el : H la = some (.lst (mem.map (·.1)))) (r : GrpAt H L G) : GrpAt H ((.tup (nkDs key), b, .ref la) :: L) ((key, mem) :: G)
theorem GrpAt.same {H H' : Hp} (s : Same H H') : ∀ {L : List NkE} {G : Grp (V × RowD)}, GrpAt H L G → GrpAt H' L G
  | _, _, .nil => .nil
  | _, _, .cons hk ko el r => .cons (hk.same s) ko (s _ _ el) (r.same s)
theorem KeyOk.noL {ds : List PyData} (h : KeyOk ds) : noL (.tuple ds) = true := by
  rw [Lc.noL]
  exact noLs_all.mpr fun d hd => (h d hd).2.2.1
theorem GrpAt.keyN {H : Hp} : ∀ {L : List NkE} {G : Grp (V × RowD)}, GrpAt H L G → ∀ e ∈ L, KeyN H e.2.1 e.1
  | _, _, .nil => nofun
  | _, _, .cons (key := key) hk ko el r => fun e he => by
    rcases List.mem_cons.mp he with rfl | he
    · exact ⟨.tuple key, hk, ko.all, rfl, ko.dep⟩
    · exact r.keyN e he
theorem GrpAt.len {H : Hp} : ∀ {L : List NkE} {G : Grp (V × RowD)}, GrpAt H L G → L.length = G.length
  | _, _, .nil => rfl
  | _, _, .cons _ _ _ r => by rw [List.length_cons, List.length_cons, r.len]
theorem GrpAt.get {H : Hp} : ∀ {L : List NkE} {G : Grp (V × RowD)}, GrpAt H L G → ∀ {i : Nat} {k : NestedKey} {b : Addr} {v : V}, L[i]? = some (k, b, v) → ∃ key mem la, G[i]? = some (key, mem) ∧ v = .ref la ∧ Dh H (.ref b) (.tuple key) ∧ KeyOk key ∧ H la = some (.lst (mem.map (·.1)))
  | _, _, .nil, i, k, b, v, e => by simp at e
  | _, _, .cons hk ko el r, 0, k, b, v, e => by cases e; exact ⟨_, _, _, rfl, rfl, hk, ko, el⟩
  | _, _, .cons hk ko el r, i + 1, k, b, v, e => by
    obtain ⟨key, mem, la, h1, h2⟩ := r.get (i := i) (by simpa using e)
    exact ⟨key, mem, la, by simpa using h1, h2⟩
/-- where the key is not yet there -/
theorem GrpAt.out {H : Hp} {k : List PyData} : ∀ {L : List NkE} {G : Grp (V × RowD)}, GrpAt H L G → valN L (.tup (nkDs k)) = none → nkDs k ∉ G.map fun x => nkDs x.1
  | _, _, .nil, _ => by simp
  | _, _, .cons (key := key) hk ko el r, h => by
    unfold valN at h
    by_cases e : NestedKey.tup (nkDs key) = .tup (nkDs k)
    · rw [if_pos e] at h; cases h
    · rw [if_neg e] at h
      rw [List.map_cons, List.mem_cons, not_or]
      exact ⟨fun z => e (by rw [z]), r.out h⟩
theorem GrpAt.snoc {H : Hp} {b la : Addr} {key : List PyData} {mem : RowsL} (hk : Dh H (.ref b) (.tuple key)) (ko : KeyOk key) (el : H la = some (.lst (mem.map (·.1)))) : ∀ {L : List NkE} {G : Grp (V × RowD)}, GrpAt H L G → GrpAt H (L ++ [(.tup (nkDs key), b, .ref la)]) (G ++ [(key, mem)])
  | _, _, .nil => .cons hk ko el .nil
  | _, _, .cons h1 h2 h3 r => .cons h1 h2 h3 (r.snoc hk ko el)
/-- another thing is written -/
theorem GrpAt.upd {H : Hp} {c : Addr} {o u : HO} (hc : H c = some u) (nt : ∀ xs, u ≠ .tup xs) : ∀ {L : List NkE} {G : Grp (V × RowD)}, GrpAt H L G → V.ref c ∉ L.map (·.2.2) → GrpAt (L2.upd H c o) L G
  | _, _, .nil, _ => .nil
  | _, _, .cons (la := la) hk ko el r, n => by
    rw [List.map_cons, List.mem_cons, not_or] at n
    refine .cons (hk.t (fun x xs e => by rw [upd_ne (ne_of e hc fun z => nt _ z.symm)]; exact e) ko.noL) ko ?_ (GrpAt.upd hc nt r n.2)
    rw [upd_ne fun z => n.1 (by rw [z])]
    exact el
/-- the row is put to its group -/
theorem GrpAt.put {H : Hp} {k : List PyData} {r : V × RowD} {v : V} : ∀ {L : List NkE} {G : Grp (V × RowD)}, GrpAt H L G → (L.map (·.2.2)).Nodup → valN L (.tup (nkDs k)) = some v → ∃ la mem, v = .ref la ∧ v ∈ L.map (·.2.2) ∧ H la = some (.lst mem) ∧ mem.length ≤ (G.map fun x => x.2.length).sum ∧ GrpAt (L2.upd H la (.lst (mem ++ [r.1]))) L (putG k r G)
  | _, _, .nil, _, h => by cases h
  | _, _, .cons (la := la) (key := key) (mem := mem) (G := G) hk ko el rr, nd, h => by
    rw [List.map_cons, List.nodup_cons] at nd
    unfold valN at h
    have st : SameT H (L2.upd H la (.lst (mem.map (·.1) ++ [r.1]))) := fun x xs e => by rw [upd_ne (ne_of e el nofun)]; exact e
    by_cases e : NestedKey.tup (nkDs key) = .tup (nkDs k)
    · rw [if_pos e] at h
      obtain rfl := Option.some.inj h
      have e' : nkDs key = nkDs k := by injection e
      refine ⟨la, mem.map (·.1), rfl, List.mem_cons_self, el, by rw [List.length_map, List.map_cons, List.sum_cons]; show mem.length ≤ mem.length + _; omega, ?_⟩
      unfold putG
      rw [if_pos e']
      refine .cons (hk.t st ko.noL) ko ?_ (GrpAt.upd el nofun rr nd.1)
      rw [upd_same, List.map_append]
      rfl
    · rw [if_neg e] at h
      obtain ⟨la2, mem2, e1, e2, e3, e4, e5⟩ := GrpAt.put (r := r) rr nd.2 h
      have ne : la ≠ la2 := fun z => nd.1 (by rw [z, ← e1]; exact e2)
      refine ⟨la2, mem2, e1, List.mem_cons_of_mem _ e2, e3, by rw [List.map_cons, List.sum_cons]; show mem2.length ≤ mem.length + _; omega, ?_⟩
      unfold putG
      rw [if_neg fun z => e (by rw [z])]
      refine .cons (hk.t (fun x xs q => by rw [upd_ne (ne_of q e3 nofun)]; exact q) ko.noL) ko ?_ e5
      rw [upd_ne ne]
      exact el
theorem GrpAt.lists {H : Hp} : ∀ {L : List NkE} {G : Grp (V × RowD)}, GrpAt H L G → ∀ v ∈ L.map (·.2.2), ∃ la xs, v = .ref la ∧ H la = some (.lst xs)
  | _, _, .nil => nofun
  | _, _, .cons (la := la) hk ko el r => fun v hv => by
    rw [List.map_cons] at hv
    rcases List.mem_cons.mp hv with rfl | hv
    · exact ⟨la, _, rfl, el⟩
    · exact r.lists v hv
theorem grp_sum (ky : V × RowD → List PyData) (rs : RowsL) : ((grpR ky rs).map fun x => x.2.length).sum = rs.length := by
  induction rs using snoc_ind with
  | h0 => rfl
  | h1 rs r ih =>
    rw [grpR_snoc, List.length_append, List.length_singleton, ← ih]
    generalize grpR ky rs = G
    induction G with
    | nil => rfl
    | cons g G ih2 =>
      unfold putG
      split
      · rw [List.map_cons, List.map_cons, List.sum_cons, List.sum_cons]
        show (g.2 ++ [r]).length + _ = _
        rw [List.length_append]
        rw [List.length_singleton]
        omega
      · rw [List.map_cons, List.map_cons, List.sum_cons, List.sum_cons, ih2]
        show _ = g.2.length + _ + 1
        omega
theorem grp_len (ky : V × RowD → List PyData) (rs : RowsL) : (grpR ky rs).length ≤ rs.length := by
  induction rs using snoc_ind with
  | h0 => exact Nat.le_refl _
  | h1 rs r ih =>
    rw [grpR_snoc, List.length_append]
    have : ∀ G : Grp (V × RowD), (putG (ky r) r G).length ≤ G.length + 1 := fun G => by
      induction G with
      | nil => exact Nat.le_refl _
      | cons g G ih =>
        unfold putG
        split
        · rw [List.length_cons, List.length_cons]; omega
        · rw [List.length_cons, List.length_cons]; omega
    exact Nat.le_trans (this _) (Nat.succ_le_succ ih)
def spGr (P : Program) (w : World) : Sp := fun vs H Q _ => ∃ (a q : Addr) (rs : RowsL) (ks : List Str) (js : List Nat), vs = [.ref a, .ref q] ∧ H a = some (.lst (rs.map (·.1))) ∧ RowsAt H rs ∧ (∀ r ∈ rs, Vks ks r.2.vals ∧ LinOk r.2.lin) ∧ rs.length ≤ 1000 ∧ H q = some (.lst (jsV js)) ∧ (∀ j ∈ js, j < ks.length) ∧ js.length ≤ 8 ∧
  ∀ (D : Addr) (L : List NkE) (H' : Hp), Same H H' → H D = none → (∀ v ∈ L.map (·.2.2), ∃ la, v = .ref la ∧ H la = none) → DnAt P w H' D L → GrpAt H' L (grpR (atJ js) rs) → Q (.ref D) H'
section
variable {P : Program} {w : World} {K : PySem.W.Frag} {mg : Str → Option Value} {base : Heap} {f : Addr} {fd : FuncData}
abbrev sPo : Stmt := top 104
abbrev nPo : List Str := ["columns", "names", "called", "name"]
abbrev pPo : List Str := ["columns", "names"]
theorem scPo : FnScope nPo pPo (defScope sPo) := ⟨rfl, rfl, rfl, by decide +kernel, rfl, by decide +kernel, by decide +kernel⟩
section
variable {fA_ : Addr} {fdA_ : FuncData}
theorem ok_Po (F : Fun K "places_of" "places_of" sPo f fd) (T : Bt mg)
    (GA_ : FnOk P w K mg base CX0 1 fA_ fdA_ ["columns"] (spNo)) (mA_ : mg "names_of" = some (.ref fA_)) (kA_ : PySem.W.keepIn K (.ref fA_) = true) (bA_ : Binds K fdA_ ["columns"] []) : FnOk P w K mg base CX0 2 f fd pPo (spPo) := by
  refine F.ok scPo (fun vs H Q E h => ?_) (fun cdv A outer s H vs Q E hr h => ?_)
  · obtain ⟨L, p, ps, ns, rfl, _⟩ := h
    rfl
  · obtain ⟨L, p, ps, ns, rfl, hL, cp, hp, hn, l8, k⟩ := h
    have hrA_ : Room (1) _ := hr.mono (by first | decide | omega)
    refine ⟨_, (pss_cons (ps_set (i := 2) scPo.nd rfl (Or.inr rfl) (pe_call GA_ hrA_ (by rfl) mA_ kA_ bA_ .nil pass0 (pa_cons (pv 0) pa_nil)))
      (pss_one (ps_ret (pe_lc (own := [("name", 3)]) (g := (gName 3)) (tt := tYes) (te := tePo K) (by rfl) scPo.nd (pi_tup (pv 1)) (blkOk_by (own := [("name", 3)]) (N := nPo) (sc := defScope sPo) (by decide +kernel)) (fun _ _ _ _ _ => (pg_name (i := 3) scPo.nd rfl (.inl rfl))) (fun _ _ _ _ _ => pts_nil) (fun _ _ _ _ _ => (pe_bm PySem.F.plainAttrs_list PySem.F.slot_list_index PySem.F.type_list_index mt_index (pv 2) (pa_cons (pv 3) pa_nil))))))), ?_⟩
    refine ⟨_, rfl, L, ps, rfl, hL, cp.l8, fun W H1 s1 _ eW => ?_⟩
    have fl : (vS (nms ps)).all flatV = true := List.all_eq_true.mpr fun v hv => by
      obtain ⟨x, _, rfl⟩ := List.mem_map.mp hv
      rfl
    refine ⟨_, rfl, p, rfl, ⟨_, SqT.of (s1 _ _ hp)⟩, fun D hD => lc_tup (K := K) (a := p) (xs := vS ns) (fun i H' => H' D = some (.lst (jsV ((ns.take i).map fun n => (nms ps).idxOf n))) ∧ Same H1 H') ⟨upd_same, Same.upd hD⟩ (fun i H' _ pr => SqT.of (pr.2 _ _ (s1 _ _ hp))) ?_ ?_⟩
    · rintro i y H2 hy ⟨eD, s2⟩
      rw [List.getElem?_map] at hy
      obtain ⟨g, eg, rfl⟩ := Option.map_eq_some_iff.mp hy
      have gm := hn g (List.mem_of_getElem? eg)
      have eW2 := s2 _ _ eW
      refine ⟨rfl, ?_⟩
      dsimp only [tYes]
      refine iteT ?_
      change tePo K _ _ _
      refine ⟨_, rfl, .inl ⟨rfl, _, SqL.of eW2⟩, _, rfl, W, vS (nms ps), .str g, (nms ps).idxOf g, .str g, rfl, rfl, SqL.of eW2, rfl, fl, by rw [List.getElem?_map, idx_at gm]; rfl, by simp [eqV], fun m z' lt ez => ?_, _, eD, ?_, ?_, fun b o e => by rw [upd_ne (ne_of_none e hD)]; exact s2 b o e⟩
      · rw [List.getElem?_map] at ez
        obtain ⟨z, ez2, rfl⟩ := Option.map_eq_some_iff.mp ez
        have := idx_no lt ez2
        simp [eqV, this]
      · unfold jsV
        rw [List.length_map, List.length_map, List.length_take]
        exact lt_size (by omega)
      · rw [upd_same, List.take_add_one, eg]
        unfold jsV
        rw [List.map_append, List.map_append]
        rfl
    rintro H2 ⟨eD, s2⟩
    rw [List.length_map, List.take_length] at eD
    exact k D H2 (s1.trans s2) eD
end
abbrev sPc : Stmt := top 105
abbrev nPc : List Str := ["values", "places", "at"]
abbrev pPc : List Str := ["values", "places"]
theorem scPc : FnScope nPc pPc (defScope sPc) := ⟨rfl, rfl, rfl, by decide +kernel, rfl, by decide +kernel, by decide +kernel⟩
section
theorem ok_Pc (F : Fun K "picked" "picked" sPc f fd) (T : Bt mg) : FnOk P w K mg base CX0 1 f fd pPc (spPc) := by
  refine F.ok scPc (fun vs H Q E h => ?_) (fun cdv A outer s H vs Q E hr h => ?_)
  · obtain ⟨p, q, us, ds, js, rfl, _⟩ := h
    rfl
  · obtain ⟨p, q, us, ds, js, rfl, hp, hd, hn, hq, hj, l8, k⟩ := h
    refine ⟨_, (pss_one (ps_ret (pe_callTy call_tuple_of (by rfl) T.tuple boot_tuple (pa_cons (pe_lc (own := [("at", 2)]) (g := (gName 2)) (tt := tYes) (te := tePc K) (by rfl) scPc.nd (pi_list (pv 1)) (blkOk_by (own := [("at", 2)]) (N := nPc) (sc := defScope sPc) (by decide +kernel)) (fun _ _ _ _ _ => (pg_name (i := 2) scPc.nd rfl (.inl rfl))) (fun _ _ _ _ _ => pts_nil) (fun _ _ _ _ _ => (pe_ix ix_tup (pv 0) (pv 2) (fun _ _ => rfl)))) pa_nil)))), ?_⟩
    have lu := hd.len
    refine ⟨_, rfl, q, rfl, ⟨_, SqL.of hq⟩, fun D hD => lc_list (K := K) (a := q) (xs := jsV js) (fun i H' => (∃ ys, H' D = some (.lst ys) ∧ DhAll H' ys ((js.take i).map fun j => ds.getD j .none)) ∧ Same H H') ⟨⟨[], upd_same, .nil⟩, Same.upd hD⟩ (fun i H' _ pr => SqL.of (pr.2 _ _ hq)) ?_ ?_⟩
    · rintro i y H2 hy ⟨⟨ys, eD, dys⟩, s2⟩
      unfold jsV at hy
      rw [List.getElem?_map] at hy
      obtain ⟨j, ej, rfl⟩ := Option.map_eq_some_iff.mp hy
      have lj := hj j (List.mem_of_getElem? ej)
      obtain ⟨d, ed⟩ : ∃ d, ds[j]? = some d := ⟨_, List.getElem?_eq_getElem lj⟩
      obtain ⟨u, eu⟩ : ∃ u, us[j]? = some u := ⟨_, List.getElem?_eq_getElem (by omega)⟩
      obtain ⟨d', ed', du⟩ := hd.get j u eu
      rw [ed] at ed'
      obtain rfl := Option.some.inj ed'
      have ly := dys.len
      rw [List.length_map, List.length_take] at ly
      refine ⟨rfl, ?_⟩
      dsimp only [tYes]
      refine iteT ?_
      change tePc K _ _ _
      refine ⟨_, rfl, _, rfl, p, us, (j : Int), u, rfl, rfl, SqT.of (s2 _ _ hp), at_of (j := j) (by omega) eu, ys, eD, lt_size (by omega), ⟨ys ++ [u], upd_same, ?_⟩, fun b o e => by rw [upd_ne (ne_of_none e hD)]; exact s2 b o e⟩
      have nn : ∀ l : List Nat, (∀ j ∈ l, j < ds.length) → noLs (l.map fun j => ds.getD j .none) = true := fun l hl => noLs_all.mpr fun x hx => by
        obtain ⟨j, h1, rfl⟩ := List.mem_map.mp hx
        refine hn _ ?_
        rw [List.getD_eq_getElem?_getD, List.getElem?_eq_getElem (hl j h1)]
        exact List.getElem_mem _
      rw [List.take_add_one, ej, List.map_append]
      refine DhAll.append (DhAll.t (SameT.lst eD) dys (nn _ fun j h => hj j (List.mem_of_mem_take h))) ?_
      show DhAll _ [u] [ds.getD j .none]
      rw [List.getD_eq_getElem?_getD, ed]
      exact .cons ((du.same s2).t (SameT.lst eD) (hn d (List.mem_of_getElem? ed))) .nil
    rintro H2 ⟨⟨ys, eD, dys⟩, s2⟩
    rw [show (jsV js).length = js.length from List.length_map _, List.take_length] at dys
    refine ⟨D, ys, rfl, .inl ⟨SqL.of eD, fun r hr' => ?_⟩⟩
    have zr := Same.upd (o := .tup ys) hr'
    exact k r _ (s2.trans zr) (.tup upd_same (dys.same zr))
end
abbrev sGr : Stmt := top 114
abbrev nGr : List Str := ["rows", "places", "groups", "row"]
abbrev pGr : List Str := ["rows", "places"]
theorem scGr : FnScope nGr pGr (defScope sGr) := ⟨rfl, rfl, rfl, by decide +kernel, rfl, by decide +kernel, by decide +kernel⟩
section
variable {fA_ : Addr} {fdA_ : FuncData}
theorem ok_Gr (F : Fun K "grouped" "grouped" sGr f fd) (T : Bt mg)
    (GA_ : FnOk P w K mg base CX0 1 fA_ fdA_ ["values", "places"] (spPc)) (mA_ : mg "picked" = some (.ref fA_)) (kA_ : PySem.W.keepIn K (.ref fA_) = true) (bA_ : Binds K fdA_ ["values", "places"] []) : FnOk P w K mg base CX0 2 f fd pGr ((spGr P w)) := by
  refine F.ok scGr (fun vs H Q E h => ?_) (fun cdv A outer s H vs Q E hr h => ?_)
  · obtain ⟨a, q, rs, ks, js, rfl, _⟩ := h
    rfl
  · obtain ⟨a, q, rs, ks, js, rfl, ha, ra, rw_, ln, hq, hj, l8, k⟩ := h
    have hrA_ : Room (1) _ := hr.mono (by first | decide | omega)
    have hu16 := Nat.lt_of_le_of_lt (Nat.add_le_add_left (show 16 ≤ 64 by decide) _) hr.units
    refine ⟨_, (pss_cons (ps_set (i := 2) scGr.nd rfl (Or.inl rfl) pe_dnewK)
      (pss_cons (ps_for PassesOwn.never rfl (pi_list (pv 0)) (pg_name (i := 3) scGr.nd rfl (.inl rfl)) (pss_one (ps_expr (pe_bm PySem.F.plainAttrs_list PySem.F.slot_list_append PySem.F.type_list_append mt_append (pe_bmN PySem.F.slot_dict_setdefault PySem.F.type_dict_setdefault (mt_setdN hu16) (pv 2) (pa_cons (pe_call GA_ hrA_ (by rfl) mA_ kA_ bA_ .nil pass0 (pa_cons (pe_ix ix_tup (pv 3) pe_int (fun _ _ => rfl)) (pa_cons (pv 1) pa_nil))) (pa_cons (pe_lst pa_nil) pa_nil))) (pa_cons (pv 3) pa_nil)))))
      (pss_one (ps_ret (pv 2))))), ?_⟩
    intro D hD
    have zD := Same.upd (o := .dK []) hD
    refine ⟨_, rfl, a, rfl, ⟨_, SqL.of (zD _ _ ha)⟩, for_list (K := K) (a := a) (xs := rs.map (·.1)) (fun i σ H' => (∃ x3 : Option V, σ = [some (.ref a), some (.ref q), some (.ref D), x3]) ∧ (∃ L : List NkE, DnAt P w H' D L ∧ GrpAt H' L (grpR (atJ js) (rs.take i)) ∧ (L.map (·.2.2)).Nodup ∧ ∀ v ∈ L.map (·.2.2), ∃ la, v = .ref la ∧ H la = none) ∧ Same H H') ⟨⟨_, rfl⟩, ⟨[], .inr ⟨rfl, upd_same⟩, .nil, List.nodup_nil, nofun⟩, zD⟩ (fun i σ H' _ pr => SqL.of (pr.2.2 _ _ ha)) ?_ ?_⟩
    · rintro i y σ H2 hy ⟨⟨x3, rfl⟩, ⟨L, dn, gr, nd, fr⟩, s2⟩
      rw [List.getElem?_map] at hy
      obtain ⟨r, er, rfl⟩ := Option.map_eq_some_iff.mp hy
      have rm := List.mem_of_getElem? er
      have li := (List.getElem?_eq_some_iff.mp er).1
      obtain ⟨vk, lo⟩ := rw_ r rm
      obtain ⟨rr, va, la0, ev, e2, dvals, _⟩ := row_at ((ra r rm).same s2)
      have lv := vk.len
      have et : rs.take (i + 1) = rs.take i ++ [r] := by rw [List.take_add_one, er]; rfl
      have ll : L.length ≤ 1000 := by
        have h1 := gr.len
        have h2 := grp_len (atJ js) (rs.take i)
        rw [List.length_take] at h2
        omega
      cases dvals with
      | @tup _ us _ eu hu =>
      refine ⟨_, rfl, ⟨D, L, rfl, dn⟩, _, rfl, rr, _, _, .ref va, ev, rfl, SqT.of e2, at_of (j := 0) rfl rfl, _, rfl, va, q, us, r.2.vals, js, rfl, eu, hu, vk.noL, s2 _ _ hq, fun j hj' => by rw [← lv]; exact hj j hj', l8, fun kb H3 s3 dk => ?_⟩
      refine ⟨Nat.zero_le _, fun la hla => ?_⟩
      have zl := Same.upd (o := .lst []) hla
      have el : L2.upd H3 la (.lst []) la = some (.lst []) := upd_same
      have fl : H la = none := same_free (s2.trans s3) hla
      have nl : V.ref la ∉ L.map (·.2.2) := fun h => by
        obtain ⟨lb, xs, e, e'⟩ := gr.lists _ h
        cases e
        rw [s3 _ _ e'] at hla
        cases hla
      have dk4 := dk.same zl
      have s24 := s3.trans zl
      generalize L2.upd H3 la (.lst []) = H4 at zl el dk4 s24 ⊢
      have ko : KeyOk (atJ js r) := atJ_ok vk hj
      have gr4 := gr.same s24
      have dn4 := dn.same s24
      refine ⟨D, kb, L, .tup (nkDs (atJ js r)), .ref la, rfl, rfl, dn4, ⟨.tuple (atJ js r), dk4, ko.all, rfl, ko.dep⟩, gr4.keyN, lt_size ll, fun v hv => ?_, fun hn => ?_⟩
      · obtain ⟨lb, mem, rfl, hm, e3, l3, g'⟩ := gr4.put (r := r) nd hv
        have l3 : mem.length ≤ 1000 := by
          rw [grp_sum, List.length_take] at l3
          omega
        refine ⟨.inl ⟨rfl, _, SqL.of e3⟩, _, rfl, lb, _, _, rfl, rfl, e3, lt_size l3, ⟨_, rfl⟩, ⟨L, ?_, by rw [et, grpR_snoc]; exact g', nd, fr⟩, fun b o e => ?_⟩
        · have nD := dn4.ne e3 ⟨nofun, nofun⟩
          rcases dn4 with h | ⟨h0, h⟩
          · exact .inl (by rw [upd_ne nD]; exact h)
          · exact .inr ⟨h0, by rw [upd_ne nD]; exact h⟩
        · obtain ⟨lc, e5, e6⟩ := fr _ hm
          cases e5
          rw [upd_ne (ne_of_none e e6)]
          exact s24 _ _ (s2 _ _ e)
      · have nD := dn4.ne el ⟨nofun, nofun⟩
        obtain ⟨u, hu4, nt, nl4, _⟩ := dn4.ex
        have st : SameT H4 (L2.upd H4 D (DnO P w D (L ++ [(.tup (nkDs (atJ js r)), kb, .ref la)]))) := fun x xs e => by rw [upd_ne (ne_of e hu4 fun z => nt _ z.symm)]; exact e
        have nDL : V.ref D ∉ L.map (·.2.2) := fun h => by
          obtain ⟨lb, xs, e, e'⟩ := gr4.lists _ h
          cases e
          rw [e'] at hu4
          exact nl4 _ (Option.some.inj hu4).symm
        have g5 := GrpAt.upd (o := DnO P w D (L ++ [(.tup (nkDs (atJ js r)), kb, .ref la)])) hu4 nt gr4 nDL
        have el5 : L2.upd H4 D (DnO P w D (L ++ [(.tup (nkDs (atJ js r)), kb, .ref la)])) la = some (.lst []) := by rw [upd_ne (Ne.symm nD)]; exact el
        have eD5 : L2.upd H4 D (DnO P w D (L ++ [(.tup (nkDs (atJ js r)), kb, .ref la)])) D = some (DnO P w D (L ++ [(.tup (nkDs (atJ js r)), kb, .ref la)])) := upd_same
        have dk5 := dk4.t st ko.noL
        have k5 : ∀ b o, b ≠ D → H4 b = some o → L2.upd H4 D (DnO P w D (L ++ [(.tup (nkDs (atJ js r)), kb, .ref la)])) b = some o := fun b o n e => by rw [upd_ne n]; exact e
        have g6 := GrpAt.upd (o := .lst ([] ++ [r.1])) el5 nofun g5 nl
        have dk6 := dk5.t (show SameT _ (L2.upd _ la (.lst ([] ++ [r.1]))) from SameT.lst el5) ko.noL
        refine ⟨.inl ⟨rfl, _, SqL.of el5⟩, _, rfl, la, _, _, rfl, rfl, el5, by decide, ⟨_, rfl⟩, ⟨L ++ [(.tup (nkDs (atJ js r)), kb, .ref la)], .inl (by rw [upd_ne nD]; exact eD5), ?_, ?_, fun v hv => ?_⟩, fun b o e => ?_⟩
        · rw [et, grpR_snoc, putG_out (gr4.out hn)]
          exact g6.snoc dk6 ko upd_same
        · rw [List.map_append, List.nodup_append]
          exact ⟨nd, List.nodup_cons.mpr ⟨nofun, List.nodup_nil⟩, fun x hx y hy e => nl (by rw [← show y = V.ref la from List.mem_singleton.mp hy, ← e]; exact hx)⟩
        · rw [List.map_append] at hv
          rcases List.mem_append.mp hv with hv | hv
          · exact fr v hv
          · exact ⟨la, List.mem_singleton.mp hv, fl⟩
        · rw [upd_ne (ne_of_none e fl)]
          exact k5 _ _ (ne_of_none e hD) (s24 _ _ (s2 _ _ e))
    · rintro σ H2 ⟨⟨x3, rfl⟩, ⟨L, dn, gr, nd, fr⟩, s2⟩
      rw [List.length_map, List.take_length] at gr
      exact ⟨_, rfl, k D L H2 s2 hD fr dn gr⟩
end
end
end K20
set_option Elab.async false
set_option linter.all false
namespace Lc
/-! ## a stable sort tells each item's rank -/
section
variable {α : Type} {le : α → α → Bool}
/-- a stands ahead of b: by the order, or by its place -/
def prc (le : α → α → Bool) (a b : α × Nat) : Bool := le a.1 b.1 && (!le b.1 a.1 || decide (a.2 < b.2))
theorem prc_self (a : α × Nat) : prc le a a = false := by
  unfold prc
  cases le a.1 a.1 <;> simp
theorem prc_asym {a b : α × Nat} (h : prc le a b = true) : prc le b a = false := by
  unfold prc at h ⊢
  cases h1 : le a.1 b.1 <;> cases h2 : le b.1 a.1 <;> simp [h1, h2] at h ⊢
  omega
theorem count_at {R : List (α × Nat)} (s : R.Pairwise fun a b => prc le a b = true) {p : Nat} {x : α × Nat} (e : R[p]? = some x) : (R.countP fun y => prc le y x) = p := by
  obtain ⟨hp, ex⟩ := List.getElem?_eq_some_iff.mp e
  have d : R = R.take p ++ x :: R.drop (p + 1) := by
    rw [← ex, ← List.drop_eq_getElem_cons hp, List.take_append_drop]
  rw [d] at s
  obtain ⟨s1, s2, s3⟩ := List.pairwise_append.mp s
  have s4 := (List.pairwise_cons.mp s2).1
  have c1 : ((R.take p).countP fun y => prc le y x) = p := by
    rw [List.countP_eq_length.mpr fun y hy => s3 y hy x List.mem_cons_self, List.length_take]
    omega
  have c2 : ((R.drop (p + 1)).countP fun y => prc le y x) = 0 := List.countP_eq_zero.mpr fun y hy z => by
    rw [prc_asym (s4 y hy)] at z
    cases z
  have key : ((R.take p ++ x :: R.drop (p + 1)).countP fun y => prc le y x) = p := by
    rw [List.countP_append, List.countP_cons, c1, c2, prc_self]
    rfl
  rw [← d] at key
  exact key
variable (trans : ∀ a b c, le a b = true → le b c = true → le a c = true) (total : ∀ a b, (le a b || le b a) = true)
include trans total
/-- the stable sort of tagged items, their tags rising -/
theorem sort_prc {l : List (α × Nat)} (h : l.Pairwise fun a b => a.2 < b.2) : (l.mergeSort fun a b => le a.1 b.1).Pairwise fun a b => prc le a b = true := by
  have nd : l.Nodup := h.imp fun {a b} q e => by rw [e] at q; omega
  have srt := List.pairwise_mergeSort (le := fun a b : α × Nat => le a.1 b.1) (fun a b c => trans a.1 b.1 c.1) (fun a b => total a.1 b.1) l
  have pm := List.mergeSort_perm l fun a b : α × Nat => le a.1 b.1
  have ndM : (l.mergeSort fun a b => le a.1 b.1).Nodup := pm.nodup_iff.mpr nd
  rw [List.pairwise_iff_forall_sublist]
  intro a b hab
  have l1 : le a.1 b.1 = true := (List.pairwise_iff_forall_sublist.mp srt) hab
  unfold prc
  rw [l1, Bool.true_and]
  cases l2 : le b.1 a.1 with
  | false => rfl
  | true =>
    show decide (a.2 < b.2) = true
    have ma : a ∈ l := pm.mem_iff.mp (hab.subset List.mem_cons_self)
    have mb : b ∈ l := pm.mem_iff.mp (hab.subset (List.mem_cons_of_mem _ List.mem_cons_self))
    have nab : a ≠ b := (List.pairwise_iff_forall_sublist.mp ndM) hab
    refine decide_eq_true (Classical.byContradiction fun z => ?_)
    -- b stands ahead of a in l
    have hba : [b, a].Sublist l := by
      obtain ⟨i, hi, ei⟩ := List.getElem_of_mem ma
      obtain ⟨j, hj, ej⟩ := List.getElem_of_mem mb
      have ji : j < i := by
        rcases Nat.lt_trichotomy i j with q | q | q
        · have := List.pairwise_iff_getElem.mp h i j hi hj q
          rw [ei, ej] at this
          exact absurd this z
        · subst q
          exact absurd (ei.symm.trans ej) nab
        · exact q
      have d : l = l.take i ++ a :: l.drop (i + 1) := by rw [← ei, ← List.drop_eq_getElem_cons hi, List.take_append_drop]
      have m : b ∈ l.take i := by
        rw [List.mem_take_iff_getElem]
        exact ⟨j, by omega, ej⟩
      rw [d]
      exact (List.singleton_sublist.mpr m).append (List.Sublist.cons_cons a (List.nil_sublist _))
    have hba' := List.pair_sublist_mergeSort (le := fun a b : α × Nat => le a.1 b.1) (fun a b c => trans a.1 b.1 c.1) (fun a b => total a.1 b.1) (hab := l2) hba
    -- both orders in a list without doubles
    have key : ∀ {L : List (α × Nat)}, L.Nodup → [a, b].Sublist L → [b, a].Sublist L → False := by
      intro L
      induction L with
      | nil => intro _ s _; cases s
      | cons c L ih =>
        intro nd s1 s2
        rw [List.nodup_cons] at nd
        cases s1 with
        | cons _ s1 =>
          cases s2 with
          | cons _ s2 => exact ih nd.2 s1 s2
          | cons_cons _ s2 => exact nd.1 (s1.subset (List.mem_cons_of_mem _ List.mem_cons_self))
        | cons_cons _ s1 =>
          cases s2 with
          | cons _ s2 => exact nd.1 (s2.subset (List.mem_cons_of_mem _ List.mem_cons_self))
          | cons_cons _ s2 => exact nab rfl
    exact key ndM hab hba'
/-- some sorted, the others behind them -/
def srtTag (le : α → α → Bool) (f : α → Bool) (l : List (α × Nat)) : List (α × Nat) := ((l.filter fun a => f a.1).mergeSort fun a b => le a.1 b.1) ++ l.filter fun a => !f a.1
omit trans total in
theorem srtTag_perm {le : α → α → Bool} (f : α → Bool) (l : List (α × Nat)) : (srtTag le f l).Perm l := by
  unfold srtTag
  exact ((List.mergeSort_perm _ _).append_right _).trans (List.filter_append_perm (fun a : α × Nat => f a.1) l)
theorem srtTag_prc {f : α → Bool} {l : List (α × Nat)} (h : l.Pairwise fun a b => a.2 < b.2) (far : ∀ a b, f a = true → f b = false → le a b = true ∧ le b a = false) (same : ∀ a b, f a = false → f b = false → le a b = true) : (srtTag le f l).Pairwise fun a b => prc le a b = true := by
  unfold srtTag
  refine List.pairwise_append.mpr ⟨sort_prc trans total (h.filter _), ?_, fun a ha b hb => ?_⟩
  · refine (List.pairwise_filter.mpr (h.imp fun {a b} q ha hb => ?_))
    have fa : f a.1 = false := by simpa using ha
    have fb : f b.1 = false := by simpa using hb
    unfold prc
    rw [same _ _ fa fb, same _ _ fb fa, decide_eq_true q]
    rfl
  · have fa : f a.1 = true := (List.mem_filter.mp ((List.mergeSort_perm _ _).mem_iff.mp ha)).2
    have fb : f b.1 = false := by simpa using (List.mem_filter.mp hb).2
    obtain ⟨q1, q2⟩ := far _ _ fa fb
    unfold prc
    rw [q1, q2]
    rfl
omit trans total in
theorem srtTag_fst (f : α → Bool) (l : List α) (k : Nat) : (srtTag le f (l.zipIdx k)).map (·.1) = ((l.filter f).mergeSort le) ++ l.filter fun a => !f a := by
  have fl : ∀ (g : α → Bool) (l : List α) (k : Nat), ((l.zipIdx k).filter fun a => g a.1).map (·.1) = l.filter g := by
    intro g l
    induction l with
    | nil => intro k; rfl
    | cons a l ih =>
      intro k
      rw [List.zipIdx_cons, List.filter_cons, List.filter_cons]
      dsimp only
      split
      · rw [List.map_cons, ih]
      · exact ih _
  unfold srtTag
  rw [List.map_append, List.map_mergeSort (s := le) (f := fun a : α × Nat => a.1) (fun a _ b _ => rfl), fl f, fl (fun a => !f a)]
/-- how many stand ahead of the j-th -/
def rankOf (le : α → α → Bool) (l : List α) (j : Nat) (a : α) : Nat := l.zipIdx.countP fun y => prc le y (a, j)
theorem rank_at {f : α → Bool} {l : List α} (far : ∀ a b, f a = true → f b = false → le a b = true ∧ le b a = false) (same : ∀ a b, f a = false → f b = false → le a b = true) {j : Nat} {a : α} (e : l[j]? = some a) :
    (((l.filter f).mergeSort le) ++ l.filter fun a => !f a)[rankOf le l j a]? = some a ∧ ∀ {i : Nat} {b : α}, l[i]? = some b → rankOf le l i b = rankOf le l j a → i = j := by
  have rise : l.zipIdx.Pairwise fun a b => a.2 < b.2 := by
    have key : ∀ (l : List α) (k : Nat), (l.zipIdx k).Pairwise fun a b => a.2 < b.2 := by
      intro l
      induction l with
      | nil => intro k; exact List.Pairwise.nil
      | cons a l ih =>
        intro k
        rw [List.zipIdx_cons]
        refine List.pairwise_cons.mpr ⟨fun b hb => ?_, ih _⟩
        have := List.le_snd_of_mem_zipIdx hb
        show k < b.2
        omega
    exact key l 0
  have pw := srtTag_prc trans total rise far same
  have pm := srtTag_perm (le := le) f l.zipIdx
  have at_ : ∀ {i : Nat} {b : α}, l[i]? = some b → (srtTag le f l.zipIdx)[rankOf le l i b]? = some (b, i) := fun {i b} e => by
    have m : (b, i) ∈ l.zipIdx := by
      obtain ⟨hi, eb⟩ := List.getElem?_eq_some_iff.mp e
      rw [List.mem_iff_getElem?]
      exact ⟨i, by rw [List.getElem?_zipIdx, e]; simp⟩
    obtain ⟨p, hp⟩ := List.mem_iff_getElem?.mp (pm.mem_iff.mpr m)
    have c := count_at pw hp
    rw [pm.countP_eq] at c
    unfold rankOf
    rw [c]
    exact hp
  refine ⟨?_, fun {i b} e' q => ?_⟩
  · rw [← srtTag_fst f l 0, List.getElem?_map, at_ e]
    rfl
  · have h1 := at_ e'
    rw [q, at_ e] at h1
    injection h1 with h1
    injection h1 with h1 h2
    exact h2.symm
theorem rank_onto {f : α → Bool} {l : List α} (far : ∀ a b, f a = true → f b = false → le a b = true ∧ le b a = false) (same : ∀ a b, f a = false → f b = false → le a b = true) {p : Nat} (hp : p < l.length) :
    ∃ j a, l[j]? = some a ∧ rankOf le l j a = p := by
  have rise : l.zipIdx.Pairwise fun a b => a.2 < b.2 := by
    have key : ∀ (l : List α) (k : Nat), (l.zipIdx k).Pairwise fun a b => a.2 < b.2 := by
      intro l
      induction l with
      | nil => intro k; exact List.Pairwise.nil
      | cons a l ih =>
        intro k
        rw [List.zipIdx_cons]
        refine List.pairwise_cons.mpr ⟨fun b hb => ?_, ih _⟩
        have := List.le_snd_of_mem_zipIdx hb
        show k < b.2
        omega
    exact key l 0
  have pw := srtTag_prc trans total rise far same
  have pm := srtTag_perm (le := le) f l.zipIdx
  have hp' : p < (srtTag le f l.zipIdx).length := by rw [pm.length_eq, List.length_zipIdx]; exact hp
  have e := List.getElem?_eq_getElem hp'
  generalize (srtTag le f l.zipIdx)[p] = y at e
  obtain ⟨a, j⟩ := y
  have m := pm.mem_iff.mp (List.mem_of_getElem? e)
  rw [List.mem_iff_getElem?] at m
  obtain ⟨i, hi⟩ := m
  rw [List.getElem?_zipIdx] at hi
  cases q : l[i]? with
  | none => rw [q] at hi; cases hi
  | some z =>
    rw [q] at hi
    simp only [Option.map_some, Option.some.injEq, Prod.mk.injEq, Nat.zero_add] at hi
    obtain ⟨rfl, rfl⟩ := hi
    refine ⟨_, _, q, ?_⟩
    unfold rankOf
    rw [← pm.countP_eq]
    exact count_at pw e
end
end Lc
set_option Elab.async false
set_option linter.all false
set_option maxRecDepth 100000
set_option maxHeartbeats 4000000
namespace Lc
open PySem
/-! ## totals of numbers -/
abbrev Qn : Type := Int × Int
def lowQ (n d : Int) : Qn := (lowN n d, lowD n d)
def addQ (a p : Qn) : Qn := lowQ (a.1 * p.2 + p.1 * a.2) (a.2 * p.2)
def sumQ (ps : List Qn) : Qn := ps.foldl addQ (0, 1)
def PosQ (ps : List Qn) : Prop := ∀ p ∈ ps, 0 < p.2
theorem lowQ_rt {n d : Int} (h : 0 < d) : Rt (lowQ n d).1 (lowQ n d).2 := low_rt h
theorem sumQ_snoc {ps : List Qn} {p : Qn} : sumQ (ps ++ [p]) = addQ (sumQ ps) p := by
  unfold sumQ
  rw [List.foldl_append]
  rfl
theorem PosQ.app {ps : List Qn} {p : Qn} (h : PosQ (ps ++ [p])) : PosQ ps ∧ 0 < p.2 := ⟨fun q hq => h q (List.mem_append_left _ hq), h p (List.mem_append_right _ List.mem_cons_self)⟩
theorem sumQ_rt {ps : List Qn} (h : PosQ ps) : Rt (sumQ ps).1 (sumQ ps).2 := by
  induction ps using snoc_ind with
  | h0 => exact rt_one 0
  | h1 ps p ih =>
    obtain ⟨h1, h2⟩ := h.app
    rw [sumQ_snoc]
    exact low_rt (Int.mul_pos (ih h1).pos h2)
def scaS (S : Int) (ps : List Qn) : Int := (ps.map fun p => p.1 * (S / p.2)).sum
theorem scaS_snoc {S : Int} {ps : List Qn} {p : Qn} : scaS S (ps ++ [p]) = scaS S ps + p.1 * (S / p.2) := by
  unfold scaS
  rw [List.map_append, List.sum_append]
  simp
theorem sum_scale {S : Int} (hS : 0 < S) {ps : List Qn} (h : PosQ ps) (hd : ∀ p ∈ ps, p.2 ∣ S) : (sumQ ps).1 * S = scaS S ps * (sumQ ps).2 := by
  induction ps using snoc_ind with
  | h0 => show (0 : Int) * S = 0 * 1; omega
  | h1 ps p ih =>
    obtain ⟨h1, h2⟩ := h.app
    have e := ih h1 fun q hq => hd q (List.mem_append_left _ hq)
    obtain ⟨m, hm⟩ := hd p (List.mem_append_right _ List.mem_cons_self)
    have hq : S / p.2 = m := by rw [hm]; exact Int.mul_ediv_cancel_left _ (by omega)
    rw [sumQ_snoc, scaS_snoc, hq]
    have r := sumQ_rt h1
    generalize sumQ ps = a at e r ⊢
    generalize scaS S ps = A at e ⊢
    have dp : 0 < a.2 * p.2 := Int.mul_pos r.pos h2
    have lm := low_mul (n := a.1 * p.2 + p.1 * a.2) (d := a.2 * p.2) (by omega)
    have g := gd_pos (a := a.1 * p.2 + p.1 * a.2) (b := a.2 * p.2) (by omega)
    show lowN (a.1 * p.2 + p.1 * a.2) (a.2 * p.2) * S = (A + p.1 * m) * lowD (a.1 * p.2 + p.1 * a.2) (a.2 * p.2)
    generalize gd (a.1 * p.2 + p.1 * a.2) (a.2 * p.2) = G at lm g
    generalize lowN (a.1 * p.2 + p.1 * a.2) (a.2 * p.2) = N at lm ⊢
    generalize lowD (a.1 * p.2 + p.1 * a.2) (a.2 * p.2) = D at lm ⊢
    refine Int.eq_of_mul_eq_mul_right (a := G) (by omega) ?_
    rw [Int.mul_right_comm, lm.1, Int.mul_assoc (A + p.1 * m), lm.2]
    have e1 : (a.1 * p.2 + p.1 * a.2) * S = p.2 * (a.1 * S) + p.1 * a.2 * S := by
      rw [Int.add_mul, Int.mul_comm a.1 p.2, Int.mul_assoc p.2]
    rw [e1, e, hm]
    simp only [Int.add_mul, Int.mul_add, Int.mul_comm, Int.mul_left_comm, Int.mul_assoc]
theorem sum_low {S : Int} (hS : 0 < S) {ps : List Qn} (h : PosQ ps) (hd : ∀ p ∈ ps, p.2 ∣ S) : lowQ (scaS S ps) S = sumQ ps := by
  obtain ⟨h1, h2⟩ := low_is hS (sumQ_rt h) (sum_scale hS h hd).symm
  exact Prod.ext h1 h2
def sclQ (ps : List Qn) : Int := ps.foldl (fun s p => s * (p.2 / gd s p.2)) 1
theorem sclQ_snoc {ps : List Qn} {p : Qn} : sclQ (ps ++ [p]) = sclQ ps * (p.2 / gd (sclQ ps) p.2) := by
  unfold sclQ
  rw [List.foldl_append]
  rfl
theorem part_pos {s d : Int} (h : 0 < d) : 0 < d / gd s d := Int.ediv_pos_of_pos_of_dvd h (gd_nonneg s d) (gd_dvd2 s d)
theorem part_le {s d : Int} (h : 0 < d) : d / gd s d ≤ d := by
  have g := gd_pos (a := s) (b := d) (by omega)
  exact Int.ediv_le_self _ (by omega)
theorem sclQ_pos {ps : List Qn} (h : PosQ ps) : 0 < sclQ ps := by
  induction ps using snoc_ind with
  | h0 => decide
  | h1 ps p ih =>
    obtain ⟨h1, h2⟩ := h.app
    rw [sclQ_snoc]
    exact Int.mul_pos (ih h1) (part_pos h2)
theorem sclQ_dvd {ps : List Qn} (h : PosQ ps) : ∀ p ∈ ps, p.2 ∣ sclQ ps := by
  induction ps using snoc_ind with
  | h0 => intro p hp; cases hp
  | h1 ps p ih =>
    obtain ⟨h1, h2⟩ := h.app
    intro q hq
    rw [sclQ_snoc]
    rcases List.mem_append.mp hq with hq | hq
    · exact Int.dvd_trans (ih h1 q hq) (Int.dvd_mul_right _ _)
    · rw [List.mem_singleton.mp hq]
      obtain ⟨j, hj⟩ := gd_dvd1 (sclQ ps) p.2
      obtain ⟨k, hk⟩ := gd_dvd2 (sclQ ps) p.2
      have g := gd_pos (a := sclQ ps) (b := p.2) (by omega)
      have e1 : p.2 / gd (sclQ ps) p.2 = k := Int.ediv_eq_of_eq_mul_right (by omega) hk
      rw [e1]
      refine ⟨j, ?_⟩
      generalize gd (sclQ ps) p.2 = G at hj hk g
      rw [hk]
      conv => lhs; rw [hj]
      simp only [Int.mul_comm, Int.mul_left_comm, Int.mul_assoc]
def GoodQ (ps : List Qn) : Prop := ∀ p ∈ ps, Rt p.1 p.2 ∧ p.2 ≤ lim
theorem GoodQ.pos {ps : List Qn} (h : GoodQ ps) : PosQ ps := fun p hp => (h p hp).1.pos
theorem GoodQ.app {ps : List Qn} {p : Qn} (h : GoodQ (ps ++ [p])) : GoodQ ps ∧ Rt p.1 p.2 ∧ p.2 ≤ lim := ⟨fun q hq => h q (List.mem_append_left _ hq), h p (List.mem_append_right _ List.mem_cons_self)⟩
theorem sclQ_le {ps : List Qn} (h : GoodQ ps) : sclQ ps ≤ lim ^ ps.length := by
  induction ps using snoc_ind with
  | h0 => exact Int.le_refl _
  | h1 ps p ih =>
    obtain ⟨h1, h2, h3⟩ := h.app
    rw [sclQ_snoc, List.length_append, List.length_singleton, Int.pow_succ]
    have q := sclQ_pos h1.pos
    exact Int.mul_le_mul (ih h1) (Int.le_trans (part_le h2.pos) h3) (Int.le_of_lt (part_pos h2.pos)) (Int.le_trans (Int.le_of_lt q) (ih h1))
theorem lowD_le {n d : Int} (h : 0 < d) : lowD n d ≤ d := by
  have g := gd_pos (a := n) (b := d) (by omega)
  exact Int.ediv_le_self _ (by omega)
theorem sumQ_le {ps : List Qn} (h : GoodQ ps) : (sumQ ps).2 ≤ lim ^ ps.length := by
  induction ps using snoc_ind with
  | h0 => exact Int.le_refl _
  | h1 ps p ih =>
    obtain ⟨h1, h2, h3⟩ := h.app
    rw [sumQ_snoc, List.length_append, List.length_singleton, Int.pow_succ]
    have q := (sumQ_rt h1.pos).pos
    exact Int.le_trans (lowD_le (Int.mul_pos q h2.pos)) (Int.mul_le_mul (ih h1) h3 (Int.le_of_lt h2.pos) (Int.le_trans (Int.le_of_lt q) (ih h1)))
/-! ## numbers in order -/
def bySq (p : Qn) : Int := p.1 * lim * lim / p.2
def leB (p q : Qn) : Bool := decide (bySq p ≤ bySq q)
def ordQ (ps : List Qn) : List Qn := ps.mergeSort leB
theorem leB_trans (a b c : Qn) : leB a b = true → leB b c = true → leB a c = true := by
  simp only [leB, decide_eq_true_eq]
  exact Int.le_trans
theorem leB_total (a b : Qn) : (leB a b || leB b a) = true := by
  simp only [leB, Bool.or_eq_true, decide_eq_true_eq]
  exact Int.le_total _ _
theorem bySq_lt {n d n' d' : Int} (h : 0 < d) (h1 : d ≤ lim) (h' : 0 < d') (h1' : d' ≤ lim) : bySq (n, d) < bySq (n', d') ↔ n * d' < n' * d := by
  show n * lim * lim / d < n' * lim * lim / d' ↔ _
  rw [Int.mul_assoc n, Int.mul_assoc n']
  have hl : (0 : Int) ≤ lim := by decide
  have SL : d * d' ≤ lim * lim := Int.mul_le_mul h1 h1' (Int.le_of_lt h') hl
  have S0 : (0 : Int) ≤ lim * lim := Int.mul_nonneg hl hl
  generalize lim * lim = S at *
  constructor
  · intro k
    refine Classical.byContradiction fun z => ?_
    have z := Int.not_lt.mp z
    have : n' * S / d' ≤ n * S / d := by
      rw [Int.le_ediv_iff_mul_le h]
      have a : n' * S / d' * d' ≤ n' * S := Int.ediv_mul_le _ (by omega)
      generalize n' * S / d' = q at a k ⊢
      refine Int.le_of_mul_le_mul_right (a := d') ?_ h'
      rw [Int.mul_right_comm]
      refine Int.le_trans (Int.mul_le_mul_of_nonneg_right a (Int.le_of_lt h)) ?_
      rw [Int.mul_right_comm, Int.mul_right_comm n S d']
      exact Int.mul_le_mul_of_nonneg_right z S0
    omega
  · intro k
    have b : n * S / d * d ≤ n * S := Int.ediv_mul_le _ (by omega)
    generalize n * S / d = q at b ⊢
    refine Int.lt_of_lt_of_le (Int.lt_succ q) ((Int.le_ediv_iff_mul_le h').mpr ?_)
    refine Int.le_of_mul_le_mul_right (a := d) ?_ h
    have e1 : (q + 1) * d' * d = q * d * d' + d * d' := by rw [Int.add_mul, Int.add_mul, Int.one_mul, Int.mul_right_comm, Int.mul_comm d' d]
    rw [e1]
    refine Int.le_trans (Int.add_le_add (Int.mul_le_mul_of_nonneg_right b (Int.le_of_lt h')) SL) ?_
    have e2 : n * S * d' + S = (n * d' + 1) * S := by rw [Int.add_mul, Int.one_mul, Int.mul_right_comm]
    rw [e2, Int.mul_right_comm n' S d]
    exact Int.mul_le_mul_of_nonneg_right k S0
theorem bySq_inj {p q : Qn} (hp : Rt p.1 p.2 ∧ p.2 ≤ lim) (hq : Rt q.1 q.2 ∧ q.2 ≤ lim) (e : bySq p = bySq q) : p = q := by
  have h1 := bySq_lt (n := p.1) (n' := q.1) hp.1.pos hp.2 hq.1.pos hq.2
  have h2 := bySq_lt (n := q.1) (n' := p.1) hq.1.pos hq.2 hp.1.pos hp.2
  have e' : bySq (p.1, p.2) = bySq (q.1, q.2) := e
  rw [e'] at h1 h2
  have a : ¬ p.1 * q.2 < q.1 * p.2 := fun z => absurd (h1.mpr z) (Int.lt_irrefl _)
  have b : ¬ q.1 * p.2 < p.1 * q.2 := fun z => absurd (h2.mpr z) (Int.lt_irrefl _)
  obtain ⟨x, y⟩ := rt_unique hp.1 hq.1 (Int.le_antisymm (Int.not_lt.mp b) (Int.not_lt.mp a))
  exact Prod.ext x y
theorem ordQ_perm (ps : List Qn) : (ordQ ps).Perm ps := List.mergeSort_perm ps leB
theorem ordQ_srt (ps : List Qn) : (ordQ ps).Pairwise fun a b => bySq a ≤ bySq b :=
  (List.pairwise_mergeSort (le := leB) leB_trans leB_total ps).imp fun h => of_decide_eq_true h
theorem ordQ_len (ps : List Qn) : (ordQ ps).length = ps.length := (ordQ_perm ps).length_eq
theorem ordQ_head {ps : List Qn} (g : GoodQ ps) {x : Qn} (hx : x ∈ ps) (h : ∀ y ∈ ps, bySq x ≤ bySq y) : (ordQ ps)[0]? = some x := by
  have pm := ordQ_perm ps
  have sr := ordQ_srt ps
  cases e : ordQ ps with
  | nil => rw [e] at pm; exact absurd (pm.mem_iff.mpr hx) (by simp)
  | cons z r =>
    rw [e] at pm sr
    have mz : z ∈ ps := pm.mem_iff.mp List.mem_cons_self
    have zx : bySq z ≤ bySq x := by
      rcases List.mem_cons.mp (pm.mem_iff.mpr hx) with rfl | hr
      · exact Int.le_refl _
      · exact (List.pairwise_cons.mp sr).1 x hr
    show some z = some x
    rw [bySq_inj (g z mz) (g x hx) (Int.le_antisymm zx (h z mz))]
theorem ordQ_last {ps : List Qn} (g : GoodQ ps) {x : Qn} (hx : x ∈ ps) (h : ∀ y ∈ ps, bySq y ≤ bySq x) : (ordQ ps)[ps.length - 1]? = some x := by
  have pm := ordQ_perm ps
  have sr := ordQ_srt ps
  have ln := ordQ_len ps
  have lp : 0 < ps.length := List.length_pos_of_mem hx
  obtain ⟨z, ez⟩ : ∃ z, (ordQ ps)[ps.length - 1]? = some z := ⟨_, List.getElem?_eq_getElem (by omega)⟩
  have mz : z ∈ ps := pm.mem_iff.mp (List.mem_of_getElem? ez)
  obtain ⟨j, ej⟩ := List.mem_iff_getElem?.mp (pm.mem_iff.mpr hx)
  have lj := (List.getElem?_eq_some_iff.mp ej).1
  have xz : bySq x ≤ bySq z := by
    by_cases q : j = ps.length - 1
    · rw [q, ez] at ej
      rw [Option.some.inj ej]
      exact Int.le_refl _
    · have := List.pairwise_iff_getElem.mp sr j (ps.length - 1) lj (by omega) (by omega)
      rw [List.getElem?_eq_getElem lj] at ej
      rw [List.getElem?_eq_getElem (by omega)] at ez
      rw [Option.some.inj ej, Option.some.inj ez] at this
      exact this
  rw [ez, bySq_inj (g z mz) (g x hx) (Int.le_antisymm (h z mz) xz)]
theorem ordQ_at {ps : List Qn} {j : Nat} {a : Qn} (e : ps[j]? = some a) : (ordQ ps)[rankOf leB ps j a]? = some a ∧ ∀ {i : Nat} {b : Qn}, ps[i]? = some b → rankOf leB ps i b = rankOf leB ps j a → i = j := by
  have h := rank_at (le := leB) leB_trans leB_total (f := fun _ => true) (l := ps) (fun a b _ h => by cases h) (fun a b h => by cases h) e
  have e1 : (ps.filter fun _ => true) = ps := List.filter_eq_self.mpr fun _ _ => rfl
  have e2 : (ps.filter fun a => !(fun _ => true) a) = [] := List.filter_eq_nil_iff.mpr fun _ _ => by simp
  rw [e1, e2, List.append_nil] at h
  exact h
theorem ordQ_onto {ps : List Qn} {p : Nat} (hp : p < ps.length) : ∃ j a, ps[j]? = some a ∧ rankOf leB ps j a = p :=
  rank_onto (le := leB) leB_trans leB_total (f := fun _ => true) (l := ps) (fun a b _ h => by cases h) (fun a b h => by cases h) hp
/-! ## totals -/
def halfQ (a b : Qn) : Qn := lowQ (sumQ [a, b]).1 ((sumQ [a, b]).2 * 2)
theorem halfQ_self {a : Qn} (h : Rt a.1 a.2) : halfQ a a = a := by
  have ps : PosQ [a, a] := fun p hp => by
    simp only [List.mem_cons, List.not_mem_nil, or_false, or_self] at hp
    rw [hp]
    exact h.pos
  have e := sum_scale h.pos ps fun p hp => by
    simp only [List.mem_cons, List.not_mem_nil, or_false, or_self] at hp
    rw [hp]
    exact Int.dvd_refl _
  have r := sumQ_rt ps
  have e2 : scaS a.2 [a, a] = a.1 * 2 := by
    have := h.pos
    show a.1 * (a.2 / a.2) + (a.1 * (a.2 / a.2) + 0) = a.1 * 2
    rw [Int.ediv_self (by omega)]
    omega
  rw [e2] at e
  obtain ⟨h1, h2⟩ := low_is (n := (sumQ [a, a]).1) (d := (sumQ [a, a]).2 * 2) (Int.mul_pos r.pos (by decide)) h (by rw [e, Int.mul_assoc, Int.mul_comm 2])
  exact Prod.ext h1 h2
def medQ (ps : List Qn) : Qn := halfQ ((ordQ ps).getD ((ps.length - 1) / 2) (0, 1)) ((ordQ ps).getD (ps.length / 2) (0, 1))
def meanQ (ps : List Qn) : Qn := lowQ (sumQ ps).1 ((sumQ ps).2 * (ps.length : Nat))
def totQ (fn : Str) (ps : List Qn) : Option Qn :=
  if fn = "count" then some ((ps.length : Nat), 1) else if fn = "sum" then some (sumQ ps) else if ps.length = 0 then none else
  if fn = "mean" then some (meanQ ps) else if fn = "median" then some (medQ ps) else if fn = "least" then (ordQ ps)[0]? else (ordQ ps)[ps.length - 1]?
theorem ordQ_getD {ps : List Qn} (g : GoodQ ps) {i : Nat} (h : i < ps.length) : (ordQ ps)[i]? = some ((ordQ ps).getD i (0, 1)) ∧ (ordQ ps).getD i (0, 1) ∈ ps := by
  have e : (ordQ ps)[i]? = some ((ordQ ps).getD i (0, 1)) := by
    rw [List.getD_eq_getElem?_getD, List.getElem?_eq_getElem (by rw [ordQ_len]; exact h)]
    rfl
  exact ⟨e, (ordQ_perm ps).mem_iff.mp (List.mem_of_getElem? e)⟩
theorem totQ_rt {fn : Str} {ps : List Qn} (g : GoodQ ps) {q : Qn} (h : totQ fn ps = some q) : Rt q.1 q.2 := by
  have big : ∀ {i : Nat}, (ordQ ps)[i]? = some q → Rt q.1 q.2 := fun e => (g q ((ordQ_perm ps).mem_iff.mp (List.mem_of_getElem? e))).1
  have r := sumQ_rt g.pos
  unfold totQ at h
  split at h
  · cases h; exact rt_one _
  split at h
  · cases h; exact r
  split at h
  · cases h
  next q0 =>
  split at h
  · cases h
    exact low_rt (Int.mul_pos r.pos (by omega))
  split at h
  · cases h
    have a1 := ordQ_getD g (i := (ps.length - 1) / 2) (by omega)
    have a2 := ordQ_getD g (i := ps.length / 2) (by omega)
    have r2 := sumQ_rt (ps := [(ordQ ps).getD ((ps.length - 1) / 2) (0, 1), (ordQ ps).getD (ps.length / 2) (0, 1)]) fun p hp => by
      simp only [List.mem_cons, List.not_mem_nil, or_false] at hp
      rcases hp with rfl | rfl
      · exact (g _ a1.2).1.pos
      · exact (g _ a2.2).1.pos
    exact low_rt (Int.mul_pos r2.pos (by decide))
  split at h
  · exact big h
  · exact big h
end Lc
set_option Elab.async false
set_option linter.all false
set_option maxRecDepth 100000
set_option maxHeartbeats 4000000
namespace Lc
open PySem PySem.Spec PyProof.Rows L2
/-! ## f(k = v, ..), keywords only -/
section
variable {X : Cx} {CX : CXT} {k : Nat} {f : Addr} {fd : FuncData} {ps ks : List Str} {sp : Sp} {E : XK} {x : Str} {p pos : Pos} {kws : List Keyword} {tk : TA} {g : List Value → List Value → List Value} {gV : List V → List V → List V}
theorem pe_callKO (F : FnOk X.prog X.w X.K X.mg X.base CX k f fd ps sp) (hr : Room k X.A) (hg : Gl X x) (hm : X.mg x = some (.ref f)) (hk : PySem.W.keepIn X.K (.ref f) = true) (hb : KBinds X.K fd ps ks g gV) (hx : Passes CX X E)
    (hkw : PK X kws tk) (hall : (backToKw pos (keywordEach kws X.env)).all (·.1.isSome) = true := by rfl) (hks : (backToKw pos (keywordEach kws X.env)).filterMap (·.1) = ks := by rfl)
    (hdb : (x == ("__debug__" : Str)) = false := by decide) (hpl : ((backTo pos (starEach [] X.env)).any (·.1) || (backToKw pos (keywordEach kws X.env)).any (·.1.isNone)) = false := by rfl) : PE X (.Call (.Name x p) [] kws pos) (tCallK sp gV E tNil tk) := by
  refine ⟨fun pins s σ H Q I h => ?_⟩
  refine wpAny_Call_Name_kw (ld_glob I hg hm ?_ hdb)
  refine PySem.W.callWith_KW0 (h₀ := X.base) I.ok.mod.kin hk hall (thn (hkw.run pos pins s σ H _ I h) fun ws s2 ⟨zs, H2, I2, rz, q2⟩ => ⟨I2.kIn, ?_⟩) hpl
  rw [hks]
  exact run_fnk F hr hb hx I2 .nil rz q2
end
end Lc
set_option Elab.async false
set_option linter.all false
set_option maxRecDepth 100000
set_option maxHeartbeats 4000000
namespace Lc
open PySem PySem.Spec PyProof.Rows L2
/-! ## f(e, .., k = v, ..), f a def of the module that may raise -/
def tCallKS (sp : Sp) (gV : List V → List V → List V) (E : L2.St → XK) (t tk : TA) : TE := fun σ H Q => t σ H fun vs H1 => tk σ H1 fun zs H2 => sp (gV vs zs) H2 Q (E σ)
section
variable {X : Cx} {CX : CXT} {k : Nat} {f : Addr} {fd : FuncData} {ps ks : List Str} {sp : Sp} {E : L2.St → XK} {x : Str} {p pos : Pos} {e : Expr} {es : List Expr} {kws : List Keyword} {t tk : TA} {g : List Value → List Value → List Value} {gV : List V → List V → List V}
theorem pe_callKS (F : FnOk X.prog X.w X.K X.mg X.base CX k f fd ps sp) (hr : Room k X.A) (hg : Gl X x) (hm : X.mg x = some (.ref f)) (hk : PySem.W.keepIn X.K (.ref f) = true) (hb : KBinds X.K fd ps ks g gV) (hx : ∀ σ, PassesAt CX X σ (E σ))
    (ha : PA X (e :: es) t) (hkw : PK X kws tk) (hall : (backToKw pos (keywordEach kws X.env)).all (·.1.isSome) = true := by rfl) (hks : (backToKw pos (keywordEach kws X.env)).filterMap (·.1) = ks := by rfl)
    (hdb : (x == ("__debug__" : Str)) = false := by decide) (he : starEach (e :: es) X.env = (false, eval e X.env) :: starEach es X.env := by rfl)
    (hpl : ((backTo pos (starEach (e :: es) X.env)).any (·.1) || (backToKw pos (keywordEach kws X.env)).any (·.1.isNone)) = false := by rfl) :
    PE X (.Call (.Name x p) (e :: es) kws pos) (tCallKS sp gV E t tk) := by
  refine ⟨fun pins s σ H Q I h => ?_⟩
  refine wpAny_Call_Name_kw (ld_glob I hg hm ?_ hdb)
  refine PySem.W.callWith_KW (h₀ := X.base) I.ok.mod.kin hk hall (thn (ha.run pos pins s σ H _ I h) fun us s1 ⟨vs, H1, I1, r, q⟩ => ?_) hpl he
  refine thn (hkw.run pos pins s1 σ H1 _ I1 q) fun ws s2 ⟨zs, H2, I2, rz, q2⟩ => ⟨I2.kIn, ?_⟩
  rw [hks]
  have r2 := hb.rel r rz
  have hl : (g us ws).length = ps.length := by rw [← r2.length]; exact F.len _ _ _ _ q2
  refine wpAny_call (codeAny_mono (F.run X.A X.stack s2 H2 ⟨us, ks.zip ws⟩ (g us ws) (gV vs zs) Q (E σ) hr I2.env0 (hb.to s2 us ws I2.kIn hl) r2 q2) fun r s' hq => ?_)
  match r, hq with
  | .error er, hq => exact hx σ pins H2 s2 er s' I2 hq
  | .ok (.ret u), hq => exact I2.after hq
  | .ok .next, hq => exact False.elim hq
  | .ok .brk, hq => exact False.elim hq
  | .ok .cont, hq => exact False.elim hq
end
/-- a call that leaves the defaults -/
theorem kb_of {K : PySem.W.Frag} {fd : FuncData} {ps : List Str} {ds : List Value} {dvs : List V} (b : Binds K fd ps ds) (v : Vals dvs ds) : KBinds K fd ps [] (fun us _ => us ++ ds) (fun vs _ => vs ++ dvs) :=
  ⟨fun s us ws hk hl => b s us hk (by simpa [List.length_append] using hl), fun r _ => r.append v⟩
def gKw : {α : Type} → List α → List α → List α → List α := fun a _ c => a ++ c
/-- all keywords given, behind n values -/
def gAt {α : Type} (n m : Nat) (us ws : List α) : List α := if us.length = n ∧ ws.length = m then us ++ ws else []
theorem kb_at {K : PySem.W.Frag} {fd : FuncData} {ps ks : List Str} {n : Nat} (h : KBn K fd ps n ks (fun us ws => us ++ ws) (fun vs zs => vs ++ zs)) (hp : ps.length ≠ 0) : KBinds K fd ps ks (gAt n ks.length) (gAt n ks.length) := by
  refine ⟨fun s us ws X l => ?_, fun {vs us zs ws} r rz => ?_⟩
  · unfold gAt at l ⊢
    by_cases q : us.length = n ∧ ws.length = ks.length
    · rw [if_pos q]
      exact h.to s us ws X q.1 q.2
    · rw [if_neg q] at l
      exact absurd l.symm hp
  · unfold gAt
    by_cases q : us.length = n ∧ ws.length = ks.length
    · rw [if_pos q, if_pos (by rw [r.length, rz.length]; exact q)]
      exact r.append rz
    · rw [if_neg q, if_neg (by rw [r.length, rz.length]; exact q)]
      exact .nil
end Lc
set_option Elab.async false
set_option linter.all false
set_option maxRecDepth 100000
set_option maxHeartbeats 4000000
namespace Lc
open PySem PySem.Spec PyProof.Rows L2 LamX NdefX
/-! ## sorted(xs, key = a lambda) -/
section
variable {X : Cx} {pins : List (Addr × Obj)} {σ : L2.St} {H : Hp} {s : Shared} {h' : Heap}
/-- of objects that may turn, one is told from now on -/
theorem told_one {t' : Nat} {ch : List Addr} {a : Addr} {o : HO} (I : Inv X pins σ H s) (mem : a ∈ ch) (can : ∀ b ∈ ch, FpOk X pins H b) (stays : ∀ b u, b ∉ ch → s.heap.get? b = some u → h'.get? b = some u)
    (now : ObjOk X.prog X.w (upd H a o) h' a o) : Inv X pins σ (upd H a o) { s with heap := h', toks := t' } := by
  have no : H a = none := (can a mem).1
  have far : ∀ {b u}, H b = some u → b ∉ ch := fun {b u} e z => by
    have q := (can b z).1
    rw [e] at q
    cases q
  have other : ∀ {b u}, H b = some u → upd H a o b = some u := fun e => by rw [upd_ne (ne_of_none e no)]; exact e
  refine I.step (g' := s.gens) (d' := s.drawn) (ch := ch) (fun b z => ?_) (fun b u _ _ z e _ => stays b u z e) (fun b u _ _ z e _ => ⟨u.slots, stays b u z e⟩) (fun b u z _ n => ?_) (fun b u z e => ⟨u, stays b u z e⟩)
    (fun b xs e => other e) (fun b ob u e => other e) (fun b ps e => ⟨#[], by rw [other e]; simp⟩) (fun m hm => ?_) (fun b u e => ?_) I.bare
  · obtain ⟨_, q2, _, q4, q5, q6⟩ := can b z
    exact ⟨q4, q2, q5, q6⟩
  · rw [upd_ne (fun q => z (by rw [q]; exact mem))]
    exact n
  · obtain ⟨ob, es, ep, e, q⟩ := hm
    exact ⟨ob, es, ep, stays _ _ (fun z => (can _ z).2.1 rfl) e, q⟩
  · by_cases z : b = a
    · rw [z, upd_same] at e
      rw [z, ← Option.some.inj e]
      exact now
    · rw [upd_ne z] at e
      refine (I.hok b u e).stay (fun c v hc q => stays c v ?_ q) (fun c q => other q) fun c xs q => other q
      rcases hc with rfl | hc
      · exact far e
      · exact far hc
/-- what a call leaves of ours: the told things are the same, the untold ones stay -/
structure Left (X : Cx) (H : Hp) (s s' : Shared) : Prop where
  os : s'.os = s.os
  bare : AllBare s'.gens
  un : Un (frs X.stack) [] H H s.heap s'.heap
  hok : HOk X.prog X.w H s'.heap
theorem Left.inv {s' : Shared} (l : Left X H s s') (I : Inv X pins σ H s) : Inv X pins σ H s' := I.call' (ch := []) l.os l.un l.hok l.bare (fun b z => absurd z (by simp))
theorem Left.at {s' : Shared} (l : Left X H s s') {b : Addr} {o : Obj} (e : s.heap.get? b = some o) (n : H b = none) (z : b ∉ frs X.stack) : s'.heap.get? b = some o := l.un.keep b o e n z (by simp)
theorem fp_nf {b : Addr} (I : Inv X pins σ H s) (f : FpOk X pins H b) : b ∉ frs X.stack := fun z => by
  obtain ⟨_, q2, q3, _⟩ := f
  rcases List.mem_cons.mp (I.stkSub b z) with e | e
  · exact q2 e
  · exact q3 e
/-- keys that hold nothing of the heap -/
def KeyV (u : Value) (d : PyData) : Prop := ∀ h : Heap, Reads h u d []
theorem keyV_of {v : V} {u : Value} {d : PyData} (r : RelV v u) (k : (∃ i, v = .int i ∧ d = .int i) ∨ (∃ x, v = .str x ∧ d = .str x) ∨ ∃ b, v = .bl b ∧ d = .bool b) : KeyV u d := fun h => by
  rcases k with ⟨i, rfl, rfl⟩ | ⟨x, rfl, rfl⟩ | ⟨b, rfl, rfl⟩
  · obtain ⟨t, rfl⟩ := (show ∃ t, u = Value.int i t from r)
    exact .int i t
  · obtain ⟨t, rfl⟩ := (show ∃ t, u = Value.str x t from r)
    exact .str x t
  · obtain rfl : u = Value.bool b := r
    exact .bool b
/-- the walk that asks for the keys, then the sort -/
theorem keys_then_sort {A : Around} {f : Addr} {fo : Obj} {a kS : Addr} {e1 : Nat} {us : List Value} {kz : List PyData} {b : Bool} {P : PySem.Fin → Shared → Prop} {E : Value → Shared → Prop} (I : Inv X pins σ H s) (ca : FpOk X pins H a) (ck : FpOk X pins H kS) (hka : kS ≠ a)
    (nf : H f = none) (zf : f ∉ frs X.stack) (fk : f ≠ kS) (of : s.heap.get? f = some fo) (nk : s.heap.get? kS = some (seqObj "list" #[] 0)) (na : s.heap.get? a = some (seqObj "list" #[] e1))
    (hlen : kz.length = us.length) (hZ : us.length ≤ sizeLine) (hal : PySem.W.AllAlike kz) (hsk : PySem.W.Sortable kz) (hu : ∀ d, d ∈ kz → A.units + d.depth < cLine)
    (turn : ∀ (i : Nat) (u : Value) (d : PyData) (s1 : Shared), us[i]? = some u → kz[i]? = some d → Inv X pins σ H s1 → s1.heap.get? f = some fo → (∀ b o, b ≠ kS → b ≠ a → b ∉ frs X.stack → H b = none → s.heap.get? b = some o → s1.heap.get? b = some o) →
      wpAny (model X.prog X.w) A (call (.ref f) [u]) (fun v s2 => KeyV v d ∧ Left X H s1 s2) (fun _ _ => False) s1)
    (done : ∀ (s3 : Shared) (out : List Value) (c : Nat), (∀ ys : List V, Vals ys out → ys.length ≤ sizeLine → Inv X pins σ (upd H a (.lst ys)) s3) → PySem.W.KeyedOut b kz us out → P (.done (.ret .none)) s3) :
    wpAny (model X.prog X.w) A (ksk_rest a (.ref f) b us.toArray e1 (.ref kS)) P E s := by
  unfold ksk_rest
  refine wpAny_bind (wpAny_rule ?_)
  rw [← Array.forIn_toList]
  have za := fp_nf I ca
  have zk := fp_nf I ck
  refine wpAny_bind (ksk_fold (fun i s' => ∃ kA e, Inv X pins σ H s' ∧ s'.heap.get? f = some fo ∧ s'.heap.get? kS = some (seqObj "list" kA e) ∧ s'.heap.get? a = some (seqObj "list" #[] e1) ∧
      (∀ b o, b ≠ kS → b ≠ a → b ∉ frs X.stack → H b = none → s.heap.get? b = some o → s'.heap.get? b = some o) ∧ PySem.W.EachIs (fun v d => KeyV v d) kA.toList (kz.take i)) us.toArray.toList 0 s
    ⟨#[], 0, I, of, nk, na, fun _ _ _ _ _ _ e => e, by rw [List.take_zero]; exact .nil⟩ ?_ ?_)
  · rintro j u s' hx ⟨kA, e, I', of', nk', na', st, hk⟩
    simp only [Nat.zero_add] at hk ⊢
    have hx : us[j]? = some u := by simpa using hx
    have hj : j < us.length := (List.getElem?_eq_some_iff.mp hx).1
    obtain ⟨d, hd⟩ : ∃ d, kz[j]? = some d := ⟨_, List.getElem?_eq_getElem (by omega)⟩
    have hz : kA.size ≤ us.length := by
      have h1 := hk.length
      rw [Array.length_toList, List.length_take] at h1
      omega
    refine wpAny_bind (wpAny_attempt (wpAny_mono (turn j u d s' hx hd I' of' st) (fun v s2 he => ?_) fun _ _ z => z.elim))
    obtain ⟨kv, lf⟩ := he
    have I2 := lf.inv I'
    have of2 := lf.at of' nf zf
    have nk2 := lf.at nk' ck.1 zk
    have na2 := lf.at na' ca.1 za
    have sb := Heap.SameBut.update s2.heap kS (Obj.mapSeq (·.push v))
    obtain ⟨c2, hc2⟩ : ∃ c2, (s2.heap.update kS (Obj.mapSeq (·.push v))).get? kS = some (seqObj "list" (kA.push v) c2) := ⟨_, get?_update_seq nk2 (·.push v)⟩
    have st2 : ∀ b o, b ≠ kS → s2.heap.get? b = some o → (s2.heap.update kS (Obj.mapSeq (·.push v))).get? b = some o := fun b o hb q => (sb.2 b hb).trans q
    refine wpAny_bind (listUpdate_at nk2 rfl ?_ (Nat.le_trans hz hZ) (Nat.le_trans (Nat.le_of_eq (Array.size_push ..)) (Nat.succ_le_succ (Nat.le_trans hz hZ))))
    have I3 : Inv X pins σ H { s2 with heap := s2.heap.update kS (Obj.mapSeq (·.push v)) } := I2.turned (t' := s2.toks) (it := kS) (fun b o hb q => st2 b o hb q) ck.1 ck.2.1 ck.2.2.2.1 ck.2.2.2.2.1 ck.2.2.2.2.2
    refine wpAny_pure ⟨rfl, kA.push v, c2, I3, st2 _ _ fk of2, hc2, st2 _ _ hka.symm na2, fun b o h1 h2 h3 h4 q => st2 _ _ h1 (lf.at (st b o h1 h2 h3 h4 q) h4 h3), ?_⟩
    rw [show kz.take (j + 1) = kz.take j ++ [d] by rw [List.take_add_one, hd]; simp, show (kA.push v).toList = kA.toList ++ [v] by simp]
    exact PySem.W.each_snoc kv hk
  · rintro s' ⟨kA, e, I', of', nk', na', st, hk⟩
    have hk' : PySem.W.EachIs (fun v d => ∃ as, Reads s'.heap v d as) kA.toList kz := by
      rw [show kz.take (0 + us.toArray.toList.length) = kz from List.take_of_length_le (by simp; omega)] at hk
      exact hk.mono fun v d q => ⟨[], q _⟩
    have hsz : kA.size = us.length := by
      have h1 := hk'.length
      rw [Array.length_toList] at h1
      omega
    try dsimp only
    refine wpAny_bind (listItems_at nk' rfl ?_)
    obtain ⟨G, g1, g2⟩ := restrict s'.heap fun b => decide (b ≠ kS)
    have gk : G.get? kS = none := g2 kS (decide_eq_false fun z => z rfl)
    refine PySem.W.keyH_end (κ := PySem.W.dataKind s'.heap kz) (h₁ := G) (fun b o hb q => ?_) gk nk' na' hka (PySem.W.SortsAt.data hk' hal hsk hu) hsz hZ fun h3 tk3 c k3 n3 => ?_
    · have nb : b ≠ kS := fun z => by rw [z, gk] at q; cases q
      rw [g1 b (decide_eq_true nb)] at q
      exact q
    · refine done _ _ c (fun ys r l => ?_) ⟨s'.heap, kA.toList, hal, rfl, hk'⟩
      refine told_one (ch := [kS, a]) I' (by simp) (fun b hb => ?_) (fun b u hb q => ?_) ⟨l, _, c, r, n3⟩
      · simp only [List.mem_cons, List.not_mem_nil, or_false] at hb
        rcases hb with rfl | rfl
        · exact ck
        · exact ca
      · simp only [List.mem_cons, List.not_mem_nil, or_false, not_or] at hb
        exact k3 b u hb.2 (by rw [g1 b (decide_eq_true hb.1)]; exact q)
/-- sorted(l, key = f, ..), f an object of ours -/
theorem sorted_by_key {f l : Addr} {fo : Obj} {b : Bool} {kw : List (Str × Value)} {bs : List (V × PyData)} {Q : VK} (I : Inv X pins σ H s) (hl : SqL X.K H l (bs.map (·.1))) (nf : H f = none) (zf : f ∉ frs X.stack) (of : s.heap.get? f = some fo)
    (hal : PySem.W.AllAlike (bs.map (·.2))) (hsk : PySem.W.Sortable (bs.map (·.2))) (hu : ∀ x ∈ bs, X.A.units + 2 + x.2.depth < cLine) (ha1 : argsOk "sorted" ⟨[.ref l], kw⟩) (ha2 : ∀ x, argsOk "list.sort" ⟨[.ref x], kw⟩) (ht : ∀ x, Builtin.«list.sort» ⟨[.ref x], kw⟩ = ksk_tree x (.ref f) b)
    (turn : ∀ (u : Value) (x : V × PyData) (s1 : Shared), x ∈ bs → RelV x.1 u → Inv X pins σ H s1 → s1.heap.get? f = some fo → (∀ b o, b ∉ frs X.stack → H b = none → s.heap.get? b = some o → s1.heap.get? b = some o) →
      wpAny (model X.prog X.w) X.A.in1.in1 (call (.ref f) [u]) (fun v s2 => KeyV v x.2 ∧ Left X H s1 s2) (fun _ _ => False) s1)
    (q : ∀ p, H p = none → Q (.ref p) (upd H p (.lst ((bs.mergeSort (PySem.W.dataLe b (·.2))).map (·.1))))) : wpAny (model X.prog X.w) X.A (call (.builtin "sorted") [.ref l] kw) (EP X pins σ Q) X.xe s := by
  obtain ⟨us, rv, pl, hz⟩ := I.list hl
  have lb : us.length = bs.length := by rw [← rv.length, List.length_map]
  have hZ : us.length ≤ sizeLine := by rw [← rv.length]; exact hz
  refine PySem.W.sorted_of_sort (vs := us) pl.isList hZ ha1 ha2 fun E' => ?_
  rw [ht]
  generalize hA : s.heap.objs.size + 1 = a
  have oa : (PySem.W.copyHeap s.heap us).get? a = some (seqObj "list" us.toArray 0) := by rw [← hA]; exact PySem.W.copyHeap_at _ _
  have ha1' : s.heap.objs.size < a := by rw [← hA]; exact Nat.lt_succ_self _
  have ga : s.heap.objs.size ≤ a := Nat.le_of_lt ha1'
  have naH : H a = none := I.hok.fresh ga
  have la := Heap.lt_size oa
  obtain ⟨e1, ho1⟩ : ∃ e1, ((PySem.W.copyHeap s.heap us).update a (Obj.mapSeq fun _ => (#[] : Array Value))).get? a = some (seqObj "list" #[] e1) := ⟨_, get?_update_seq oa fun _ => #[]⟩
  unfold ksk_tree
  refine wpAny_bind (listItems_at (s := { s with heap := PySem.W.copyHeap s.heap us }) oa rfl ?_)
  refine wpAny_bind (listUpdate_at (s := { s with heap := PySem.W.copyHeap s.heap us }) oa rfl ?_ (by rw [List.size_toArray]; exact hZ) (Nat.zero_le _))
  refine wpAny_bind (seqEpoch_at ho1 rfl ?_)
  refine wpAny_bind (wpAny_newTuple ?_ (by show us.length ≤ _; exact hZ))
  refine wpAny_bind (wpAny_newList ?_ (Nat.zero_le _))
  refine wpAny_holding ?_
  generalize hh3 : ((PySem.W.copyHeap s.heap us).update a (Obj.mapSeq fun _ => (#[] : Array Value))).push (seqObj "tuple" us.toArray 0) = h3
  have hk3 : (PySem.W.copyHeap s.heap us).objs.size < h3.objs.size := by rw [← hh3, size_push', Heap.size_update]; exact Nat.lt_succ_self _
  have old : ∀ b o, s.heap.get? b = some o → (h3.push (seqObj "list" #[] 0)).get? b = some o := fun b o e => by
    have nb : b ≠ a := Nat.ne_of_lt (Nat.lt_trans (Heap.lt_size e) ha1')
    rw [← hh3]
    refine Heap.get?_push_of_some _ (Heap.get?_push_of_some _ ?_)
    rw [Heap.get?_update_ne _ _ _ _ nb]
    exact PySem.W.copyHeap_old e
  have I2 : Inv X pins σ H { s with heap := h3.push (seqObj "list" #[] 0) } := I.kept (t' := s.toks) old
  have hak : a < h3.objs.size := Nat.lt_trans la hk3
  have gk : s.heap.objs.size ≤ h3.objs.size := Nat.le_trans ga (Nat.le_of_lt hak)
  have nkH : H h3.objs.size = none := I.hok.fresh gk
  have fl := Heap.lt_size of
  refine keys_then_sort (kS := h3.objs.size) (kz := bs.map (·.2)) (fo := fo) I2 (I.fpOk ga naH) (I.fpOk gk nkH) (Nat.ne_of_gt hak) nf zf (Nat.ne_of_lt (Nat.lt_of_lt_of_le fl gk)) (old _ _ of) (Heap.get?_push_size _ rfl) (by rw [← hh3]; exact Heap.get?_push_of_some _ (Heap.get?_push_of_some _ ho1)) (by rw [List.length_map, lb]) hZ hal hsk
    (fun d hd => ?_) (fun i u d s1 hi hd I1 of1 st => ?_) fun s3 out c iv ko => ⟨rfl, ?_⟩
  · obtain ⟨x, hx, rfl⟩ := List.mem_map.mp hd
    exact hu x hx
  · rw [List.getElem?_map] at hd
    obtain ⟨x, hx, rfl⟩ := Option.map_eq_some_iff.mp hd
    obtain ⟨u', hu', ru⟩ := rv.get (show (bs.map (·.1))[i]? = some x.1 by rw [List.getElem?_map, hx]; rfl)
    rw [hi] at hu'
    obtain rfl := Option.some.inj hu'
    refine turn u x s1 (List.mem_of_getElem? hx) ru I1 of1 fun b o z n e => st b o (Nat.ne_of_lt (Nat.lt_of_lt_of_le (Heap.lt_size e) gk)) (Nat.ne_of_lt (Nat.lt_trans (Heap.lt_size e) ha1')) z n (old b o e)
  · have ea : PySem.W.EachIs (fun (u : Value) (x : V × PyData) => RelV x.1 u) us bs := by
      have key : ∀ (bs : List (V × PyData)) (us : List Value), Vals (bs.map (·.1)) us → PySem.W.EachIs (fun (u : Value) (x : V × PyData) => RelV x.1 u) us bs := by
        intro bs
        induction bs with
        | nil => intro us r; cases r; exact .nil
        | cons x bs ih =>
          intro us r
          rw [List.map_cons] at r
          cases r with
          | cons r1 r2 => exact .cons r1 (ih _ r2)
      exact key bs us rv
    have eo := PySem.W.keyedOut_each (fun x : V × PyData => x.2) ko ea
    have vo : Vals ((bs.mergeSort (PySem.W.dataLe b (·.2))).map (·.1)) out := by
      have key : ∀ (cs : List (V × PyData)) (us : List Value), PySem.W.EachIs (fun (u : Value) (x : V × PyData) => RelV x.1 u) us cs → Vals (cs.map (·.1)) us := by
        intro cs us e
        induction e with
        | nil => exact .nil
        | cons h r ih => exact .cons h ih
      exact key _ _ eo
    exact ⟨.ref a, _, iv _ vo (by rw [List.length_map, List.length_mergeSort, ← lb]; exact hZ), rfl, q a naH⟩
end
/-- a key as the sort knows it -/
def KeyD (v : V) (d : PyData) : Prop := (∃ i, v = .int i ∧ d = .int i) ∨ (∃ x, v = .str x ∧ d = .str x) ∨ ∃ b, v = .bl b ∧ d = .bool b
/-- the words of a lambda that X makes -/
abbrev lamW (X : Cx) (params : Arguments) (scope : Scope) (c : Addr) : NF := ⟨"<lambda>", X.env.qual ++ "<lambda>", params, [], scope, cloFrom X.env.cells scope.names [], c⟩
section
variable {X : Cx} {pins : List (Addr × Obj)} {σ : L2.St} {H : Hp} {s : Shared}
/-- the lambda asked about one item -/
theorem lam_ask {N fr : List Str} {row : Str} {js : List Nat} {k : Nat} {f c : Addr} {pm ctv u : Value} {params : Arguments} {body : Expr} {scope : Scope} {tb : TE} {x : V} {d : PyData} {A : Around} (I : Inv X pins σ H s) (S : NScope N [row] fr scope) (cp : Caps X (cloFrom X.env.cells scope.names []) fr js)
    (of : s.heap.get? f = some (PySem.W.kla_obj "<lambda>" (X.env.qual ++ "<lambda>") params body scope (cloFrom X.env.cells scope.names []) pm c ctv)) (hc : H c = some (CodeO c (X.env.qual ++ "<lambda>"))) (hfr : A.frames = X.A.frames) (hr : Room (k + 1) A)
    (hbind : ∀ (q : Str) (cl : List (Str × Addr)) (pm cv ctv u : Value), bindArgs (PySem.W.kla_fn "<lambda>" q params body scope cl pm cv ctv) ⟨[u], []⟩ = pure [(row, u)])
    (hbody : ∀ (c : Addr) (A : Around) (outer : List Env) (s : Shared) (H : Hp) (f : Addr), Room k (A.deeper (envF (lamW X params scope c) f s.heap.objs.size)) → PE (ncx C8.CX0 X.prog X.w X.K X.mg X.base N (lamW X params scope c) f A outer s H C8.E0) body tb)
    (ru : RelV x u) (ht : tb (startF N [x] (js.map (slotAt σ))) H (fun v H' => H' = H ∧ KeyD v d)) : wpAny (model X.prog X.w) A (call (.ref f) [u]) (fun v s2 => KeyV v d ∧ Left X H s s2) (fun _ _ => False) s := by
  have e0 : Env0 X.prog X.w X.K X.mg X.base A X.stack s H := ⟨hfr.trans I.env0.frames, I.env0.mod, I.env0.bs, I.env0.bsz, I.env0.funs, I.env0.frf, I.env0.hok, I.env0.bare⟩
  refine wpAny_call (PySem.W.kla_callFunE hr.depth of rfl S.co S.gen rfl (codeO_at I.hok hc) ?_)
  rw [hbind]
  refine wpAny_pure (wpAny_newFunctionEnv S.nocell (fun y hy => S.par y.1 (by rw [List.mem_singleton.mp hy]; exact List.mem_singleton_self _)) (fun h₁ hns hsb => ⟨I.nolimit.fresh _ hsb, ?_⟩) S.kind)
  show codeAny _ _ (.expr body (envF (lamW X params scope c) f s.heap.objs.size)) _ _
  have kp : ∀ b o, s.heap.get? b = some o → h₁.get? b = some o := fun b o e => hsb.extBut b o (Nat.ne_of_lt (Heap.lt_size e)) (Heap.get?_push_of_some _ e)
  have J : Inv (ncx C8.CX0 X.prog X.w X.K X.mg X.base N (lamW X params scope c) f A X.stack s H C8.E0) [] (startF N [x] (js.map (slotAt σ))) H { s with heap := h₁, toks := s.toks + [(row, u)].length } :=
    inv_startN (ps := [row]) (us := [u]) S hr.hd e0 rfl (.cons ru .nil) (cells_of I cp) hns kp
  refine PySem.W.kla_codeExpr (wpAny_mono ((hbody c A X.stack s H f (hr.deeper _)).run [] _ _ H _ J ht) (fun v s' hq => ?_) fun e s' hq => hq)
  obtain ⟨w', H', J', rv, rfl, kd⟩ := hq
  exact ⟨keyV_of rv kd, J'.os, J'.bare, J'.base, J'.hok⟩
/-- sorted(e, key = lambda row: body[, reverse = True]) -/
def tSortL (K : PySem.W.Frag) (T : List (Addr × Str)) (b : Bool) (N : List Str) (js : List Nat) (te tb : TE) : TE := fun σ H Q => te σ H fun y H1 => Tabs T H1 ∧ ∀ H2, ExtN H1 H2 → Tabs T H2 → ∃ (l : Addr) (bs : List (V × PyData)), y = .ref l ∧ SqL K H2 l (bs.map (·.1)) ∧ PySem.W.AllAlike (bs.map (·.2)) ∧ PySem.W.Sortable (bs.map (·.2)) ∧
  (∀ x ∈ bs, x.2.depth ≤ 50) ∧ (∀ x ∈ bs, tb (startF N [x.1] (js.map (slotAt σ))) H2 (fun v H' => H' = H2 ∧ KeyD v x.2)) ∧ ∀ p, H2 p = none → Q (.ref p) (upd H2 p (.lst ((bs.mergeSort (PySem.W.dataLe b (·.2))).map (·.1))))
theorem sort_at {T : List (Addr × Str)} {c0 P : Addr} {N fr : List Str} {row : Str} {js : List Nat} {k : Nat} {params : Arguments} {body : Expr} {scope : Scope} {tb : TE} {lpos : Pos} {b : Bool} {v : Value} {y : V} {more : Addr → List (Str × Value)} {Q : VK}
    (TB : TabB X.base X.mg c0 P) (hcode : X.env.code = .ref c0) (hmT : (P, X.env.qual ++ "<lambda>") ∈ T) (hu : ∀ p ∈ T, p.1 = P → p.2 = X.env.qual ++ "<lambda>") (hr : Room (k + 3) X.A) (S : NScope N [row] fr scope) (hfree : ∀ y ∈ scope.names, y.2 = .free → X.env.scope.names.lookup y.1 = some .cell ∨ X.env.scope.names.lookup y.1 = some .free)
    (hfs : ∀ y ∈ fr, (y, NameKind.free) ∈ scope.names) (hjs : js.map (fun j => X.N[j]?) = fr.map some) (hdef : defaultsOf params X.env = ([], [])) (hbind : ∀ (q : Str) (cl : List (Str × Addr)) (pm cv ctv u : Value), bindArgs (PySem.W.kla_fn "<lambda>" q params body scope cl pm cv ctv) ⟨[u], []⟩ = pure [(row, u)])
    (hbody : ∀ (c : Addr) (A : Around) (outer : List Env) (s : Shared) (H : Hp) (f : Addr), Room k (A.deeper (envF (lamW X params scope c) f s.heap.objs.size)) → PE (ncx C8.CX0 X.prog X.w X.K X.mg X.base N (lamW X params scope c) f A outer s H C8.E0) body tb)
    (ha1 : ∀ l f, argsOk "sorted" ⟨[.ref l], more f⟩) (ha2 : ∀ x f, argsOk "list.sort" ⟨[.ref x], more f⟩) (hst : ∀ x f, Builtin.«list.sort» ⟨[.ref x], more f⟩ = ksk_tree x (.ref f) b)
    (I : Inv X pins σ H s) (ry : RelV y v) (h : tSortL X.K T b N js (fun _ H Q => Q y H) tb σ H Q) :
    wpAny (model X.prog X.w) X.A (eval (.Lambda params body scope lpos) X.env) (fun u s1 => ∃ f, u = .ref f ∧ wpAny (model X.prog X.w) X.A (call (.builtin "sorted") [v] (more f)) (EP X pins σ Q) X.xe s1) X.xe s := by
  obtain ⟨hT, h⟩ := h
  have cells : ∀ y ∈ scope.names, y.2 = .free → ∃ c, X.env.cells.lookup y.1 = some c := fun y hy e => I.ok.has _ (hfree y hy e)
  refine lam_make2 I TB hcode hmT hu hT hdef cells fun f c pm ctv H1 s1 I1 eN T1 of nf zf hco => ⟨f, rfl, ?_⟩
  obtain ⟨l, bs, rfl, hl, hal, hsk, hd, hb, q⟩ := h H1 eN T1
  obtain rfl : v = Value.ref l := ry
  have cp := Caps.made I1.ok hfree hfs hjs
  have h1 := hr.un
  refine sorted_by_key (b := b) I1 hl nf zf of hal hsk (fun x hx => ?_) (ha1 l f) (fun x => ha2 x f) (fun x => hst x f) (fun u x s2 hx ru I2 of2 _ => ?_) q
  · have := hd x hx
    omega
  · exact lam_ask (k := k) I2 S cp of2 hco rfl (Room.in1 (Room.in1 hr)) hbind hbody ru (hb x hx)
theorem pe_sortLam {T : List (Addr × Str)} {c0 P : Addr} {N fr : List Str} {row : Str} {js : List Nat} {k : Nat} {params : Arguments} {body e : Expr} {scope : Scope} {te tb : TE} {lpos p pos kp : Pos} (TB : TabB X.base X.mg c0 P) (hcode : X.env.code = .ref c0) (hmT : (P, X.env.qual ++ "<lambda>") ∈ T) (hu : ∀ p ∈ T, p.1 = P → p.2 = X.env.qual ++ "<lambda>") (hr : Room (k + 3) X.A) (S : NScope N [row] fr scope) (hfree : ∀ y ∈ scope.names, y.2 = .free → X.env.scope.names.lookup y.1 = some .cell ∨ X.env.scope.names.lookup y.1 = some .free)
    (hfs : ∀ y ∈ fr, (y, NameKind.free) ∈ scope.names) (hjs : js.map (fun j => X.N[j]?) = fr.map some) (hg : Gl X "sorted") (hm : X.mg "sorted" = none) (ha : PA X [e] (tCons te tNil))
    (hbody : ∀ (c : Addr) (A : Around) (outer : List Env) (s : Shared) (H : Hp) (f : Addr), Room k (A.deeper (envF (lamW X params scope c) f s.heap.objs.size)) → PE (ncx C8.CX0 X.prog X.w X.K X.mg X.base N (lamW X params scope c) f A outer s H C8.E0) body tb)
    (hdef : defaultsOf params X.env = ([], []) := by rfl) (hbind : ∀ (q : Str) (cl : List (Str × Addr)) (pm cv ctv u : Value), bindArgs (PySem.W.kla_fn "<lambda>" q params body scope cl pm cv ctv) ⟨[u], []⟩ = pure [(row, u)] := by intro _ _ _ _ _ _; rfl)
    (hst : backTo pos (starEach [e] X.env) = (false, eval e X.env) :: backTo pos (starEach [] X.env) := by rfl) (hpl : (backTo pos (starEach [e] X.env)).any (·.1) = false := by rfl) :
    PE X (.Call (.Name "sorted" p) [e] [⟨some "key", .Lambda params body scope lpos, kp⟩] pos) (tSortL X.K T false N js te tb) := by
  refine ⟨fun pins s σ H Q I h => ?_⟩
  refine wpAny_Call_Name_kw (ld_blt (u := .builtin "sorted") I hg hm (by decide +kernel) ?_)
  refine PyProof.Rows.callWith_kw (thn (ha.run pos pins s σ H (fun vs H1 => match vs with
    | [y] => tSortL X.K T false N js (fun _ H Q => Q y H) tb σ H1 Q
    | _ => False) I h) fun us s1 ⟨vs, H1, I1, r1, q1⟩ => ?_) hst hpl (by rfl) (by rfl)
  match vs, r1, q1 with
  | [y], r1, q1 =>
    obtain ⟨v, rfl, ry⟩ := vals1 r1
    refine PyProof.Rows.kwAll_cons (thn (sort_at (b := false) (more := fun f => [(Str.ofString "key", .ref f)]) TB hcode hmT hu hr S hfree hfs hjs hdef hbind hbody (fun l f => PyProof.Rows.ksk_s1 _ _) (fun x f => PyProof.Rows.ksk_l1 _ _) (fun x f => PyProof.Rows.ksk_t1 f x) I1 ry q1) fun u s2 hh => PyProof.Rows.kwAll_nil ?_)
    obtain ⟨f, rfl, hh⟩ := hh
    exact hh
theorem pe_sortLamR {T : List (Addr × Str)} {c0 P : Addr} {N fr : List Str} {row : Str} {js : List Nat} {k : Nat} {params : Arguments} {body e : Expr} {scope : Scope} {te tb : TE} {lpos p pos kp kp2 cp : Pos} {j0 : Nat} (TB : TabB X.base X.mg c0 P) (hcode : X.env.code = .ref c0) (hmT : (P, X.env.qual ++ "<lambda>") ∈ T) (hu : ∀ p ∈ T, p.1 = P → p.2 = X.env.qual ++ "<lambda>") (hr : Room (k + 3) X.A) (S : NScope N [row] fr scope) (hfree : ∀ y ∈ scope.names, y.2 = .free → X.env.scope.names.lookup y.1 = some .cell ∨ X.env.scope.names.lookup y.1 = some .free)
    (hfs : ∀ y ∈ fr, (y, NameKind.free) ∈ scope.names) (hjs : js.map (fun j => X.N[j]?) = fr.map some) (hg : Gl X "sorted") (hm : X.mg "sorted" = none) (ha : PA X [e] (tCons te tNil))
    (hbody : ∀ (c : Addr) (A : Around) (outer : List Env) (s : Shared) (H : Hp) (f : Addr), Room k (A.deeper (envF (lamW X params scope c) f s.heap.objs.size)) → PE (ncx C8.CX0 X.prog X.w X.K X.mg X.base N (lamW X params scope c) f A outer s H C8.E0) body tb)
    (hdef : defaultsOf params X.env = ([], []) := by rfl) (hbind : ∀ (q : Str) (cl : List (Str × Addr)) (pm cv ctv u : Value), bindArgs (PySem.W.kla_fn "<lambda>" q params body scope cl pm cv ctv) ⟨[u], []⟩ = pure [(row, u)] := by intro _ _ _ _ _ _; rfl)
    (hst : backTo pos (starEach [e] X.env) = (false, eval e X.env) :: backTo pos (starEach [] X.env) := by rfl) (hpl : (backTo pos (starEach [e] X.env)).any (·.1) = false := by rfl) :
    PE X (.Call (.Name "sorted" p) [e] [⟨some "key", .Lambda params body scope lpos, kp⟩, ⟨some "reverse", .Constant (.bool true) j0 cp, kp2⟩] pos) (tSortL X.K T true N js te tb) := by
  refine ⟨fun pins s σ H Q I h => ?_⟩
  refine wpAny_Call_Name_kw (ld_blt (u := .builtin "sorted") I hg hm (by decide +kernel) ?_)
  refine PyProof.Rows.callWith_kw (thn (ha.run pos pins s σ H (fun vs H1 => match vs with
    | [y] => tSortL X.K T true N js (fun _ H Q => Q y H) tb σ H1 Q
    | _ => False) I h) fun us s1 ⟨vs, H1, I1, r1, q1⟩ => ?_) hst hpl (by rfl) (by rfl)
  match vs, r1, q1 with
  | [y], r1, q1 =>
    obtain ⟨v, rfl, ry⟩ := vals1 r1
    refine PyProof.Rows.kwAll_cons (thn (sort_at (b := true) (more := fun f => [(Str.ofString "key", .ref f), (Str.ofString "reverse", .bool true)]) TB hcode hmT hu hr S hfree hfs hjs hdef hbind hbody (fun l f => PyProof.Rows.ksk_s2 _ _ _) (fun x f => PyProof.Rows.ksk_l2 _ _ _) (fun x f => PyProof.Rows.ksk_t2 f x true) I1 ry q1) fun u s2 hh => PyProof.Rows.kwAll_cons (wpAny_Constant_bool (PyProof.Rows.kwAll_nil ?_)))
    obtain ⟨f, rfl, hh⟩ := hh
    exact hh
end
/-- a def whose code object is known -/
theorem Fun.okc {P : Program} {w : World} {K : PySem.W.Frag} {mg : Str → Option Value} {base : Heap} {CX : CXT} {x qual : Str} {st : Stmt} {f c : Addr} {fd : FuncData} {N ps : List Str} {k : Nat} {sp : Sp} (F : Fun K x qual st f fd) (hc : fd.code = .ref c) (S : FnScope N ps (defScope st)) (len : ∀ vs H Q E, sp vs H Q E → vs.length = ps.length)
    (go : ∀ (A : Around) (outer : List Env) (s : Shared) (H : Hp) (vs : List V) (Q : VK) (E : XK), Room k (A.deeper (envOfC qual (defScope st) s.heap.objs.size f (.ref c))) → sp vs H Q E →
      ∃ t, PSs (cxOf CX P w K mg base N qual (defScope st) f (.ref c) A outer s H E) (defBody st) t ∧ t { nx := fun _ H' => Q .non H', rt := Q } (L2.start N vs) H) : FnOk P w K mg base CX (k + 1) f fd ps sp := by
  obtain ⟨oc, od, kV, doc, pm, an, cdv, ct, osl, rfl, lk, hcd⟩ := F.ex
  obtain rfl : cdv = .ref c := hc
  exact fn_of lk hcd S len fun A outer s H vs Q E hr hsp => go A outer s H vs Q E hr hsp
end Lc
set_option Elab.async false
set_option linter.all false
set_option maxRecDepth 100000
set_option maxHeartbeats 4000000
namespace Lc
open PySem PySem.Spec PyProof.Rows L2 LamX NdefX
/-! ## min, max and sorted with a def as the key -/
section
variable {X : Cx} {pins : List (Addr × Obj)} {σ : L2.St} {H : Hp} {s : Shared} {h' : Heap}
/-- untold objects may turn -/
theorem untold_turn {t' : Nat} {ch : List Addr} (I : Inv X pins σ H s) (can : ∀ b ∈ ch, FpOk X pins H b) (stays : ∀ b u, b ∉ ch → s.heap.get? b = some u → h'.get? b = some u) : Inv X pins σ H { s with heap := h', toks := t' } := by
  have far : ∀ {b u}, H b = some u → b ∉ ch := fun {b u} e z => by
    have q := (can b z).1
    rw [e] at q
    cases q
  refine I.step (g' := s.gens) (d' := s.drawn) (ch := ch) (fun b z => ?_) (fun b u _ _ z e _ => stays b u z e) (fun b u _ _ z e _ => ⟨u.slots, stays b u z e⟩) (fun b u z _ n => n) (fun b u z e => ⟨u, stays b u z e⟩)
    (fun b xs e => e) (fun b ob u e => e) (fun b ps e => ⟨#[], by rw [e]; simp⟩) (fun m hm => ?_) (fun b u e => ?_) I.bare
  · obtain ⟨_, q2, _, q4, q5, q6⟩ := can b z
    exact ⟨q4, q2, q5, q6⟩
  · obtain ⟨ob, es, ep, e, q⟩ := hm
    exact ⟨ob, es, ep, stays _ _ (fun z => (can _ z).2.1 rfl) e, q⟩
  · refine (I.hok b u e).stay (fun c v hc q => stays c v ?_ q) (fun c q => q) fun c xs q => q
    rcases hc with rfl | hc
    · exact far e
    · exact far hc
/-- a def asked about one item -/
theorem def_ask {k : Nat} {f : Addr} {fd : FuncData} {ps : List Str} {sp : Sp} {x y : V} {u : Value} {A : Around} (F : FnOk X.prog X.w X.K X.mg X.base CX0 k f fd ps sp) (hr : Room k A) (hfr : A.frames = X.A.frames) (hb : Binds X.K fd ps []) (I : Inv X pins σ H s) (ru : RelV x u) (h : sp [x] H (fun v H' => H' = H ∧ v = y) E0) :
    wpAny (model X.prog X.w) A (call (.ref f) [u]) (fun v s2 => RelV y v ∧ Left X H s s2) (fun _ _ => False) s := by
  have e0 : Env0 X.prog X.w X.K X.mg X.base A X.stack s H := ⟨hfr.trans I.env0.frames, I.env0.mod, I.env0.bs, I.env0.bsz, I.env0.funs, I.env0.frf, I.env0.hok, I.env0.bare⟩
  have hl : ([u] ++ ([] : List Value)).length = ps.length := (F.len _ _ _ _ h)
  refine wpAny_call (codeAny_mono (F.run A X.stack s H ⟨[u], []⟩ [u] [x] _ E0 hr e0 (hb s [u] I.kIn hl) (.cons ru .nil) h) fun r s' hq => ?_)
  cases r with
  | error e => exact False.elim hq
  | ok fl =>
    cases fl with
    | ret u =>
      obtain ⟨v, H', os, bare, un, hok, rv, rfl, rfl⟩ := hq
      exact ⟨rv, os, bare, un, hok⟩
    | next => exact False.elim hq
    | brk => exact False.elim hq
    | cont => exact False.elim hq
/-- what the walk over a list of ours keeps -/
def LwSt (xs : List V) (it l : Addr) (i : Nat) (s : Shared) : Prop := s.heap.IsListIter it l i ∧ ∃ us : List Value, Vals xs us ∧ s.heap.IsList l us.toArray
theorem lw {prog : Program} {w : World} {A : Around} (hh : A.handled = none) {xs : List V} {it l : Addr} (hne : l ≠ it) :
    WalksS prog w A it [it, l] [it] (fun a b => b = a) xs.length (fun i v => ∃ x, xs[i]? = some x ∧ RelV x v) (LwSt xs it l) where
  sub := fun b hb => by simp at hb; simp [hb]
  grefl := fun _ => rfl
  gtrans := fun _ _ _ h1 h2 => h2.trans h1
  frame := fun i s h' tk st _ hk => by
    obtain ⟨h1, us, r, h2⟩ := st
    exact ⟨h1.at fun o e => hk it (by simp) o e, us, r, h2.at fun o e => hk l (by simp) o e⟩
  item := fun i s Q E hi st hQ => by
    obtain ⟨h1, us, r, h2⟩ := st
    have lu := r.length
    refine wpAny_pyNext_list_item h1 h2 (x := us[i]'(by omega)) (by simp) fun h' hit' hs' => ?_
    obtain ⟨u, hu, ru⟩ := r.get (show xs[i]? = some xs[i] from List.getElem?_eq_getElem hi)
    have eu : us[i]'(by omega) = u := by
      rw [List.getElem?_eq_getElem (by omega)] at hu
      exact Option.some.inj hu
    rw [eu]
    exact hQ u { s with heap := h' } ⟨_, List.getElem?_eq_getElem hi, ru⟩ ⟨hit', us, r, h2.extBut hs'.extBut hne⟩ ⟨fun b o hb e => hs'.extBut b o (fun h => hb (by simp [h])) e, rfl, rfl, rfl, Nat.le_refl _⟩
  done := fun s Q E st hQ => by
    obtain ⟨h1, us, r, h2⟩ := st
    have lu := r.length
    exact wpAny_pyNext_list_end hh h1 h2 (by simp; omega) fun h' he' => hQ { s with heap := h' } ⟨fun b o hb e => he' b o (fun h => hb (by simp [h])) e, rfl, rfl, rfl, Nat.le_refl _⟩
  self := fun _ _ _ _ st hQ => wpAny_pyIter_listiter st.1 hQ
def kfD (bs : List (V × Int)) (i : Nat) : Int := (bs[i]?.map (·.2)).getD 0
theorem kfD_at {bs : List (V × Int)} {i : Nat} {x : V × Int} (h : bs[i]? = some x) : kfD bs i = x.2 := by
  unfold kfD
  rw [h]
  rfl
theorem key_run {k : Nat} {q it l S : Addr} {fd : FuncData} {ps : List Str} {sp : Sp} {bs : List (V × Int)} {A : Around} {op : CmpOp} {bt : Nat → Nat → Bool} (F : FnOk X.prog X.w X.K X.mg X.base CX0 k q fd ps sp) (hr : Room k A) (hfr : A.frames = X.A.frames) (hb : Binds X.K fd ps []) (hl : SqL X.K H l (bs.map (·.1)))
    (hi : FpOk X pins H it) (hS : FpOk X pins H S) (hk : ∀ x ∈ bs, sp [x.1] H (fun v H' => H' = H ∧ v = .int x.2) E0) (hc : CmpOf X.prog X.w A op (fun i v => ∃ t, v = .int (kfD bs i) t) bt) :
    KeyRun X.prog X.w A (.ref q) op S [it] (fun a b => b = a) bs.length (fun i v => ∃ x, (bs.map (·.1))[i]? = some x ∧ RelV x v) (LwSt (bs.map (·.1)) it l) (Inv X pins σ H) (fun i v _ => ∃ t, v = .int (kfD bs i) t) bt where
  keep := fun s s' I m => by
    obtain ⟨h', g, d, t, os⟩ := s'
    obtain ⟨m1, m2, m3, m4, _⟩ := m
    obtain rfl : g = s.gens := m2
    obtain rfl : d = s.drawn := m3
    obtain rfl : os = s.os := m4
    refine untold_turn (ch := [S, it]) I (fun b hb => ?_) m1
    simp only [List.mem_cons, List.not_mem_nil, or_false] at hb
    rcases hb with rfl | rfl
    · exact hS
    · exact hi
  keepV := fun _ _ _ _ h _ => h
  turn := fun i v s o Q E hin hP I st hSo hq => by
    obtain ⟨x, hx, rx⟩ := hP
    rw [List.getElem?_map] at hx
    obtain ⟨y, hy, rfl⟩ := Option.map_eq_some_iff.mp hx
    refine wpAny_mono (def_ask F hr hfr hb I rx (hk y (List.mem_of_getElem? hy))) (fun v2 s2 h2 => ?_) fun _ _ z => z.elim
    obtain ⟨rv, lf⟩ := h2
    have I2 := lf.inv I
    obtain ⟨us, ru, pl, _⟩ := I2.list hl
    obtain ⟨oi, ho, hi2, hi3⟩ := st.1
    have ho2 := lf.at ho hi.1 (fp_nf I hi)
    refine hq v2 s2 I2 ⟨⟨oi, ho2, hi2, hi3⟩, us, ru, pl.isList⟩ (lf.at hSo hS.1 (fp_nf I hS)) ?_ (fun _ _ h => h)
    rw [kfD_at hy]
    exact rv
  cmp := fun i j ki kj s Q E _ hi hj h => hc i j ki kj s Q E hi hj h
/-- a def's place in our world -/
theorem Inv.defAt {f : Addr} (I : Inv X pins σ H s) (hk : PySem.W.keepIn X.K (.ref f) = true) : ∃ fo, s.heap.get? f = some fo ∧ H f = none ∧ f ∉ frs X.stack := by
  have e : ∃ fo, X.K.lookup f = some fo := by
    cases q : X.K.lookup f with
    | none => simp [PySem.W.keepIn, q] at hk
    | some fo => exact ⟨fo, rfl⟩
  obtain ⟨fo, e⟩ := e
  have eb := I.ok.mod.kin f fo e
  obtain ⟨h1, h2⟩ := I.env0.bs f fo eb
  refine ⟨fo, h1, h2, fun z => ?_⟩
  have := (I.env0.funs.mem z).1
  rw [eb] at this
  cases this
end
section
variable {X : Cx} {pins : List (Addr × Obj)} {σ : L2.St} {H : Hp} {s : Shared}
/-- min(e, key = f), max(e, key = f): one of the items with the least, the greatest key -/
def tBestK (K : PySem.W.Frag) (up : Bool) (sp : Sp) (te : TE) : TE := fun σ H Q => te σ H fun y H1 => ∃ (l : Addr) (bs : List (V × Int)), y = .ref l ∧ SqL K H1 l (bs.map (·.1)) ∧ bs ≠ [] ∧ (∀ x ∈ bs, sp [x.1] H1 (fun v H' => H' = H1 ∧ v = .int x.2) E0) ∧
  ∀ x ∈ bs, (∀ y ∈ bs, if up = true then y.2 ≤ x.2 else x.2 ≤ y.2) → Q x.1 H1
theorem best_at {k : Nat} {q l : Addr} {fd : FuncData} {ps : List Str} {sp : Sp} {bs : List (V × Int)} {Q : VK} {up : Bool} (F : FnOk X.prog X.w X.K X.mg X.base CX0 k q fd ps sp) (hr : Room (k + 1) X.A) (hb : Binds X.K fd ps []) (I : Inv X pins σ H s) (hl : SqL X.K H l (bs.map (·.1))) (ne : bs ≠ [])
    (hk : ∀ x ∈ bs, sp [x.1] H (fun v H' => H' = H ∧ v = .int x.2) E0) (hq : ∀ x ∈ bs, (∀ y ∈ bs, if up = true then y.2 ≤ x.2 else x.2 ≤ y.2) → Q x.1 H) :
    wpAny (model X.prog X.w) X.A (call (.builtin (if up = true then "max" else "min")) [.ref l] [(Str.ofString "key", .ref q)]) (EP X pins σ Q) X.xe s := by
  obtain ⟨us, rv, pl, hz⟩ := I.list hl
  have ls := pl.isList
  have n0 : 0 < (bs.map (·.1)).length := by
    rw [List.length_map]
    exact List.length_pos_iff.mpr ne
  have lS : l < s.heap.objs.size := by
    obtain ⟨o, e, _⟩ := id ls
    exact Heap.lt_size e
  generalize hH : s.heap.push { cls := .type "list_iterator", data := .fields #[.ref l, .int 0 0] } = h2
  have old : ∀ b o, s.heap.get? b = some o → h2.get? b = some o := fun b o e => by rw [← hH]; exact Heap.get?_push_of_some _ e
  have sz : h2.objs.size = s.heap.objs.size + 1 := by rw [← hH]; exact size_push' ..
  have gi : h2.get? s.heap.objs.size = some { cls := .type "list_iterator", data := .fields #[.ref l, .int 0 0] } := by rw [← hH]; exact Heap.get?_push_size _ rfl
  have I2 : Inv X pins σ H { s with heap := h2 } := I.kept (t' := s.toks) old
  have nI : H s.heap.objs.size = none := I.hok.fresh (Nat.le_refl _)
  have nS : H h2.objs.size = none := I.hok.fresh (by rw [sz]; exact Nat.le_succ _)
  have fI : FpOk X pins H s.heap.objs.size := I.fpOk (Nat.le_refl _) nI
  have fS : FpOk X pins H h2.objs.size := I.fpOk (by rw [sz]; exact Nat.le_succ _) nS
  have lsz : ∀ b ∈ [s.heap.objs.size, l], b < h2.objs.size := fun b hb => by
    simp only [List.mem_cons, List.not_mem_nil, or_false] at hb
    rcases hb with rfl | rfl
    · rw [sz]; exact Nat.lt_succ_self _
    · rw [sz]; exact Nat.lt_succ_of_lt lS
  have st : LwSt (bs.map (·.1)) s.heap.objs.size l 0 { s with heap := h2 } := ⟨⟨_, gi, rfl, rfl⟩, us, rv, ls.at fun o e => old _ _ e⟩
  have rm := Room.in1 hr
  have lw1 := lw (prog := X.prog) (w := X.w) (A := X.A.in1) hr.hd (xs := bs.map (·.1)) (it := s.heap.objs.size) (l := l) (Nat.ne_of_lt lS)
  rw [List.length_map] at lw1 n0
  have last : ∀ i v s', i < bs.length → (∃ x, (bs.map (·.1))[i]? = some x ∧ RelV x v) → (∀ j, j < bs.length → if up = true then kfD bs j ≤ kfD bs i else kfD bs i ≤ kfD bs j) → Inv X pins σ H s' → EP X pins σ Q v s' := by
    intro i v s' hi hx hb J
    obtain ⟨x, hx, rx⟩ := hx
    rw [List.getElem?_map] at hx
    obtain ⟨y, hy, rfl⟩ := Option.map_eq_some_iff.mp hx
    refine ⟨y.1, H, J, rx, hq y (List.mem_of_getElem? hy) fun z hz => ?_⟩
    obtain ⟨j, hj⟩ := List.mem_iff_getElem?.mp hz
    have h1 := hb j (List.getElem?_eq_some_iff.mp hj).1
    rw [kfD_at hj, kfD_at hy] at h1
    exact h1
  cases up with
  | false =>
    show wpAny _ _ (call (.builtin "min") _ _) _ _ _
    refine call_min_walkK (wpAny_pyIter_list ls ?_)
    rw [hH]
    refine ⟨_, _, _, _, _, _, _, _, _, _, rfl, lw1, st, lsz, n0, key_run (σ := σ) F rm rfl hb hl fI fS hk (CmpOf.ints_lt (kfD bs) fun i v h => h), I2, fun v s' hP J => ?_⟩
    obtain ⟨h1, h2⟩ := argBest_lt (kfD bs) (bs.length - 1)
    exact last _ v s' (by omega) hP (fun j hj => by rw [if_neg (by decide)]; exact h2 j (by omega)) J
  | true =>
    show wpAny _ _ (call (.builtin "max") _ _) _ _ _
    refine call_max_walkK (wpAny_pyIter_list ls ?_)
    rw [hH]
    refine ⟨_, _, _, _, _, _, _, _, _, _, rfl, lw1, st, lsz, n0, key_run (σ := σ) F rm rfl hb hl fI fS hk (CmpOf.ints_gt (kfD bs) fun i v h => h), I2, fun v s' hP J => ?_⟩
    obtain ⟨h1, h2⟩ := argBest_gt (kfD bs) (bs.length - 1)
    exact last _ v s' (by omega) hP (fun j hj => by rw [if_pos rfl]; exact h2 j (by omega)) J
end
section
variable {X : Cx} {k : Nat} {f : Addr} {fd : FuncData} {ps : List Str} {sp : Sp} {g : Str} {e : Expr} {te : TE} {p gp pos kp : Pos}
theorem pe_minK (F : FnOk X.prog X.w X.K X.mg X.base CX0 k f fd ps sp) (hr : Room (k + 1) X.A) (hb : Binds X.K fd ps []) (hgg : Gl X g) (hmg : X.mg g = some (.ref f)) (hg : Gl X "min") (hm : X.mg "min" = none) (ha : PA X [e] (tCons te tNil)) (hdb : (g == ("__debug__" : Str)) = false := by decide)
    (hst : backTo pos (starEach [e] X.env) = (false, eval e X.env) :: backTo pos (starEach [] X.env) := by rfl) (hpl : (backTo pos (starEach [e] X.env)).any (·.1) = false := by rfl) :
    PE X (.Call (.Name "min" p) [e] [⟨some "key", .Name g gp, kp⟩] pos) (tBestK X.K false sp te) := by
  refine ⟨fun pins s σ H Q I h => ?_⟩
  refine wpAny_Call_Name_kw (ld_blt (u := .builtin "min") I hg hm (by decide +kernel) ?_)
  refine PyProof.Rows.callWith_kw (thn (ha.run pos pins s σ H (fun vs H1 => match vs with
    | [y] => tBestK X.K false sp (fun _ H Q => Q y H) σ H1 Q
    | _ => False) I h) fun us s1 ⟨vs, H1, I1, r1, q1⟩ => ?_) hst hpl (by rfl) (by rfl)
  match vs, r1, q1 with
  | [y], r1, q1 =>
    obtain ⟨v, rfl, ry⟩ := vals1 r1
    obtain ⟨l, bs, rfl, hl, ne, hk, hq⟩ := q1
    obtain rfl : v = Value.ref l := ry
    refine PyProof.Rows.kwAll_cons (ld_glob I1 hgg hmg (PyProof.Rows.kwAll_nil ?_) hdb)
    exact best_at (up := false) F hr hb I1 hl ne hk hq
theorem pe_maxK (F : FnOk X.prog X.w X.K X.mg X.base CX0 k f fd ps sp) (hr : Room (k + 1) X.A) (hb : Binds X.K fd ps []) (hgg : Gl X g) (hmg : X.mg g = some (.ref f)) (hg : Gl X "max") (hm : X.mg "max" = none) (ha : PA X [e] (tCons te tNil)) (hdb : (g == ("__debug__" : Str)) = false := by decide)
    (hst : backTo pos (starEach [e] X.env) = (false, eval e X.env) :: backTo pos (starEach [] X.env) := by rfl) (hpl : (backTo pos (starEach [e] X.env)).any (·.1) = false := by rfl) :
    PE X (.Call (.Name "max" p) [e] [⟨some "key", .Name g gp, kp⟩] pos) (tBestK X.K true sp te) := by
  refine ⟨fun pins s σ H Q I h => ?_⟩
  refine wpAny_Call_Name_kw (ld_blt (u := .builtin "max") I hg hm (by decide +kernel) ?_)
  refine PyProof.Rows.callWith_kw (thn (ha.run pos pins s σ H (fun vs H1 => match vs with
    | [y] => tBestK X.K true sp (fun _ H Q => Q y H) σ H1 Q
    | _ => False) I h) fun us s1 ⟨vs, H1, I1, r1, q1⟩ => ?_) hst hpl (by rfl) (by rfl)
  match vs, r1, q1 with
  | [y], r1, q1 =>
    obtain ⟨v, rfl, ry⟩ := vals1 r1
    obtain ⟨l, bs, rfl, hl, ne, hk, hq⟩ := q1
    obtain rfl : v = Value.ref l := ry
    refine PyProof.Rows.kwAll_cons (ld_glob I1 hgg hmg (PyProof.Rows.kwAll_nil ?_) hdb)
    exact best_at (up := true) F hr hb I1 hl ne hk hq
/-- sorted(e, key = f), the keys ints -/
def tSortK (K : PySem.W.Frag) (sp : Sp) (te : TE) : TE := fun σ H Q => te σ H fun y H1 => ∃ (l : Addr) (bs : List (V × Int)), y = .ref l ∧ SqL K H1 l (bs.map (·.1)) ∧ (∀ x ∈ bs, sp [x.1] H1 (fun v H' => H' = H1 ∧ v = .int x.2) E0) ∧
  ∀ p, H1 p = none → Q (.ref p) (upd H1 p (.lst ((bs.mergeSort fun a b => decide (a.2 ≤ b.2)).map (·.1))))
theorem sortK_at {pins : List (Addr × Obj)} {σ : L2.St} {H : Hp} {s : Shared} {q l : Addr} {bs : List (V × Int)} {Q : VK} (F : FnOk X.prog X.w X.K X.mg X.base CX0 k q fd ps sp) (hr : Room (k + 2) X.A) (hb : Binds X.K fd ps []) (hkp : PySem.W.keepIn X.K (.ref q) = true) (I : Inv X pins σ H s) (hl : SqL X.K H l (bs.map (·.1)))
    (hk : ∀ x ∈ bs, sp [x.1] H (fun v H' => H' = H ∧ v = .int x.2) E0) (hq : ∀ p, H p = none → Q (.ref p) (upd H p (.lst ((bs.mergeSort fun a b => decide (a.2 ≤ b.2)).map (·.1))))) :
    wpAny (model X.prog X.w) X.A (call (.builtin "sorted") [.ref l] [(Str.ofString "key", .ref q)]) (EP X pins σ Q) X.xe s := by
  obtain ⟨fo, of, nf, zf⟩ := Inv.defAt I hkp
  let g : V × Int → V × PyData := fun x => (x.1, PyData.int x.2)
  have e1 : (bs.map g).map (·.1) = bs.map (·.1) := by rw [List.map_map]; rfl
  have e2 : (bs.map g).map (·.2) = bs.map fun x => PyData.int x.2 := by rw [List.map_map]; rfl
  have hu := hr.un
  refine sorted_by_key (b := false) (bs := bs.map g) I (by rw [e1]; exact hl) nf zf of (by rw [e2]; exact PySem.W.AllAlike.of fun _ _ => rfl) (by rw [e2]; exact PySem.W.Sortable.others fun _ => ⟨nofun, nofun⟩) (fun x hx => ?_) (PyProof.Rows.ksk_s1 _ _) (fun x => PyProof.Rows.ksk_l1 _ _) (fun x => PyProof.Rows.ksk_t1 q x) (fun u x s1 hx ru I1 of1 _ => ?_) fun p hp => ?_
  · obtain ⟨y, _, rfl⟩ := List.mem_map.mp hx
    show X.A.units + 2 + 0 < cLine
    omega
  · obtain ⟨y, hy, rfl⟩ := List.mem_map.mp hx
    refine wpAny_mono (def_ask F (Room.in1 (Room.in1 hr)) rfl hb I1 ru (hk y hy)) (fun v s2 h2 => ?_) fun _ _ z => z
    exact ⟨keyV_of h2.1 (.inl ⟨_, rfl, rfl⟩), h2.2⟩
  · have e3 : (bs.map g).mergeSort (PySem.W.dataLe false (·.2)) = (bs.mergeSort fun a b => decide (a.2 ≤ b.2)).map g := by
      refine (List.map_mergeSort (f := g) fun a _ b _ => ?_).symm
      have := congrFun (congrFun (PySem.W.dataLe_int (fun x : V × Int => x.2)) a) b
      exact this.symm
    rw [e3, List.map_map]
    exact hq p hp
theorem pe_sortK (F : FnOk X.prog X.w X.K X.mg X.base CX0 k f fd ps sp) (hr : Room (k + 2) X.A) (hb : Binds X.K fd ps []) (hkp : PySem.W.keepIn X.K (.ref f) = true) (hgg : Gl X g) (hmg : X.mg g = some (.ref f)) (hg : Gl X "sorted") (hm : X.mg "sorted" = none) (ha : PA X [e] (tCons te tNil)) (hdb : (g == ("__debug__" : Str)) = false := by decide)
    (hst : backTo pos (starEach [e] X.env) = (false, eval e X.env) :: backTo pos (starEach [] X.env) := by rfl) (hpl : (backTo pos (starEach [e] X.env)).any (·.1) = false := by rfl) :
    PE X (.Call (.Name "sorted" p) [e] [⟨some "key", .Name g gp, kp⟩] pos) (tSortK X.K sp te) := by
  refine ⟨fun pins s σ H Q I h => ?_⟩
  refine wpAny_Call_Name_kw (ld_blt (u := .builtin "sorted") I hg hm (by decide +kernel) ?_)
  refine PyProof.Rows.callWith_kw (thn (ha.run pos pins s σ H (fun vs H1 => match vs with
    | [y] => tSortK X.K sp (fun _ H Q => Q y H) σ H1 Q
    | _ => False) I h) fun us s1 ⟨vs, H1, I1, r1, q1⟩ => ?_) hst hpl (by rfl) (by rfl)
  match vs, r1, q1 with
  | [y], r1, q1 =>
    obtain ⟨v, rfl, ry⟩ := vals1 r1
    obtain ⟨l, bs, rfl, hl, hk, hq⟩ := q1
    obtain rfl : v = Value.ref l := ry
    refine PyProof.Rows.kwAll_cons (ld_glob I1 hgg hmg (PyProof.Rows.kwAll_nil ?_) hdb)
    exact sortK_at F hr hb hkp I1 hl hk hq
end
end Lc
set_option Elab.async false
set_option linter.all false
set_option maxRecDepth 100000
set_option maxHeartbeats 4000000
namespace K20
open PySem PySem.Spec PyProof.Rows L2 Lc
abbrev sLow : Stmt := top 12
def Small (n : Int) : Prop := n.natAbs < 2 ^ 4000
def New2 (H : Hp) (Q : VK) (n d : Int) : Prop := ∀ p, H p = none → Q (.ref p) (upd H p (.tup [.int n, .int d]))
def spLow : Sp := fun vs H Q _ => ∃ n d : Int, vs = [.int n, .int d] ∧ d ≠ 0 ∧ Small d ∧ New2 H Q (lowN (if d < 0 then -n else n) (if d < 0 then -d else d)) (lowD (if d < 0 then -n else n) (if d < 0 then -d else d))
/-! ## numbers in lists -/
def pairQ (p : Qn) : PyData := .tuple [.int p.1, .int p.2]
def NumQ (ps : List Qn) : Prop := ∀ p ∈ ps, Rt p.1 p.2 ∧ p.1.natAbs ≤ 10000000000000000000000000000000000000000 ∧ p.2.natAbs ≤ 10000000000000000000000000000000000000000
theorem NumQ.good {ps : List Qn} (h : NumQ ps) : GoodQ ps := fun p hp => ⟨(h p hp).1, by have := (h p hp).2.2; show p.2 ≤ 10000000000000000000000000000000000000000; omega⟩
def NumAt (H : Hp) (zs : List V) (ps : List Qn) : Prop := DhAll H zs (ps.map pairQ)
theorem NumAt.same {H H' : Hp} {zs : List V} {ps : List Qn} (h : NumAt H zs ps) (s : Same H H') : NumAt H' zs ps := DhAll.same s h
theorem NumAt.len {H : Hp} {zs : List V} {ps : List Qn} (h : NumAt H zs ps) : zs.length = ps.length := by
  have := DhAll.len h
  rw [List.length_map] at this
  exact this
theorem pair_at {H : Hp} {v : V} {p : Qn} (h : Dh H v (pairQ p)) : ∃ a, v = .ref a ∧ H a = some (.tup [.int p.1, .int p.2]) := by
  cases h with
  | tup e hs => cases hs with
    | cons h1 r1 => cases r1 with
      | cons h2 r2 => cases r2; cases h1; cases h2; exact ⟨_, rfl, e⟩
theorem pair_dh {H : Hp} {a : Addr} {p : Qn} (e : H a = some (.tup [.int p.1, .int p.2])) : Dh H (.ref a) (pairQ p) := .tup e (.cons (.int _) (.cons (.int _) .nil))
theorem NumAt.get {H : Hp} {zs : List V} {ps : List Qn} (h : NumAt H zs ps) {i : Nat} {z : V} (e : zs[i]? = some z) : ∃ p a, ps[i]? = some p ∧ z = .ref a ∧ H a = some (.tup [.int p.1, .int p.2]) := by
  obtain ⟨d, ed, dd⟩ := DhAll.get h i z e
  rw [List.getElem?_map] at ed
  obtain ⟨p, ep, rfl⟩ := Option.map_eq_some_iff.mp ed
  obtain ⟨a, ea, e2⟩ := pair_at dd
  exact ⟨p, a, ep, ea, e2⟩
theorem NumAt.app {H : Hp} {zs : List V} {ps : List Qn} {z : V} {p : Qn} (h : NumAt H zs ps) (d : Dh H z (pairQ p)) : NumAt H (zs ++ [z]) (ps ++ [p]) := by
  unfold NumAt
  rw [List.map_append]
  exact DhAll.append h (.cons d .nil)
/-- sizes -/
theorem lim_pow {n : Nat} (h : n ≤ 14) : lim ^ n ≤ lim ^ 14 := by
  obtain ⟨k, hk⟩ : ∃ k, 14 = n + k := ⟨14 - n, by omega⟩
  rw [hk, Int.pow_add]
  have h1 : ∀ m : Nat, 1 ≤ lim ^ m := fun m => by
    induction m with
    | zero => exact Int.le_refl _
    | succ m ih => rw [Int.pow_succ]; exact Int.le_trans ih (by have := Int.mul_le_mul_of_nonneg_left (show (1 : Int) ≤ lim by decide) (Int.le_trans (by decide : (0 : Int) ≤ 1) ih); rwa [Int.mul_one] at this)
  have := Int.mul_le_mul_of_nonneg_left (h1 k) (Int.le_trans (by decide : (0 : Int) ≤ 1) (h1 n))
  rwa [Int.mul_one] at this
theorem lim14 : lim ^ 14 < 2 ^ 1870 := by decide +kernel
theorem scl_sm {ps : List Qn} (h : NumQ ps) (l : ps.length ≤ 14) : 0 < sclQ ps ∧ (sclQ ps).natAbs < 2 ^ 1870 := by
  have h0 := sclQ_pos h.good.pos
  have h1 := Int.lt_of_le_of_lt (Int.le_trans (sclQ_le h.good) (lim_pow l)) lim14
  exact ⟨h0, by omega⟩
theorem sum_sm {ps : List Qn} (h : NumQ ps) (l : ps.length ≤ 14) : 0 < (sumQ ps).2 ∧ (sumQ ps).2.natAbs < 2 ^ 1870 := by
  have h0 := (sumQ_rt h.good.pos).pos
  have h1 := Int.lt_of_le_of_lt (Int.le_trans (sumQ_le h.good) (lim_pow l)) lim14
  exact ⟨h0, by omega⟩
def spBz : Sp := fun vs H Q _ => ∃ (p : Addr) (n d : Int), vs = [.ref p] ∧ H p = some (.tup [.int n, .int d]) ∧ n.natAbs ≤ 10000000000000000000000000000000000000000 ∧ d.natAbs ≤ 10000000000000000000000000000000000000000 ∧ 0 < d ∧ Q (.int (bySq (n, d))) H
/-- numbers with their sizes -/
def keyB (c : V × Qn) : V × Int := (c.1, bySq c.2)
theorem cs_fst {zs : List V} {ps : List Qn} (l : zs.length = ps.length) : ((zs.zip ps).map keyB).map (·.1) = zs := by
  rw [List.map_map]
  exact List.map_fst_zip (by omega)
theorem cs_at {H : Hp} {zs : List V} {ps : List Qn} (h : NumAt H zs ps) : ∀ c ∈ zs.zip ps, Dh H c.1 (pairQ c.2) ∧ c.2 ∈ ps := fun c hc => by
  obtain ⟨i, hi⟩ := List.mem_iff_getElem?.mp hc
  obtain ⟨h1, h2⟩ := List.getElem?_zip_eq_some.mp hi
  obtain ⟨p, a, ep, ea, e2⟩ := h.get h1
  rw [ep] at h2
  obtain rfl := Option.some.inj h2
  rw [ea]
  exact ⟨pair_dh e2, List.mem_of_getElem? ep⟩
theorem cs_has {zs : List V} {ps : List Qn} (l : zs.length = ps.length) {p : Qn} (h : p ∈ ps) : ∃ z, (z, p) ∈ zs.zip ps := by
  obtain ⟨i, hi⟩ := List.mem_iff_getElem?.mp h
  have li := (List.getElem?_eq_some_iff.mp hi).1
  exact ⟨zs[i]'(by omega), List.mem_iff_getElem?.mpr ⟨i, List.getElem?_zip_eq_some.mpr ⟨List.getElem?_eq_getElem _, hi⟩⟩⟩
theorem cs_all {H : Hp} : ∀ {cs : List (V × Qn)}, (∀ c ∈ cs, Dh H c.1 (pairQ c.2)) → NumAt H (cs.map (·.1)) (cs.map (·.2))
  | [], _ => .nil
  | c :: cs, h => .cons (h c List.mem_cons_self) (cs_all fun x hx => h x (List.mem_cons_of_mem _ hx))
def srtC (cs : List (V × Qn)) : List (V × Qn) := cs.mergeSort fun a b => leB a.2 b.2
theorem srtC_key (cs : List (V × Qn)) : ((cs.map keyB).mergeSort fun a b => decide (a.2 ≤ b.2)) = (srtC cs).map keyB := (List.map_mergeSort (f := keyB) fun a _ b _ => rfl).symm
theorem srtC_snd (cs : List (V × Qn)) : (srtC cs).map (·.2) = ordQ (cs.map (·.2)) := List.map_mergeSort (f := fun c : V × Qn => c.2) fun a _ b _ => rfl
theorem srtC_num {H : Hp} {zs : List V} {ps : List Qn} (h : NumAt H zs ps) : NumAt H (((srtC (zs.zip ps)).map keyB).map (·.1)) (ordQ ps) := by
  have e1 : ((srtC (zs.zip ps)).map keyB).map (·.1) = (srtC (zs.zip ps)).map (·.1) := by rw [List.map_map]; rfl
  have e2 : (zs.zip ps).map (·.2) = ps := List.map_snd_zip (by have := h.len; omega)
  have e3 := srtC_snd (zs.zip ps)
  rw [e2] at e3
  rw [e1, ← e3]
  exact cs_all fun c hc => (cs_at h c ((List.mergeSort_perm _ _).mem_iff.mp hc)).1
theorem key_ask {H : Hp} {zs : List V} {ps : List Qn} (h : NumAt H zs ps) (g : NumQ ps) : ∀ x ∈ (zs.zip ps).map keyB, spBz [x.1] H (fun v H' => H' = H ∧ v = .int x.2) E0 := fun x hx => by
  obtain ⟨c, hc, rfl⟩ := List.mem_map.mp hx
  obtain ⟨d, m⟩ := cs_at h c hc
  obtain ⟨a, ea, e2⟩ := pair_at d
  obtain ⟨r, b1, b2⟩ := g c.2 m
  exact ⟨a, c.2.1, c.2.2, by show [c.1] = _; rw [ea], e2, b1, b2, r.pos, rfl, rfl⟩
def NumL (H : Hp) (q : Addr) (zs : List V) (ps : List Qn) : Prop := H q = some (.lst zs) ∧ NumAt H zs ps ∧ NumQ ps ∧ ps.length ≤ 14
def spCsc : Sp := fun vs H Q _ => ∃ (q : Addr) (zs : List V) (ps : List Qn), vs = [.ref q] ∧ NumL H q zs ps ∧ Q (.int (sclQ ps)) H
def spScd : Sp := fun vs H Q _ => ∃ (p : Addr) (n d S : Int), vs = [.ref p, .int S] ∧ H p = some (.tup [.int n, .int d]) ∧ n.natAbs ≤ 10000000000000000000000000000000000000000 ∧ 0 < d ∧ d.natAbs ≤ 10000000000000000000000000000000000000000 ∧ 0 < S ∧ S.natAbs < 2 ^ 1870 ∧ Q (.int (n * (S / d))) H
def spSmo : Sp := fun vs H Q _ => ∃ (q : Addr) (zs : List V) (ps : List Qn), vs = [.ref q] ∧ NumL H q zs ps ∧ ∀ p H', Same H H' → H' p = some (.tup [.int (sumQ ps).1, .int (sumQ ps).2]) → Q (.ref p) H'
abbrev teSo : TE := tCall spScd [] E0 (tCons (tVar 2) (tCons (tVar 1) tNil))
/-- a total of some numbers -/
def spWk (fn : Str) : Sp := fun vs H Q _ => ∃ (q : Addr) (zs : List V) (ps : List Qn) (r : Qn), vs = [.ref q] ∧ NumL H q zs ps ∧ ps ≠ [] ∧ totQ fn ps = some r ∧ ∀ v H', Same H H' → Dh H' v (pairQ r) → Q v H'
section
variable {P : Program} {w : World} {K : PySem.W.Frag} {mg : Str → Option Value} {base : Heap} {f : Addr} {fd : FuncData}
theorem low_pos {n d : Int} {H : Hp} {Q : VK} (h : 0 < d) (k : New2 H Q (lowN n d) (lowD n d)) : New2 H Q (lowN (if d < 0 then -n else n) (if d < 0 then -d else d)) (lowD (if d < 0 then -n else n) (if d < 0 then -d else d)) := by
  rw [if_neg (by omega : ¬ d < 0), if_neg (by omega : ¬ d < 0)]
  exact k
theorem log_lt {n : Int} (h : n.natAbs < 2 ^ 4000) : n.natAbs.log2 < 9000 := by
  by_cases z : n.natAbs = 0
  · rw [z]
    decide
  · exact Nat.lt_of_lt_of_le ((Nat.log2_lt z).mpr h) (by decide)
theorem scLow : FnScope ["n", "d", "shared"] ["n", "d"] (defScope sLow) := ⟨rfl, rfl, rfl, by decide +kernel, rfl, by decide +kernel, by decide +kernel⟩
theorem gd_neg2 (a b : Int) : gd (-a) (-b) = gd a b := by unfold gd; rw [Int.neg_gcd, Int.gcd_neg]
theorem ok_low {fC : Addr} {fdC : FuncData} (F : Fun K "lowest_terms" "lowest_terms" sLow f fd) (T : Bt mg) (GC : FnOk P w K mg base CX0 1 fC fdC ["a", "b"] spCd) (mC : mg "common_divisor" = some (.ref fC)) (kC : PySem.W.keepIn K (.ref fC) = true) (bC : Binds K fdC ["a", "b"] []) :
    FnOk P w K mg base CX0 2 f fd ["n", "d"] spLow := by
  refine F.ok scLow (fun vs H Q E h => ?_) (fun cdv A outer s H vs Q E hr h => ?_)
  · obtain ⟨n, d, rfl, _⟩ := h
    rfl
  · obtain ⟨n, d, rfl, hd, hs, k⟩ := h
    refine ⟨_, pss_cons (ps_set (i := 2) scLow.nd rfl (Or.inl rfl) (pe_call GC hr (by rfl) mC kC bC .nil pass0 (pa_cons (pe_callB call_abs (by rfl) T.abs boot_abs (pa_cons (pv 0) pa_nil)) (pa_cons (pe_callB call_abs (by rfl) T.abs boot_abs (pa_cons (pv 1) pa_nil)) pa_nil))))
      (pss_cons (ps_if (pt_cmpR op_lt (pv 1) pe_int (nomark _)) (pss_one (ps_set (i := 2) scLow.nd rfl (Or.inl rfl) (pe_un un_neg (pv 2)))) pss_nil)
      (pss_one (ps_ret (pe_tup (pa_cons (pe_op op_fdivZ (pv 0) (pv 2)) (pa_cons (pe_op op_fdivZ (pv 1) (pv 2)) pa_nil)))))), ?_⟩
    refine ⟨_, rfl, n, rfl, _, rfl, d, rfl, _, _, rfl, by split <;> omega, by split <;> omega, ?_⟩
    rw [gd_abs, gd_abs2]
    have g0 : 0 < gd n d := gd_pos hd
    have gl : (gd n d).natAbs < 2 ^ 4000 := Nat.lt_of_le_of_lt (gd_natAbs_le hd) hs
    refine ⟨_, rfl, _, _, rfl, rfl, _, rfl, ?_⟩
    by_cases z : d < 0
    · rw [decide_eq_true z]
      rw [if_pos z, if_pos z] at k
      refine iteT ⟨_, rfl, _, rfl, ?_⟩
      have l : (-(gd n d)).natAbs.log2 < 9000 := by rw [Int.natAbs_neg]; exact log_lt gl
      refine ⟨_, rfl, _, rfl, _, _, rfl, rfl, ⟨by omega, l⟩, _, rfl, _, rfl, _, _, rfl, rfl, ⟨by omega, l⟩, by show 2 ≤ sizeLine; decide, ?_⟩
      show New2 H Q (n.fdiv (-(gd n d))) (d.fdiv (-(gd n d)))
      rw [fdiv_neg_dvd g0 (gd_dvd1 n d), fdiv_neg_dvd g0 (gd_dvd2 n d)]
      unfold lowN lowD at k
      rw [gd_neg2] at k
      exact k
    · rw [decide_eq_false z]
      rw [if_neg z, if_neg z] at k
      refine iteF ?_
      refine ⟨_, rfl, _, rfl, _, _, rfl, rfl, ⟨by omega, log_lt gl⟩, _, rfl, _, rfl, _, _, rfl, rfl, ⟨by omega, log_lt gl⟩, by show 2 ≤ sizeLine; decide, ?_⟩
      show New2 H Q (n.fdiv (gd n d)) (d.fdiv (gd n d))
      rw [Int.fdiv_eq_ediv_of_nonneg n (gd_nonneg n d), Int.fdiv_eq_ediv_of_nonneg d (gd_nonneg n d)]
      exact k
abbrev sBz : Stmt := top 62
abbrev nBz : List Str := ["value"]
abbrev pBz : List Str := ["value"]
theorem scBz : FnScope nBz pBz (defScope sBz) := ⟨rfl, rfl, rfl, by decide +kernel, rfl, by decide +kernel, by decide +kernel⟩
section
theorem ok_Bz (F : Fun K "by_size" "by_size" sBz f fd) (T : Bt mg) {uL : Tok} (mL : mg "LIMIT" = some (.int lim uL)) : FnOk P w K mg base CX0 1 f fd pBz (spBz) := by
  refine F.ok scBz (fun vs H Q E h => ?_) (fun cdv A outer s H vs Q E hr h => ?_)
  · obtain ⟨p, n, d, rfl, _⟩ := h
    rfl
  · obtain ⟨p, n, d, rfl, hp, h1, h2, h3, k⟩ := h
    refine ⟨_, (pss_one (ps_ret (pe_op op_fdivW (pe_op op_mulW (pe_op op_mulW (pe_ix ix_tup (pv 0) pe_int (fun _ _ => rfl)) (pe_glob (v := .int lim) (by rfl) mL ⟨_, rfl⟩)) (pe_glob (v := .int lim) (by rfl) mL ⟨_, rfl⟩)) (pe_ix ix_tup (pv 0) pe_int (fun _ _ => rfl))))), ?_⟩
    have l : lim = 10000000000000000000000000000000000000000 := rfl
    have n200 : n.natAbs < 2 ^ 200 := Nat.lt_of_le_of_lt h1 (by decide)
    have l200 : lim.natAbs < 2 ^ 200 := by decide
    have nl := wide_lt n200 l200
    refine ⟨_, rfl, p, _, _, .int n, rfl, rfl, SqT.of hp, rfl, _, _, rfl, rfl, wide_mul n200 l200 (by decide) (by decide) (by decide), _, _, rfl, rfl, wide_mul nl l200 (by decide) (by decide) (by decide), _, rfl, p, _, _, .int d, rfl, rfl, SqT.of hp, rfl, _, _, rfl, rfl, wide_div h3 (Nat.lt_of_le_of_lt h2 (show _ < 2 ^ 200 by decide)) (by decide) (by decide), k⟩
end
abbrev sCs : Stmt := top 63
abbrev nCs : List Str := ["values", "scale", "value"]
abbrev pCs : List Str := ["values"]
theorem scCs : FnScope nCs pCs (defScope sCs) := ⟨rfl, rfl, rfl, by decide +kernel, rfl, by decide +kernel, by decide +kernel⟩
section
variable {fA_ : Addr} {fdA_ : FuncData}
theorem ok_Cs (F : Fun K "common_scale" "common_scale" sCs f fd) (T : Bt mg)
    (GA_ : FnOk P w K mg base CX0 1 fA_ fdA_ ["a", "b"] (spCd)) (mA_ : mg "common_divisor" = some (.ref fA_)) (kA_ : PySem.W.keepIn K (.ref fA_) = true) (bA_ : Binds K fdA_ ["a", "b"] []) : FnOk P w K mg base CX0 2 f fd pCs (spCsc) := by
  refine F.ok scCs (fun vs H Q E h => ?_) (fun cdv A outer s H vs Q E hr h => ?_)
  · obtain ⟨q, zs, ps, rfl, _⟩ := h
    rfl
  · obtain ⟨q, zs, ps, rfl, hn, k⟩ := h
    have hrA_ : Room (1) _ := hr.mono (by first | decide | omega)
    refine ⟨_, (pss_cons (ps_set (i := 1) scCs.nd rfl (Or.inl rfl) pe_int)
      (pss_cons (ps_for PassesOwn.never rfl (pi_list (pv 0)) (pg_name (i := 2) scCs.nd rfl (.inl rfl)) (pss_one (ps_set (i := 1) scCs.nd rfl (Or.inl rfl) (pe_op op_mulW (pv 1) (pe_op op_fdivZ (pe_ix ix_tup (pv 2) pe_int (fun _ _ => rfl)) (pe_call GA_ hrA_ (by rfl) mA_ kA_ bA_ .nil pass0 (pa_cons (pv 1) (pa_cons (pe_ix ix_tup (pv 2) pe_int (fun _ _ => rfl)) pa_nil))))))))
      (pss_one (ps_ret (pv 1))))), ?_⟩
    obtain ⟨hq, hz, hN, l14⟩ := hn
    have lz := hz.len
    refine ⟨_, rfl, q, rfl, ⟨_, SqL.of hq⟩, for_list (K := K) (a := q) (xs := zs) (fun i σ H' => (∃ x2 : Option V, σ = [some (.ref q), some (.int (sclQ (ps.take i))), x2]) ∧ H' = H) ⟨⟨_, rfl⟩, rfl⟩ (fun i σ H' _ pr => by rw [pr.2]; exact SqL.of hq) ?_ ?_⟩
    · rintro i z σ H1 hi ⟨⟨x2, rfl⟩, rfl⟩
      obtain ⟨p, a, ep, rfl, ea⟩ := hz.get hi
      have et : ps.take (i + 1) = ps.take i ++ [p] := by rw [List.take_add_one, ep]; rfl
      have nt : NumQ (ps.take i) := fun x hx => hN x (List.mem_of_mem_take hx)
      obtain ⟨s0, s1⟩ := scl_sm nt (by rw [List.length_take]; omega)
      obtain ⟨r, b1, b2⟩ := hN p (List.mem_of_getElem? ep)
      have dp := r.pos
      have g0 := gd_pos (a := sclQ (ps.take i)) (b := p.2) (by omega)
      have g1 : (gd (sclQ (ps.take i)) p.2).natAbs < 2 ^ 4000 := Nat.lt_of_le_of_lt (Nat.le_trans (gd_natAbs_le (by omega)) b2) (Nat.lt_of_lt_of_le (show _ < 2 ^ 200 by decide) (Nat.pow_le_pow_right (by decide) (by decide)))
      have pp := part_pos (s := sclQ (ps.take i)) dp
      have pl := part_le (s := sclQ (ps.take i)) dp
      have e1 : p.2.fdiv (gd (sclQ (ps.take i)) p.2) = p.2 / gd (sclQ (ps.take i)) p.2 := Int.fdiv_eq_ediv_of_nonneg _ (gd_nonneg _ _)
      refine ⟨_, rfl, _, rfl, a, _, _, .int p.2, rfl, rfl, SqT.of ea, at_of (j := 1) rfl rfl, _, rfl, _, rfl, a, _, _, .int p.2, rfl, rfl, SqT.of ea, at_of (j := 1) rfl rfl, _, _, rfl, by omega, by omega, _, _, rfl, rfl, ⟨by omega, log_lt g1⟩, _, _, rfl, rfl, ?_, ⟨some (.ref a), ?_⟩, rfl⟩
      · rw [e1]
        exact wide_mul s1 (show (p.2 / gd (sclQ (ps.take i)) p.2).natAbs < 2 ^ 200 from Nat.lt_of_le_of_lt (show _ ≤ 10000000000000000000000000000000000000000 by omega) (by decide)) (by decide) (by decide) (by decide)
      · rw [e1, et, sclQ_snoc]
        rfl
    · rintro σ H1 ⟨⟨x2, rfl⟩, rfl⟩
      refine ⟨_, rfl, ?_⟩
      rw [lz, List.take_length]
      exact k
end
abbrev sSd : Stmt := top 64
abbrev nSd : List Str := ["value", "scale"]
abbrev pSd : List Str := ["value", "scale"]
theorem scSd : FnScope nSd pSd (defScope sSd) := ⟨rfl, rfl, rfl, by decide +kernel, rfl, by decide +kernel, by decide +kernel⟩
section
theorem ok_Sd (F : Fun K "scaled" "scaled" sSd f fd) (T : Bt mg) : FnOk P w K mg base CX0 1 f fd pSd (spScd) := by
  refine F.ok scSd (fun vs H Q E h => ?_) (fun cdv A outer s H vs Q E hr h => ?_)
  · obtain ⟨p, n, d, S, rfl, _⟩ := h
    rfl
  · obtain ⟨p, n, d, S, rfl, hp, n1, d0, d1, S0, S1, k⟩ := h
    refine ⟨_, (pss_one (ps_ret (pe_op op_mulW (pe_ix ix_tup (pv 0) pe_int (fun _ _ => rfl)) (pe_op op_fdivW (pv 1) (pe_ix ix_tup (pv 0) pe_int (fun _ _ => rfl)))))), ?_⟩
    have e1 : S.fdiv d = S / d := Int.fdiv_eq_ediv_of_nonneg _ (by omega)
    have q0 : 0 ≤ S / d := Int.ediv_nonneg (by omega) (by omega)
    have q1 : S / d ≤ S := Int.ediv_le_self _ (by omega)
    refine ⟨_, rfl, p, _, _, .int n, rfl, rfl, SqT.of hp, at_of (j := 0) rfl rfl, _, rfl, _, rfl, p, _, _, .int d, rfl, rfl, SqT.of hp, at_of (j := 1) rfl rfl, _, _, rfl, rfl, wide_div d0 (Nat.lt_of_le_of_lt d1 (show _ < 2 ^ 200 by decide)) (by decide) (by decide), _, _, rfl, rfl, wide_mul (Nat.lt_of_le_of_lt n1 (show _ < 2 ^ 200 by decide)) (show (S / d).natAbs < 2 ^ 1870 by omega) (by decide) (by decide) (by decide), k⟩
end
abbrev sSo : Stmt := top 65
abbrev nSo : List Str := ["values", "scale", "value"]
abbrev pSo : List Str := ["values"]
theorem scSo : FnScope nSo pSo (defScope sSo) := ⟨rfl, rfl, rfl, by decide +kernel, rfl, by decide +kernel, by decide +kernel⟩
section
variable {fA_ fB_ fC_ : Addr} {fdA_ fdB_ fdC_ : FuncData}
theorem ok_So (F : Fun K "sum_of" "sum_of" sSo f fd) (T : Bt mg) (mU : mg "sum" = none)
    (GA_ : FnOk P w K mg base CX0 2 fA_ fdA_ ["values"] (spCsc)) (mA_ : mg "common_scale" = some (.ref fA_)) (kA_ : PySem.W.keepIn K (.ref fA_) = true) (bA_ : Binds K fdA_ ["values"] [])
    (GB_ : FnOk P w K mg base CX0 1 fB_ fdB_ ["value", "scale"] (spScd)) (mB_ : mg "scaled" = some (.ref fB_)) (kB_ : PySem.W.keepIn K (.ref fB_) = true) (bB_ : Binds K fdB_ ["value", "scale"] [])
    (GC_ : FnOk P w K mg base CX0 2 fC_ fdC_ ["n", "d"] (spLow)) (mC_ : mg "lowest_terms" = some (.ref fC_)) (kC_ : PySem.W.keepIn K (.ref fC_) = true) (bC_ : Binds K fdC_ ["n", "d"] []) : FnOk P w K mg base CX0 3 f fd pSo (spSmo) := by
  refine F.ok scSo (fun vs H Q E h => ?_) (fun cdv A outer s H vs Q E hr h => ?_)
  · obtain ⟨q, zs, ps, rfl, _⟩ := h
    rfl
  · obtain ⟨q, zs, ps, rfl, hn, k⟩ := h
    have hrA_ : Room (2) _ := hr.mono (by first | decide | omega)
    have hrB_ : Room (1) _ := hr.mono (by first | decide | omega)
    have hrC_ : Room (2) _ := hr.mono (by first | decide | omega)
    refine ⟨_, (pss_cons (ps_set (i := 1) scSo.nd rfl (Or.inr rfl) (pe_call GA_ hrA_ (by rfl) mA_ kA_ bA_ .nil pass0 (pa_cons (pv 0) pa_nil)))
      (pss_one (ps_ret (pe_call GC_ hrC_ (by rfl) mC_ kC_ bC_ .nil pass0 (pa_cons (pe_callB (cr_sum rfl) (by rfl) mU (by decide +kernel) (pa_cons (pe_lc (own := [("value", 2)]) (g := (gName 2)) (tt := tYes) (te := teSo) (by rfl) scSo.nd (pi_list (pv 0)) (blkOk_by (own := [("value", 2)]) (N := nSo) (sc := defScope sSo) (by decide +kernel)) (fun _ _ _ _ _ => (pg_name (i := 2) scSo.nd rfl (.inl rfl))) (fun _ _ _ _ _ => pts_nil) (fun _ _ _ _ _ => (pe_call GB_ hrB_ (by rfl) mB_ kB_ bB_ .nil pass0 (pa_cons (pv 2) (pa_cons (pv 1) pa_nil))))) pa_nil)) (pa_cons (pv 1) pa_nil)))))), ?_⟩
    have hn0 := hn
    obtain ⟨hq, hz, hN, l14⟩ := hn
    have lz := hz.len
    obtain ⟨S0, S1⟩ := scl_sm hN l14
    have sl := sum_low S0 hN.good.pos (sclQ_dvd hN.good.pos)
    refine ⟨_, rfl, q, zs, ps, rfl, hn0, ?_⟩
    generalize sclQ ps = S at S0 S1 sl ⊢
    refine ⟨_, rfl, q, rfl, ⟨_, SqL.of hq⟩, fun D hD => lc_list (K := K) (a := q) (xs := zs) (fun i H' => H' D = some (.lst (((ps.take i).map fun p => p.1 * (S / p.2)).map V.int)) ∧ Same H H') ⟨upd_same, Same.upd hD⟩ (fun i H' _ pr => SqL.of (pr.2 _ _ hq)) ?_ ?_⟩
    · rintro i z H1 hi ⟨eD, s1⟩
      obtain ⟨p, a, ep, rfl, ea⟩ := hz.get hi
      have et : ps.take (i + 1) = ps.take i ++ [p] := by rw [List.take_add_one, ep]; rfl
      obtain ⟨r, b1, b2⟩ := hN p (List.mem_of_getElem? ep)
      refine ⟨rfl, ?_⟩
      dsimp only [tYes]
      refine iteT ?_
      change teSo _ _ _
      refine ⟨_, rfl, _, rfl, a, p.1, p.2, S, rfl, s1 _ _ ea, b1, r.pos, b2, S0, S1, _, eD, lt_size (by rw [List.length_map, List.length_map, List.length_take]; omega), ?_, fun b o e => by rw [upd_ne (ne_of_none e hD)]; exact s1 b o e⟩
      rw [upd_same, et, List.map_append, List.map_append]
      rfl
    rintro H1 ⟨eD, s1⟩
    rw [lz, List.take_length] at eD
    refine ⟨D, _, rfl, SqL.of eD, _, rfl, _, S, rfl, by omega, Nat.lt_of_lt_of_le S1 (Nat.pow_le_pow_right (by decide) (by decide)), low_pos S0 fun p hp => k p _ (s1.trans (Same.upd hp)) ?_⟩
    rw [upd_same]
    have e1 : (sumQ ps).1 = lowN (scaS S ps) S := congrArg Prod.fst sl.symm
    have e2 : (sumQ ps).2 = lowD (scaS S ps) S := congrArg Prod.snd sl.symm
    rw [e1, e2]
    rfl
end
abbrev sMe : Stmt := top 66
abbrev nMe : List Str := ["values", "n", "d"]
abbrev pMe : List Str := ["values"]
theorem scMe : FnScope nMe pMe (defScope sMe) := ⟨rfl, rfl, rfl, by decide +kernel, rfl, by decide +kernel, by decide +kernel⟩
section
variable {fA_ fB_ : Addr} {fdA_ fdB_ : FuncData}
theorem ok_Me (F : Fun K "mean_of" "mean_of" sMe f fd) (T : Bt mg)
    (GA_ : FnOk P w K mg base CX0 3 fA_ fdA_ ["values"] (spSmo)) (mA_ : mg "sum_of" = some (.ref fA_)) (kA_ : PySem.W.keepIn K (.ref fA_) = true) (bA_ : Binds K fdA_ ["values"] [])
    (GB_ : FnOk P w K mg base CX0 2 fB_ fdB_ ["n", "d"] (spLow)) (mB_ : mg "lowest_terms" = some (.ref fB_)) (kB_ : PySem.W.keepIn K (.ref fB_) = true) (bB_ : Binds K fdB_ ["n", "d"] []) : FnOk P w K mg base CX0 4 f fd pMe (spWk "mean") := by
  refine F.ok scMe (fun vs H Q E h => ?_) (fun cdv A outer s H vs Q E hr h => ?_)
  · obtain ⟨q, zs, ps, r, rfl, _⟩ := h
    rfl
  · obtain ⟨q, zs, ps, r, rfl, hn, ne, ht, k⟩ := h
    have hrA_ : Room (3) _ := hr.mono (by first | decide | omega)
    have hrB_ : Room (2) _ := hr.mono (by first | decide | omega)
    refine ⟨_, (pss_cons (ps_asg (pe_call GA_ hrA_ (by rfl) mA_ kA_ bA_ .nil pass0 (pa_cons (pv 0) pa_nil)) (pg_tup rfl (pgs_cons (pg_name (i := 1) scMe.nd rfl (.inl rfl)) (pgs_cons (pg_name (i := 2) scMe.nd rfl (.inl rfl)) pgs_nil))))
      (pss_one (ps_ret (pe_call GB_ hrB_ (by rfl) mB_ kB_ bB_ .nil pass0 (pa_cons (pv 1) (pa_cons (pe_op op_mulW (pv 2) (pe_callB call_len_seq (by rfl) T.len PySem.boot_len (pa_cons (pv 0) pa_nil))) pa_nil)))))), ?_⟩
    have hn0 := hn
    obtain ⟨hq, hz, hN, l14⟩ := hn
    have lz := hz.len
    obtain ⟨s0, s1⟩ := sum_sm hN l14
    have lp : 0 < ps.length := List.length_pos_iff.mpr ne
    have er : r = meanQ ps := by
      have : totQ "mean" ps = some (meanQ ps) := by
        unfold totQ
        rw [if_neg (by decide +kernel), if_neg (by decide +kernel), if_neg (by omega), if_pos rfl]
      rw [this] at ht
      exact (Option.some.inj ht).symm
    refine ⟨_, rfl, q, zs, ps, rfl, hn0, fun p H1 s1' e1 => ?_⟩
    refine ⟨p, _, rfl, SqT.of e1, rfl, _, _, rfl, _, _, rfl, rfl, ?_⟩
    dsimp only [gNil]
    have lz2 : zs.length < 2 ^ 10 := by rw [lz]; exact Nat.lt_of_le_of_lt l14 (by decide)
    have d1 : ((sumQ ps).2 * ((zs.length : Nat) : Int)).natAbs < 2 ^ (1870 + 10) := wide_lt s1 (by rw [Int.natAbs_natCast]; exact lz2)
    have d0 : 0 < (sumQ ps).2 * ((zs.length : Nat) : Int) := Int.mul_pos s0 (by omega)
    refine ⟨_, rfl, _, rfl, _, rfl, q, _, rfl, .inl (SqL.of (s1' _ _ hq)), _, _, rfl, rfl, wide_mul s1 (show ((zs.length : Nat) : Int).natAbs < 2 ^ 10 by rw [Int.natAbs_natCast]; exact lz2) (by decide) (by decide) (by decide), _, _, rfl, by omega, Nat.lt_of_lt_of_le d1 (Nat.pow_le_pow_right (by decide) (by decide)), low_pos d0 fun p2 hp2 => k _ _ (s1'.trans (Same.upd hp2)) ?_⟩
    rw [er]
    refine pair_dh ?_
    rw [upd_same, lz]
    rfl
end
abbrev sMd : Stmt := top 67
abbrev nMd : List Str := ["values", "ordered", "half"]
abbrev pMd : List Str := ["values"]
theorem scMd : FnScope nMd pMd (defScope sMd) := ⟨rfl, rfl, rfl, by decide +kernel, rfl, by decide +kernel, by decide +kernel⟩
section
variable {fA_ fB_ : Addr} {fdA_ fdB_ : FuncData}
theorem ok_Md (F : Fun K "median_of" "median_of" sMd f fd) (T : Bt mg) (mS : mg "sorted" = none)
    (GA_ : FnOk P w K mg base CX0 1 fA_ fdA_ ["value"] (spBz)) (mA_ : mg "by_size" = some (.ref fA_)) (kA_ : PySem.W.keepIn K (.ref fA_) = true) (bA_ : Binds K fdA_ ["value"] [])
    (GB_ : FnOk P w K mg base CX0 4 fB_ fdB_ ["values"] (spWk "mean")) (mB_ : mg "mean_of" = some (.ref fB_)) (kB_ : PySem.W.keepIn K (.ref fB_) = true) (bB_ : Binds K fdB_ ["values"] []) : FnOk P w K mg base CX0 6 f fd pMd (spWk "median") := by
  refine F.ok scMd (fun vs H Q E h => ?_) (fun cdv A outer s H vs Q E hr h => ?_)
  · obtain ⟨q, zs, ps, r, rfl, _⟩ := h
    rfl
  · obtain ⟨q, zs, ps, r, rfl, hn, ne, ht, k⟩ := h
    have hrA_ : Room (1) _ := hr.mono (by first | decide | omega)
    have hrB_ : Room (4) _ := hr.mono (by first | decide | omega)
    have hrS : Room (1 + 2) _ := hr.mono (by decide)
    refine ⟨_, (pss_cons (ps_set (i := 1) scMd.nd rfl (Or.inl rfl) (pe_sortK GA_ hrS bA_ kA_ (by rfl) mA_ (by rfl) mS (pa_cons (pv 0) pa_nil)))
      (pss_cons (ps_set (i := 2) scMd.nd rfl (Or.inl rfl) (pe_op op_fdiv (pe_callB call_len_seq (by rfl) T.len PySem.boot_len (pa_cons (pv 1) pa_nil)) pe_int))
      (pss_cons (ps_if (pt_cmpR op_eq (pe_op op_mod (pe_callB call_len_seq (by rfl) T.len PySem.boot_len (pa_cons (pv 1) pa_nil)) pe_int) pe_int (nomark _)) (pss_one (ps_ret (pe_ix ix_list (pv 1) (pv 2) (fun _ _ => rfl)))) pss_nil)
      (pss_one (ps_ret (pe_call GB_ hrB_ (by rfl) mB_ kB_ bB_ .nil pass0 (pa_cons (pe_slice sl_list (pv 1) (po_some (pe_op op_sub (pv 2) pe_int)) (po_some (pe_op op_add (pv 2) pe_int))) pa_nil))))))), ?_⟩
    have hn0 := hn
    obtain ⟨hq, hz, hN, l14⟩ := hn
    have lz := hz.len
    have lp : 0 < ps.length := List.length_pos_iff.mpr ne
    have er : r = medQ ps := by
      have : totQ "median" ps = some (medQ ps) := by
        unfold totQ
        rw [if_neg (by decide +kernel), if_neg (by decide +kernel), if_neg (by omega), if_neg (by decide +kernel), if_pos rfl]
      rw [this] at ht
      exact (Option.some.inj ht).symm
    refine ⟨_, rfl, q, (zs.zip ps).map keyB, rfl, by rw [cs_fst lz]; exact SqL.of hq, key_ask hz hN, fun D hD => ?_⟩
    rw [srtC_key]
    have zD := Same.upd (o := .lst (((srtC (zs.zip ps)).map keyB).map (·.1))) hD
    have hy := (srtC_num hz).same zD
    have eD : L2.upd H D (.lst (((srtC (zs.zip ps)).map keyB).map (·.1))) D = some (.lst (((srtC (zs.zip ps)).map keyB).map (·.1))) := upd_same
    generalize ((srtC (zs.zip ps)).map keyB).map (·.1) = ys at zD hy eD ⊢
    generalize L2.upd H D (.lst ys) = H1 at zD hy eD ⊢
    have ly : ys.length = ps.length := by rw [hy.len, ordQ_len]
    refine ⟨_, rfl, D, ys, rfl, .inl (SqL.of eD), _, _, rfl, rfl, ?_, ?_⟩
    · exact ⟨by decide, by decide⟩
    refine ⟨_, rfl, D, ys, rfl, .inl (SqL.of eD), _, _, rfl, rfl, (by show (0 : Int) < 2; decide), rfl, _, rfl, ?_⟩
    have e2 : ((ys.length : Nat) : Int) / 2 = ((ps.length / 2 : Nat) : Int) := by rw [ly]; rfl
    have e3 : ((ys.length : Nat) : Int) % 2 = ((ps.length % 2 : Nat) : Int) := by rw [ly]; rfl
    dsimp only
    rw [e2]
    have o2 := ordQ_getD hN.good (i := ps.length / 2) (by omega)
    refine ite2 (fun z => ?_) (fun z => ?_)
    · have odd : ps.length % 2 = 1 := by
        have := of_decide_eq_true z
        injection this with this
        omega
      obtain ⟨y, ey⟩ : ∃ y, ys[ps.length / 2]? = some y := ⟨_, List.getElem?_eq_getElem (by omega)⟩
      obtain ⟨p, a, ep, rfl, ea⟩ := hy.get ey
      rw [o2.1] at ep
      refine ⟨_, rfl, _, rfl, D, ys, _, .ref a, rfl, rfl, SqL.of eD, at_of (j := ps.length / 2) rfl ey, k _ _ zD ?_⟩
      have em : medQ ps = (ordQ ps).getD (ps.length / 2) (0, 1) := by
        unfold medQ
        rw [show (ps.length - 1) / 2 = ps.length / 2 by omega]
        exact halfQ_self (hN _ o2.2).1
      rw [er, em]
      rw [Option.some.inj ep]
      exact pair_dh ea
    · have even : ps.length % 2 = 0 := by
        have w0 : ¬ (V.int (((ys.length : Nat) : Int) % 2) = V.int 1) := fun e => z (decide_eq_true e)
        have : ¬ ((ys.length : Nat) : Int) % 2 = 1 := fun e => w0 (congrArg V.int e)
        omega
      obtain ⟨h, hh⟩ : ∃ h, ps.length / 2 = h + 1 := ⟨ps.length / 2 - 1, by omega⟩
      have o1 := ordQ_getD hN.good (i := h) (by omega)
      rw [hh] at o2
      rw [hh]
      obtain ⟨y1, ey1⟩ : ∃ y, ys[h]? = some y := ⟨_, List.getElem?_eq_getElem (by omega)⟩
      obtain ⟨y2, ey2⟩ : ∃ y, ys[h + 1]? = some y := ⟨_, List.getElem?_eq_getElem (by omega)⟩
      have ec : cutV ys (some (((h + 1 : Nat) : Int) - 1)) (some (((h + 1 : Nat) : Int) + 1)) = [y1, y2] := by
        have e4 : HT.sIx ys.length 0 (some (((h + 1 : Nat) : Int) - 1)) = h := by
          rw [show ((h + 1 : Nat) : Int) - 1 = ((h : Nat) : Int) by omega, HT.sIx_nat]
          omega
        have e5 : HT.sIx ys.length ys.length (some (((h + 1 : Nat) : Int) + 1)) = h + 2 := by
          rw [show ((h + 1 : Nat) : Int) + 1 = ((h + 2 : Nat) : Int) by omega, HT.sIx_nat]
          omega
        unfold cutV
        rw [e4, e5, show h + 2 - h = 2 by omega]
        have l1 := (List.getElem?_eq_some_iff.mp ey1)
        have l2 := (List.getElem?_eq_some_iff.mp ey2)
        obtain ⟨l1, v1⟩ := l1
        obtain ⟨l2, v2⟩ := l2
        rw [List.drop_eq_getElem_cons l1, List.drop_eq_getElem_cons l2, v1, v2]
        rfl
      refine ⟨_, rfl, _, rfl, _, _, rfl, rfl, _, rfl, _, rfl, _, _, rfl, rfl, _, rfl, D, ys, rfl, SqL.of eD, fun D2 hD2 => ?_⟩
      have z2 := Same.upd (o := .lst (cutV ys (some (((h + 1 : Nat) : Int) - 1)) (some (((h + 1 : Nat) : Int) + 1)))) hD2
      rw [ec] at z2 ⊢
      have s2 := zD.trans z2
      obtain ⟨p1, a1, ep1, rfl, ea1⟩ := hy.get ey1
      obtain ⟨p2, a2, ep2, rfl, ea2⟩ := hy.get ey2
      rw [o1.1] at ep1
      rw [o2.1] at ep2
      have n2 : NumQ [p1, p2] := fun x hx => by
        simp only [List.mem_cons, List.not_mem_nil, or_false] at hx
        rcases hx with rfl | rfl
        · rw [← Option.some.inj ep1]; exact hN _ o1.2
        · rw [← Option.some.inj ep2]; exact hN _ o2.2
      have em : medQ ps = meanQ [p1, p2] := by
        unfold medQ
        rw [show (ps.length - 1) / 2 = h by omega, hh, Option.some.inj ep1, Option.some.inj ep2]
        rfl
      refine ⟨D2, _, [p1, p2], meanQ [p1, p2], rfl, ⟨upd_same, .cons (pair_dh (z2 _ _ ea1)) (.cons (pair_dh (z2 _ _ ea2)) .nil), n2, by show 2 ≤ 14; decide⟩, by simp, ?_, fun v H' s3 dv => k v H' (s2.trans s3) (by rw [er, em]; exact dv)⟩
      unfold totQ
      rw [if_neg (by decide +kernel), if_neg (by decide +kernel), if_neg (by show ¬ 2 = 0; decide), if_pos rfl]
end
abbrev sLe : Stmt := top 68
abbrev nLe : List Str := ["values"]
abbrev pLe : List Str := ["values"]
theorem scLe : FnScope nLe pLe (defScope sLe) := ⟨rfl, rfl, rfl, by decide +kernel, rfl, by decide +kernel, by decide +kernel⟩
section
variable {fA_ : Addr} {fdA_ : FuncData}
theorem ok_Le (F : Fun K "least_of" "least_of" sLe f fd) (T : Bt mg)
    (GA_ : FnOk P w K mg base CX0 1 fA_ fdA_ ["value"] (spBz)) (mA_ : mg "by_size" = some (.ref fA_)) (kA_ : PySem.W.keepIn K (.ref fA_) = true) (bA_ : Binds K fdA_ ["value"] []) : FnOk P w K mg base CX0 4 f fd pLe (spWk "least") := by
  refine F.ok scLe (fun vs H Q E h => ?_) (fun cdv A outer s H vs Q E hr h => ?_)
  · obtain ⟨q, zs, ps, r, rfl, _⟩ := h
    rfl
  · obtain ⟨q, zs, ps, r, rfl, hn, ne, ht, k⟩ := h
    have hrA_ : Room (1) _ := hr.mono (by first | decide | omega)
    have hrS : Room (1 + 1) _ := hr.mono (by decide)
    refine ⟨_, (pss_one (ps_ret (pe_minK GA_ hrS bA_ (by rfl) mA_ (by rfl) T.min (pa_cons (pv 0) pa_nil)))), ?_⟩
    obtain ⟨hq, hz, hN, l14⟩ := hn
    have lz := hz.len
    have lp : 0 < ps.length := List.length_pos_iff.mpr ne
    refine ⟨_, rfl, q, (zs.zip ps).map keyB, rfl, by rw [cs_fst lz]; exact SqL.of hq, ?_, key_ask hz hN, fun x hx hb => ?_⟩
    · intro e
      have := congrArg List.length e
      rw [List.length_map, List.length_zip, List.length_nil] at this
      omega
    · obtain ⟨c, hc, rfl⟩ := List.mem_map.mp hx
      obtain ⟨d, m⟩ := cs_at hz c hc
      have o := ordQ_head hN.good m fun y hy => by
        obtain ⟨z, hz2⟩ := cs_has lz hy
        have := hb (keyB (z, y)) (List.mem_map_of_mem hz2)
        rw [if_neg (by decide)] at this
        exact this
      have : totQ "least" ps = some c.2 := by
        unfold totQ
        rw [if_neg (by decide +kernel), if_neg (by decide +kernel), if_neg (by omega), if_neg (by decide +kernel), if_neg (by decide +kernel), if_pos rfl]
        exact o
      rw [this] at ht
      obtain rfl := Option.some.inj ht
      exact k _ _ (Same.refl H) d
end
abbrev sGe : Stmt := top 69
abbrev nGe : List Str := ["values"]
abbrev pGe : List Str := ["values"]
theorem scGe : FnScope nGe pGe (defScope sGe) := ⟨rfl, rfl, rfl, by decide +kernel, rfl, by decide +kernel, by decide +kernel⟩
section
variable {fA_ : Addr} {fdA_ : FuncData}
theorem ok_Ge (F : Fun K "greatest_of" "greatest_of" sGe f fd) (T : Bt mg) (mX : mg "max" = none)
    (GA_ : FnOk P w K mg base CX0 1 fA_ fdA_ ["value"] (spBz)) (mA_ : mg "by_size" = some (.ref fA_)) (kA_ : PySem.W.keepIn K (.ref fA_) = true) (bA_ : Binds K fdA_ ["value"] []) : FnOk P w K mg base CX0 4 f fd pGe (spWk "greatest") := by
  refine F.ok scGe (fun vs H Q E h => ?_) (fun cdv A outer s H vs Q E hr h => ?_)
  · obtain ⟨q, zs, ps, r, rfl, _⟩ := h
    rfl
  · obtain ⟨q, zs, ps, r, rfl, hn, ne, ht, k⟩ := h
    have hrA_ : Room (1) _ := hr.mono (by first | decide | omega)
    have hrS : Room (1 + 1) _ := hr.mono (by decide)
    refine ⟨_, (pss_one (ps_ret (pe_maxK GA_ hrS bA_ (by rfl) mA_ (by rfl) mX (pa_cons (pv 0) pa_nil)))), ?_⟩
    obtain ⟨hq, hz, hN, l14⟩ := hn
    have lz := hz.len
    have lp : 0 < ps.length := List.length_pos_iff.mpr ne
    refine ⟨_, rfl, q, (zs.zip ps).map keyB, rfl, by rw [cs_fst lz]; exact SqL.of hq, ?_, key_ask hz hN, fun x hx hb => ?_⟩
    · intro e
      have := congrArg List.length e
      rw [List.length_map, List.length_zip, List.length_nil] at this
      omega
    · obtain ⟨c, hc, rfl⟩ := List.mem_map.mp hx
      obtain ⟨d, m⟩ := cs_at hz c hc
      have o := ordQ_last hN.good m fun y hy => by
        obtain ⟨z, hz2⟩ := cs_has lz hy
        have := hb (keyB (z, y)) (List.mem_map_of_mem hz2)
        rw [if_pos rfl] at this
        exact this
      have : totQ "greatest" ps = some c.2 := by
        unfold totQ
        rw [if_neg (by decide +kernel), if_neg (by decide +kernel), if_neg (by omega), if_neg (by decide +kernel), if_neg (by decide +kernel), if_neg (by decide +kernel)]
        exact o
      rw [this] at ht
      obtain rfl := Option.some.inj ht
      exact k _ _ (Same.refl H) d
end
end
end K20
set_option Elab.async false
set_option linter.all false
set_option maxRecDepth 100000
set_option maxHeartbeats 4000000
namespace Lc
open PySem PySem.Spec PyProof.Rows L2
/-! ## a comprehension within a comprehension -/
theorem lookup_relabel_up {env : Env} : ∀ {names : List (Str × NameKind)} {x : Str}, (names.lookup x = some .cell ∨ names.lookup x = some .free) →
    ((names.map fun (n, k) => if (k == NameKind.free && env.scope.kind == .function && env.kindOf n == some .cell) then (n, NameKind.cell) else (n, k)).lookup x = some .cell ∨
     (names.map fun (n, k) => if (k == NameKind.free && env.scope.kind == .function && env.kindOf n == some .cell) then (n, NameKind.cell) else (n, k)).lookup x = some .free)
  | [], x, h => by simp at h
  | (n, k) :: r, x, h => by
    have ih := @lookup_relabel_up env r x
    rw [List.map_cons]
    by_cases e : (x == n) = true
    · rw [List.lookup_cons, e] at h
      dsimp only
      split
      · rw [List.lookup_cons, e]; exact .inl rfl
      · rw [List.lookup_cons, e]; exact h
    · rw [List.lookup_cons, show (x == n) = false by simpa using e] at h
      dsimp only
      split
      · rw [List.lookup_cons, show (x == n) = false by simpa using e]; exact ih h
      · rw [List.lookup_cons, show (x == n) = false by simpa using e]; exact ih h
theorem blkOk_rel {N : List Str} {sc scope : Scope} {own : List (Str × Nat)} {env : Env} (h : BlkOk N sc scope own) : BlkOk N (relabel sc env) scope own :=
  ⟨h.kind, h.uniq, h.ix, fun y hy e => lookup_relabel_up (h.free y hy e), h.own⟩
/-- the statements of a def -/
def bodyOf : Stmt → List Stmt
  | .FunctionDef _ _ body _ _ _ _ _ _ _ => body
  | _ => []
/-- the scope of a comprehension -/
def lcScope : Expr → Scope → Scope
  | .ListComp _ _ sc _, _ => sc
  | _, d => d
end Lc
set_option Elab.async false
set_option linter.all false
set_option maxRecDepth 100000
set_option maxHeartbeats 4000000
namespace K20
open PySem PySem.Spec PyProof.Rows L2 Lc
abbrev sWithin : Stmt := top 26
def spWithin : Sp := fun vs H Q _ => ∃ (a : Addr) (n d : Int), vs = [.ref a] ∧ H a = some (.tup [.int n, .int d]) ∧ Q (.bl (limB (.int n) (.int d))) H
def limD (n d : Int) : PyData := if limB (.int n) (.int d) = true then .tuple [.int n, .int d] else .none
def spLim : Sp := fun vs H Q _ => ∃ (p : Addr) (n d : Int), vs = [.ref p] ∧ H p = some (.tup [.int n, .int d]) ∧ ∀ v H', Same H H' → Dh H' v (limD n d) → Q v H'
/-! ## the totals of a column -/
def isN : PyData → Bool
  | .none => true
  | _ => false
theorem dh_isN {H : Hp} {v : V} {d : PyData} (h : Dh H v d) : decide (v = V.non) = isN d := by cases h <;> rfl
def presD (ds : List PyData) : List PyData := ds.filter fun d => !isN d
def numD : PyData → Option Qn
  | .tuple [.int n, .int d] => some (n, d)
  | _ => none
def numsD (ds : List PyData) : List Qn := ds.filterMap numD
theorem nums_pres {ds : List PyData} (h : ∀ d ∈ ds, Vk "number" d) : presD ds = (numsD ds).map pairQ ∧ NumQ (numsD ds) := by
  induction ds with
  | nil => exact ⟨rfl, fun p hp => by cases hp⟩
  | cons d ds ih =>
    obtain ⟨i1, i2⟩ := ih fun x hx => h x (List.mem_cons_of_mem _ hx)
    have hd := h d List.mem_cons_self
    generalize hk : ("number" : Str) = kk at hd
    cases hd with
    | non => exact ⟨i1, i2⟩
    | @num n d' r h1 h2 =>
      refine ⟨?_, fun p hp => ?_⟩
      · show (PyData.tuple [.int n, .int d'] :: presD ds) = pairQ (n, d') :: (numsD ds).map pairQ
        rw [i1]
        rfl
      · rcases List.mem_cons.mp hp with rfl | hp
        · exact ⟨r, h1, h2⟩
        · exact i2 p hp
    | flag b => exact absurd hk (by decide +kernel)
    | word h hn => exact absurd hk (by decide +kernel)
theorem totQ_some {fn : Str} {ps : List Qn} (h1 : fn ≠ "count") (h2 : fn ≠ "sum") (h3 : ps.length ≠ 0) : ∃ r, totQ fn ps = some r := by
  unfold totQ
  rw [if_neg h1, if_neg h2, if_neg h3]
  split
  · exact ⟨_, rfl⟩
  split
  · exact ⟨_, rfl⟩
  have ln := ordQ_len ps
  split
  · exact ⟨_, List.getElem?_eq_getElem (by omega)⟩
  · exact ⟨_, List.getElem?_eq_getElem (by omega)⟩
def pairO : Option Qn → PyData
  | none => .none
  | some q => pairQ q
def totT (fn : Str) (ds : List PyData) : PyData := if fn = "count" then pairQ (((presD ds).length : Nat), 1) else pairO (totQ fn (numsD ds))
def limO : Option Qn → PyData
  | none => .none
  | some q => limD q.1 q.2
def totD (fn : Str) (ds : List PyData) : PyData := if fn = "count" then limD ((presD ds).length : Nat) 1 else limO (totQ fn (numsD ds))
structure TotOk (fn : Str) (ds : List PyData) : Prop where
  f : fn ∈ fnS
  num : fn ≠ "count" → ∀ d ∈ ds, Vk "number" d
  len : ds.length ≤ 14
def spTot : Sp := fun vs H Q _ => ∃ (q : Addr) (zs : List V) (ds : List PyData) (fn : Str), vs = [.str fn, .ref q] ∧ H q = some (.lst zs) ∧ DhAll H zs ds ∧ TotOk fn ds ∧ ∀ (v : V) (H' : Hp), Same H H' → Dh H' v (totT fn ds) → Q v H'
def spLt : Sp := fun vs H Q _ => ∃ (q : Addr) (zs : List V) (ds : List PyData) (fn : Str), vs = [.str fn, .ref q] ∧ H q = some (.lst zs) ∧ DhAll H zs ds ∧ TotOk fn ds ∧ ∀ (v : V) (H' : Hp), Same H H' → Dh H' v (totD fn ds) → Q v H'
def ofW : List Str := ["mean", "median", "least", "greatest"]
structure OfA (P : Program) (w : World) (K : PySem.W.Frag) (mg : Str → Option Value) (base : Heap) (oA : Addr) : Prop where
  gr : mg "OF_SOME" = some (.ref oA)
  d : ∀ x ∈ ofW, ∃ g, KDct K w oA x (.ref g) ∧ Held P w K mg base 6 g (spWk x)
abbrev ttTo : TT := tTest (tOp rNotN (tVar 3) (tC .non))
section
variable {P : Program} {w : World} {K : PySem.W.Frag} {mg : Str → Option Value} {base : Heap} {f : Addr} {fd : FuncData}
abbrev sLim : Stmt := top 41
section
variable {fW : Addr} {fdW : FuncData}
theorem scLim : FnScope ["number"] ["number"] (defScope sLim) := ⟨rfl, rfl, rfl, by decide +kernel, rfl, by decide +kernel, by decide +kernel⟩
theorem ok_lim (F : Fun K "limited" "limited" sLim f fd) (GW : FnOk P w K mg base CX0 1 fW fdW ["number"] spWithin) (mW : mg "within_limit" = some (.ref fW)) (kW : PySem.W.keepIn K (.ref fW) = true) (bW : Binds K fdW ["number"] []) : FnOk P w K mg base CX0 2 f fd ["number"] spLim := by
  refine F.ok scLim (fun vs H Q E h => ?_) (fun cdv A outer s H vs Q E hr h => ?_)
  · obtain ⟨p, n, d, rfl, _⟩ := h
    rfl
  · obtain ⟨p, n, d, rfl, hp, k⟩ := h
    refine ⟨_, pss_one (ps_ret (pe_ifExp (pt_val (pe_call GW hr (by rfl) mW kW bW .nil pass0 (pa_cons (pv 0) pa_nil))) (pv 0) pe_non)), ?_⟩
    refine ⟨_, rfl, p, n, d, rfl, hp, _, rfl, ?_⟩
    unfold limD at k
    refine ite2 (fun z => ?_) (fun z => ?_)
    · rw [if_pos z] at k
      exact ⟨_, rfl, k _ H (Same.refl H) (.tup hp (.cons (.int n) (.cons (.int d) .nil)))⟩
    · rw [if_neg z] at k
      exact k _ H (Same.refl H) .non
end
abbrev sTl : Stmt := top 61
abbrev nTl : List Str := ["function", "values", "present", "value", "work"]
abbrev pTl : List Str := ["function", "values"]
theorem scTl : FnScope nTl pTl (defScope sTl) := ⟨rfl, rfl, rfl, by decide +kernel, rfl, by decide +kernel, by decide +kernel⟩
section
variable {fA_ : Addr} {fdA_ : FuncData}
theorem ok_Tl (F : Fun K "total" "total" sTl f fd) (T : Bt mg) {oA : Addr} (OA : OfA P w K mg base oA)
    (GA_ : FnOk P w K mg base CX0 3 fA_ fdA_ ["values"] (spSmo)) (mA_ : mg "sum_of" = some (.ref fA_)) (kA_ : PySem.W.keepIn K (.ref fA_) = true) (bA_ : Binds K fdA_ ["values"] []) : FnOk P w K mg base CX0 7 f fd pTl (spTot) := by
  refine F.ok scTl (fun vs H Q E h => ?_) (fun cdv A outer s H vs Q E hr h => ?_)
  · obtain ⟨q, zs, ds, fn, rfl, _⟩ := h
    rfl
  · obtain ⟨q, zs, ds, fn, rfl, hq, dz, ok, k⟩ := h
    have hrA_ : Room (3) _ := hr.mono (by first | decide | omega)
    obtain ⟨g, hg⟩ : ∃ g : Addr, fn ∈ ofW → KDct K w oA fn (.ref g) ∧ Held P w K mg base 6 g (spWk fn) := by
      by_cases z : fn ∈ ofW
      · obtain ⟨g, h⟩ := OA.d fn z
        exact ⟨g, fun _ => h⟩
      · exact ⟨oA, fun h => absurd h z⟩
    have hr3 : Room 6 _ := hr.mono (by decide)
    have AS : ∀ f sp, (fun q => if q = g ∧ fn ∈ ofW then some (spWk fn) else none : Addr → Option Sp) f = some sp → Held P w K mg base 6 f sp := fun f sp e => by
      dsimp only at e
      by_cases z : f = g ∧ fn ∈ ofW
      · rw [if_pos z] at e
        obtain rfl := Option.some.inj e
        rw [z.1]
        exact (hg z.2).2
      · rw [if_neg z] at e
        cases e
    refine ⟨_, (pss_cons (ps_setLc (i := 2) (own := [("value", 3)]) (g := (gName 3)) (tt := ttTo) (te := tVar 3) (by rfl) scTl.nd rfl rfl (sw_true rfl rfl rfl (by decide +kernel)) (pi_list (pv 1)) (blkOk_by (own := [("value", 3)]) (N := nTl) (sc := defScope sTl) (by decide +kernel)) (fun _ _ _ _ _ => (pg_name (i := 3) scTl.nd rfl (.inl rfl))) (fun _ _ _ _ _ => (pts_one (pt_cmpR op_notN (pv 3) pe_non (nomark _)))) (fun _ _ _ _ _ => (pv 3)))
      (pss_cons (ps_if (pt_cmpR op_eq (pv 0) pe_str (nomark _)) (pss_one (ps_ret (pe_tup (pa_cons (pe_callB call_len_seq (by rfl) T.len PySem.boot_len (pa_cons (pv 2) pa_nil)) (pa_cons pe_int pa_nil))))) pss_nil)
      (pss_cons (ps_if (pt_cmpR op_eq (pv 0) pe_str (nomark _)) (pss_one (ps_ret (pe_call GA_ hrA_ (by rfl) mA_ kA_ bA_ .nil pass0 (pa_cons (pv 2) pa_nil)))) pss_nil)
      (pss_cons (ps_if (pt_cmpR op_eq (pe_callB call_len_seq (by rfl) T.len PySem.boot_len (pa_cons (pv 2) pa_nil)) pe_int (nomark _)) (pss_one (ps_ret pe_non)) pss_nil)
      (pss_cons (ps_set (i := 4) scTl.nd rfl (Or.inl rfl) (pe_ix ix_kdict (pe_glob (v := .ref oA) (by rfl) OA.gr rfl) (pv 0) (fun _ _ => rfl)))
      (pss_one (ps_ret (pe_callA (i := 4) AS hr3 rfl (Or.inl rfl) (pa_cons (pv 2) pa_nil))))))))), ?_⟩
    have lz := dz.len
    have l14 := ok.len
    refine ⟨_, rfl, q, rfl, ⟨_, SqL.of hq⟩, fun P1 hP => lc_list (K := K) (a := q) (xs := zs) (fun i H' => (∃ ys, H' P1 = some (.lst ys) ∧ DhAll H ys (presD (ds.take i))) ∧ Same H H') ⟨⟨[], upd_same, .nil⟩, Same.upd hP⟩ (fun i H' _ pr => SqL.of (pr.2 _ _ hq)) ?_ ?_⟩
    · rintro i x H1 hx ⟨⟨ys, eP, ly⟩, s1⟩
      obtain ⟨d, ed, dd⟩ := dz.get i x hx
      have li := (List.getElem?_eq_some_iff.mp ed).1
      have fl : presD (ds.take (i + 1)) = presD (ds.take i) ++ presD [d] := by
        rw [List.take_add_one, ed]
        exact List.filter_append ..
      have l1 : ys.length ≤ 1000 := by
        have := ly.len
        have l2 : (presD (ds.take i)).length ≤ (ds.take i).length := List.length_filter_le _ _
        rw [List.length_take] at l2
        omega
      refine ⟨rfl, ?_⟩
      change ttTo _ _ _
      refine ⟨_, rfl, rfl, _, rfl, ?_⟩
      rw [dh_isN dd]
      refine ite2 (fun w => ⟨_, rfl, _, eP, lt_size l1, ⟨_, upd_same, ?_⟩, fun b o e => by rw [upd_ne (ne_of_none e hP)]; exact s1 b o e⟩) (fun w => ⟨⟨ys, eP, ?_⟩, s1⟩)
      · rw [fl, show presD [d] = [d] from List.filter_cons_of_pos w]
        exact DhAll.append ly (.cons dd .nil)
      · rw [fl, show presD [d] = [] from List.filter_cons_of_neg w, List.append_nil]
        exact ly
    rintro H1 ⟨⟨ys, eP, dy⟩, s1⟩
    rw [lz, List.take_length] at dy
    have lp : (presD ds).length ≤ ds.length := List.length_filter_le _ _
    have dy1 := DhAll.same s1 dy
    have ly := dy.len
    refine ⟨_, rfl, rfl, _, rfl, ite2 (fun z => ?_) (fun z => ?_)⟩
    · have hf : fn = "count" := by
        have := of_decide_eq_true z
        injection this
      refine ⟨_, rfl, P1, ys, rfl, .inl (SqL.of eP), by show 2 ≤ sizeLine; decide, fun t ht => ?_⟩
      have zt := Same.upd (o := .tup [.int (ys.length : Nat), .int 1]) ht
      refine k _ _ (s1.trans zt) ?_
      unfold totT
      rw [if_pos hf, ← ly]
      exact pair_dh upd_same
    have hf : fn ≠ "count" := fun e => z (by rw [e]; exact decide_eq_true rfl)
    obtain ⟨e1, nq⟩ := nums_pres (ok.num hf)
    have l14' : (numsD ds).length ≤ 14 := Nat.le_trans (List.length_filterMap_le _ _) l14
    rw [e1] at dy1
    have NL : NumL H1 P1 ys (numsD ds) := ⟨eP, dy1, nq, l14'⟩
    have lY := NumAt.len dy1
    have kt : totT fn ds = pairO (totQ fn (numsD ds)) := if_neg hf
    rw [kt] at k
    refine ⟨_, rfl, rfl, _, rfl, ite2 (fun z2 => ?_) (fun z2 => ?_)⟩
    · have hs : fn = "sum" := by
        have := of_decide_eq_true z2
        injection this
      have et : totQ fn (numsD ds) = some (sumQ (numsD ds)) := by
        unfold totQ
        rw [if_neg hf, if_pos hs]
      rw [et] at k
      exact ⟨_, rfl, P1, ys, _, rfl, NL, fun p H2 s2 e2 => k _ _ (s1.trans s2) (pair_dh e2)⟩
    have hs : fn ≠ "sum" := fun e => z2 (by rw [e]; exact decide_eq_true rfl)
    refine ⟨_, rfl, P1, ys, rfl, .inl (SqL.of eP), rfl, _, rfl, ite2 (fun z3 => ?_) (fun z3 => ?_)⟩
    · have l0 : (numsD ds).length = 0 := by
        have := of_decide_eq_true z3
        injection this with this
        omega
      have et : totQ fn (numsD ds) = none := by
        unfold totQ
        rw [if_neg hf, if_neg hs, if_pos l0]
      rw [et] at k
      exact k _ _ s1 .non
    have n0 : (numsD ds).length ≠ 0 := fun e => z3 (by rw [lY, e]; exact decide_eq_true rfl)
    obtain ⟨r, hr4⟩ := totQ_some hf hs n0
    have ow : fn ∈ ofW := by
      have := ok.f
      simp only [fnS, ofW, List.mem_cons, List.not_mem_nil, or_false] at this ⊢
      rcases this with h | h | h | h | h | h
      · exact absurd h hf
      · exact absurd h hs
      · exact .inl h
      · exact .inr (.inl h)
      · exact .inr (.inr (.inl h))
      · exact .inr (.inr (.inr h))
    obtain ⟨g1, g2⟩ := hg ow
    rw [hr4] at k
    exact ⟨_, rfl, oA, fn, _, rfl, rfl, g1, g, spWk fn, rfl, if_pos ⟨rfl, ow⟩, _, rfl, P1, ys, numsD ds, r, rfl, NL, fun e => n0 (by rw [e]; rfl), hr4, fun v H2 s2 dv => k v H2 (s1.trans s2) dv⟩
end
abbrev sLt : Stmt := top 118
abbrev nLt : List Str := ["function", "values", "found"]
abbrev pLt : List Str := ["function", "values"]
theorem scLt : FnScope nLt pLt (defScope sLt) := ⟨rfl, rfl, rfl, by decide +kernel, rfl, by decide +kernel, by decide +kernel⟩
section
variable {fA_ fB_ : Addr} {fdA_ fdB_ : FuncData}
theorem ok_Lt (F : Fun K "limited_total" "limited_total" sLt f fd) (T : Bt mg)
    (GA_ : FnOk P w K mg base CX0 7 fA_ fdA_ ["function", "values"] (spTot)) (mA_ : mg "total" = some (.ref fA_)) (kA_ : PySem.W.keepIn K (.ref fA_) = true) (bA_ : Binds K fdA_ ["function", "values"] [])
    (GB_ : FnOk P w K mg base CX0 2 fB_ fdB_ ["number"] (spLim)) (mB_ : mg "limited" = some (.ref fB_)) (kB_ : PySem.W.keepIn K (.ref fB_) = true) (bB_ : Binds K fdB_ ["number"] []) : FnOk P w K mg base CX0 8 f fd pLt (spLt) := by
  refine F.ok scLt (fun vs H Q E h => ?_) (fun cdv A outer s H vs Q E hr h => ?_)
  · obtain ⟨q, zs, ds, fn, rfl, _⟩ := h
    rfl
  · obtain ⟨q, zs, ds, fn, rfl, hq, dz, ok, k⟩ := h
    have hrA_ : Room (7) _ := hr.mono (by first | decide | omega)
    have hrB_ : Room (2) _ := hr.mono (by first | decide | omega)
    refine ⟨_, (pss_cons (ps_set (i := 2) scLt.nd rfl (Or.inl rfl) (pe_call GA_ hrA_ (by rfl) mA_ kA_ bA_ .nil pass0 (pa_cons (pv 0) (pa_cons (pv 1) pa_nil))))
      (pss_one (ps_ret (pe_ifExp (pt_cmpR op_isN (pv 2) pe_non (nomark _)) pe_non (pe_call GB_ hrB_ (by rfl) mB_ kB_ bB_ .nil pass0 (pa_cons (pv 2) pa_nil)))))), ?_⟩
    refine ⟨_, rfl, _, rfl, q, zs, ds, fn, rfl, hq, dz, ok, fun v H1 s1 dv => ?_⟩
    have cases2 : (∃ p : Qn, totT fn ds = pairQ p ∧ totD fn ds = limD p.1 p.2) ∨ (totT fn ds = .none ∧ totD fn ds = .none) := by
      by_cases hf : fn = "count"
      · exact .inl ⟨(((presD ds).length : Nat), 1), if_pos hf, if_pos hf⟩
      · have e1 : totT fn ds = pairO (totQ fn (numsD ds)) := if_neg hf
        have e2 : totD fn ds = limO (totQ fn (numsD ds)) := if_neg hf
        cases q0 : totQ fn (numsD ds) with
        | none => exact .inr ⟨by rw [e1, q0]; rfl, by rw [e2, q0]; rfl⟩
        | some p => exact .inl ⟨p, by rw [e1, q0]; rfl, by rw [e2, q0]; rfl⟩
    rcases cases2 with ⟨p, e1, e2⟩ | ⟨e1, e2⟩
    · rw [e1] at dv
      rw [e2] at k
      obtain ⟨a, rfl, ea⟩ := pair_at dv
      exact ⟨_, rfl, rfl, _, rfl, iteF ⟨_, rfl, a, p.1, p.2, rfl, ea, fun u H2 s2 du => k u H2 (s1.trans s2) du⟩⟩
    · rw [e1] at dv
      rw [e2] at k
      cases dv
      exact ⟨_, rfl, rfl, _, rfl, iteT (k _ _ s1 .non)⟩
end
end
end K20
set_option Elab.async false
set_option linter.all false
set_option maxRecDepth 100000
set_option maxHeartbeats 4000000
namespace K20
open PySem PySem.Spec PyProof.Rows L2 Lc
def cutD (ds : List PyData) (lo hi : Option Int) : List PyData := (ds.drop (HT.sIx ds.length 0 lo)).take (HT.sIx ds.length ds.length hi - HT.sIx ds.length 0 lo)
theorem dh_drop {H : Hp} : ∀ {xs : List V} {ds : List PyData} (i : Nat), DhAll H xs ds → DhAll H (xs.drop i) (ds.drop i)
  | _, _, 0, h => h
  | _, _, i + 1, .nil => .nil
  | _, _, i + 1, .cons _ r => dh_drop i r
theorem dh_take {H : Hp} : ∀ {xs : List V} {ds : List PyData} (i : Nat), DhAll H xs ds → DhAll H (xs.take i) (ds.take i)
  | _, _, 0, _ => .nil
  | _, _, i + 1, .nil => .nil
  | _, _, i + 1, .cons h r => .cons h (dh_take i r)
theorem dh_cut {H : Hp} {xs : List V} {ds : List PyData} {lo hi : Option Int} (h : DhAll H xs ds) : DhAll H (cutV xs lo hi) (cutD ds lo hi) := by
  unfold cutV cutD
  rw [h.len]
  exact dh_take _ (dh_drop _ h)
theorem cutD_to {ds : List PyData} {v : Nat} (h : v ≤ ds.length) : cutD ds none (some (v : Int)) = ds.take v := by
  have e1 : HT.sIx ds.length 0 none = 0 := rfl
  have e2 : HT.sIx ds.length ds.length (some (v : Int)) = v := by
    rw [HT.sIx_nat]
    omega
  unfold cutD
  rw [e1, e2]
  simp
theorem cutD_from (ds : List PyData) (v : Nat) : cutD ds (some (v : Int)) none = ds.drop v := by
  have e1 : HT.sIx ds.length ds.length none = ds.length := rfl
  have e2 : HT.sIx ds.length 0 (some (v : Int)) = min v ds.length := HT.sIx_nat _ _ _
  unfold cutD
  rw [e1, e2]
  rcases Nat.le_total v ds.length with q | q
  · rw [Nat.min_eq_left q]
    exact List.take_of_length_le (by rw [List.length_drop]; omega)
  · rw [Nat.min_eq_right q, List.drop_length, List.drop_eq_nil_of_le q]
    simp
theorem slH {K : PySem.W.Frag} {H : Hp} {Q : VK} {v : V} {ds : List PyData} {lo hi : Option Int} (h : Dh H v (.tuple ds)) (k : ∀ r H', Dh H' r (.tuple (cutD ds lo hi)) → Same H H' → Q r H') : rSlA K v lo hi H Q := by
  cases h with
  | @tup a xs _ e hs =>
  refine ⟨a, xs, rfl, SqT.of e, fun z => ?_, fun _ p hp => ?_⟩
  · refine k _ _ ?_ (Same.refl H)
    have : cutD ds lo hi = ds := by
      rw [hs.len] at z
      unfold cutD
      rw [z.1, z.2]
      simp
    rw [this]
    exact .tup e hs
  · have zp := Same.upd (o := .tup (cutV xs lo hi)) hp
    exact k _ _ (.tup upd_same ((dh_cut hs).same zp)) zp
theorem catH {K : PySem.W.Frag} {H : Hp} {Q : VK} {v u : V} {ds es : List PyData} (h : Dh H v (.tuple ds)) (g : Dh H u (.tuple es)) (l : ds.length + es.length ≤ 1000) (k : ∀ r H', Dh H' r (.tuple (ds ++ es)) → Same H H' → Q r H') : rCatA K v u H Q := by
  have h0 := h
  have g0 := g
  cases h with
  | @tup a xs _ e hs =>
  cases g with
  | @tup b ys _ e' gs =>
  refine ⟨a, b, xs, ys, rfl, rfl, SqT.of e, SqT.of e', by rw [hs.len, gs.len]; exact Nat.le_trans l (by decide), fun z => ?_, fun _ z => ?_, fun _ _ p hp => ?_⟩
  · subst z
    cases hs
    exact k _ _ g0 (Same.refl H)
  · subst z
    cases gs
    rw [List.append_nil] at k
    exact k _ _ h0 (Same.refl H)
  · have zp := Same.upd (o := .tup (xs ++ ys)) hp
    exact k _ _ (.tup upd_same ((hs.append gs).same zp)) zp
def spPoL : Sp := fun vs H Q _ => ∃ (L p : Addr) (ps : CsL) (ns : List Str), vs = [.ref L, .ref p] ∧ CA H L ps ∧ ColP ps ∧ H p = some (.lst (vS ns)) ∧ (∀ n ∈ ns, n ∈ nms ps) ∧ ns.length ≤ 8 ∧ ∀ (D : Addr) (H' : Hp), Same H H' → H' D = some (.lst (jsV (ns.map fun n => (nms ps).idxOf n))) → Q (.ref D) H'
/-! ## rows behind a step -/
def atD (js : List Nat) (r : RowD) : List PyData := js.map fun j => r.vals.getD j .none
abbrev TbL : Type := List (Str × CsL × RowsL)
def rowsOf (tbs : TbL) (t : Str) : List RowD := ((tbs.find? fun x => decide (x.1 = t)).map fun x => x.2.2.map (·.2)).getD []
def osOf (tbs : TbL) : OsL := tbs.map fun t => (t.1, t.2.1)
def outG (ps : CsL) (ts : List (Str × Str × Str)) (g : List PyData × List RowD) : RowD := ⟨g.1 ++ ts.map (fun t => totD t.2.1 (g.2.map fun r => r.vals.getD ((nms ps).idxOf t.2.2) .none)), unL (g.2.map (·.lin))⟩
def stepB (tbs : TbL) (ps : CsL) : Ps → List RowD → List RowD
  | .group ks ts, ds => (grpR (atD (ks.map fun n => (nms ps).idxOf n)) ds).map (outG ps ts)
def Ps.Pl (tbs : TbL) (ds : List RowD) : Ps → Prop
  | .group _ _ => ds.length ≤ 14
theorem limD_noL (n d : Int) : noL (limD n d) = true := by
  unfold limD
  split <;> rfl
theorem totD_noL (fn : Str) (ds : List PyData) : noL (totD fn ds) = true := by
  unfold totD
  split
  · exact limD_noL _ _
  · cases totQ fn (numsD ds) with
    | none => rfl
    | some q => exact limD_noL _ _
/-- the values of a column of some rows -/
theorem tot_ok {ps : CsL} (cp : ColP ps) {t : Str × Str × Str} (hf : t.2.1 ∈ fnS) (hc : t.2.2 ∈ nms ps) (hn : t.2.1 ≠ "count" → kdOf ps t.2.2 = "number") {ds : List RowD} (w : RowW ps ds) (l : ds.length ≤ 14) : TotOk t.2.1 (ds.map fun r => r.vals.getD ((nms ps).idxOf t.2.2) .none) := by
  refine ⟨hf, fun h d hd => ?_, by rw [List.length_map]; exact l⟩
  obtain ⟨r, hr, rfl⟩ := List.mem_map.mp hd
  have ei := idx_at hc
  rw [List.getElem?_map] at ei
  obtain ⟨p, ep, e3⟩ := Option.map_eq_some_iff.mp ei
  obtain ⟨d, ed, vd⟩ := vks_get (w r hr).1 (i := (nms ps).idxOf t.2.2) (k := p.2) (by rw [List.getElem?_map, ep]; rfl)
  rw [List.getD_eq_getElem?_getD, ed]
  have : p.2 = "number" := by rw [← kdOf_mem cp.nd (List.mem_of_getElem? ep), e3]; exact hn h
  rw [← this]
  exact vd
inductive TbsAt (C : Addr) (H : Hp) : List (Key × V) → TbL → Prop
  | nil : TbsAt C H [] []
  | cons {n : Str} {cs : CsL} {a cv : Addr} {rs : RowsL} {kvs : List (Key × V)} {tbs : TbL} (it : IsTb C H a cv rs) (ca : CA H cv cs) (cp : ColP cs) (rw_ : RowW cs (rs.map (·.2))) (ln : rs.length ≤ 1000) (r : TbsAt C H kvs tbs) : TbsAt C H ((Sum.inr n, .ref a) :: kvs) ((n, cs, rs) :: tbs)
theorem TbsAt.same {C : Addr} {H H' : Hp} (s : Same H H') : ∀ {kvs : List (Key × V)} {tbs : TbL}, TbsAt C H kvs tbs → TbsAt C H' kvs tbs
  | _, _, .nil => .nil
  | _, _, .cons it ca cp rw_ ln r => .cons (it.same s) (ca.same s) cp rw_ ln (TbsAt.same s r)
theorem TbsAt.b {C t : Addr} {H H' : Hp} (T : Tape H t) (s : SameB t H H') : ∀ {kvs : List (Key × V)} {tbs : TbL}, TbsAt C H kvs tbs → TbsAt C H' kvs tbs
  | _, _, .nil => .nil
  | _, _, .cons it ca cp rw_ ln r => .cons (it.b T s rw_.ok) (ca.b T s) cp rw_ ln (TbsAt.b T s r)
theorem CA.upd {H : Hp} {L b : Addr} {ps : CsL} {u o : HO} (h : CA H L ps) (hb : H b = some u) (nu : ∀ xs, u ≠ .tup xs) (nf : ∀ o xs, u ≠ .frz o (.tup xs)) : CA (L2.upd H b o) L ps := by
  obtain ⟨xs, ⟨ob, c, d, e⟩, cc⟩ := h
  exact ⟨xs, ⟨ob, c, d, by rw [upd_ne (ne_of e hb fun z => nf _ _ z.symm)]; exact e⟩, cc.t fun x xs e => by rw [upd_ne (ne_of e hb fun z => nu _ z.symm)]; exact e⟩
theorem TbsAt.upd {C : Addr} {H : Hp} {b : Addr} {u o : HO} (hb : H b = some u) (nu : (∀ xs, u ≠ .tup xs) ∧ ∀ c d f, u ≠ .ins c d f) (nf : ∀ o xs, u ≠ .frz o (.tup xs)) : ∀ {kvs : List (Key × V)} {tbs : TbL}, TbsAt C H kvs tbs → TbsAt C (L2.upd H b o) kvs tbs
  | _, _, .nil => .nil
  | _, _, .cons it ca cp rw_ ln r => .cons (it.upd hb nu rw_.ok) (ca.upd hb nu.1 nf) cp rw_ ln (TbsAt.upd hb nu nf r)
theorem TbsAt.at {C : Addr} {H : Hp} {x : Str} {cs : CsL} {rs : RowsL} : ∀ {kvs : List (Key × V)} {tbs : TbL}, TbsAt C H kvs tbs → (tbs.map (·.1)).Nodup → (x, cs, rs) ∈ tbs → ∃ a cv, valV kvs (Sum.inr x : Key) = some (.ref a) ∧ IsTb C H a cv rs ∧ CA H cv cs ∧ ColP cs ∧ RowW cs (rs.map (·.2)) ∧ rs.length ≤ 1000
  | _, _, .nil, _, h => by cases h
  | _, _, .cons (n := n) (a := a) (cv := cv) it ca cp rw_ ln r, nd, h => by
    rw [List.map_cons, List.nodup_cons] at nd
    rcases List.mem_cons.mp h with h | h
    · injection h with h1 h2
      injection h2 with h2 h3
      subst h1
      subst h2
      subst h3
      exact ⟨a, cv, valV_pos rfl, it, ca, cp, rw_, ln⟩
    · have ne : n ≠ x := fun e => nd.1 (by rw [e]; exact List.mem_map_of_mem (f := (·.1)) h)
      obtain ⟨a', cv', h1, h2⟩ := TbsAt.at r nd.2 h
      exact ⟨a', cv', by rw [valV_neg (fun w => ne (by injection w))]; exact h1, h2⟩
structure WtP (tbs : TbL) : Prop where
  ok : ∀ o ∈ tbs, nmS o.1 ∧ Sh 12 o.1 ∧ ColP o.2.1
  nd : (tbs.map (·.1)).Nodup
  l : tbs.length ≤ 10
theorem WtP.os {tbs : TbL} (h : WtP tbs) : WdP (osOf tbs) where
  ok := fun o ho => by
    obtain ⟨t, ht, rfl⟩ := List.mem_map.mp ho
    exact h.ok t ht
  nd := by
    unfold osOf
    rw [List.map_map]
    exact h.nd
  l := by unfold osOf; rw [List.length_map]; exact h.l
theorem os_mem {tbs : TbL} {t : Str} {ps : CsL} (h : (t, ps) ∈ osOf tbs) : ∃ rs, (t, ps, rs) ∈ tbs := by
  obtain ⟨x, hx, e⟩ := List.mem_map.mp h
  obtain ⟨a, b, c⟩ := x
  cases e
  exact ⟨c, hx⟩
theorem rowsOf_at {tbs : TbL} (nd : (tbs.map (·.1)).Nodup) {t : Str} {ps : CsL} {rs : RowsL} (h : (t, ps, rs) ∈ tbs) : rowsOf tbs t = rs.map (·.2) := by
  unfold rowsOf
  induction tbs with
  | nil => cases h
  | cons x r ih =>
    rw [List.map_cons, List.nodup_cons] at nd
    rw [List.find?_cons]
    rcases List.mem_cons.mp h with h | h
    · subst h
      rw [decide_eq_true rfl]
      rfl
    · have : ¬ x.1 = t := fun e => nd.1 (by rw [e]; exact List.mem_map_of_mem (f := (·.1)) h)
      rw [decide_eq_false this]
      exact ih nd.2 h
def spRb (C : Addr) (wd : Str) : Sp := fun vs H Q _ => ∃ (D0 a cv p : Addr) (kvs : List (Key × V)) (tbs : TbL) (ps qs : CsL) (st : Ps) (rs : RowsL), vs = [.ref D0, .ref a, .ref p] ∧ H D0 = some (.dK kvs) ∧ TbsAt C H kvs tbs ∧ WtP tbs ∧ IsTb C H a cv rs ∧ CA H cv ps ∧ ColP ps ∧ RowW ps (rs.map (·.2)) ∧ rs.length ≤ 1000 ∧ Dh H (.ref p) st.d ∧ Lead (osOf tbs) ps st qs ∧ st.w = wd ∧ st.Pl tbs (rs.map (·.2)) ∧
  ∀ (l : Addr) (H' : Hp) (rs' : RowsL), Same H H' → H' l = some (.lst (rs'.map (·.1))) → RowsAt H' rs' → rs'.map (·.2) = stepB tbs ps st (rs.map (·.2)) → Q (.ref l) H'
theorem le_sum : ∀ {l : List Nat} {n : Nat}, n ∈ l → n ≤ l.sum
  | [], _, h => by cases h
  | x :: l, n, h => by
    rw [List.sum_cons]
    rcases List.mem_cons.mp h with rfl | h
    · omega
    · have := le_sum h
      omega
theorem rgV_js (n : Nat) : rgV 0 (n : Int) = jsV (List.range n) := by
  unfold rgV jsV
  rw [show ((n : Int) - 0).toNat = n by omega]
  refine List.map_congr_left fun i _ => ?_
  rw [Int.zero_add]
/-- lineages of rows in a list -/
theorem lins_turn {H H1 : Hp} {D la : Addr} {ys : List V} {ls : List Lin} {l : Lin} (hD : H D = none) (e : H1 D = some (.lst ys)) (h : LinsAt H1 ys ls) (ll : ys.length ≤ 1000) (d : Dh H1 (.ref la) (linD l)) (s : Same H H1) : ∃ acc, H1 D = some (.lst acc) ∧ acc.length < sizeLine ∧ ((∃ ys, L2.upd H1 D (.lst (acc ++ [.ref la])) D = some (.lst ys) ∧ LinsAt (L2.upd H1 D (.lst (acc ++ [.ref la]))) ys (ls ++ [l])) ∧ Same H (L2.upd H1 D (.lst (acc ++ [.ref la])))) :=
  ⟨ys, e, lt_size ll, ⟨_, upd_same, (h.t (SameT.lst e)).snoc (d.t (SameT.lst e) (lin_noL l))⟩, fun b o q => by rw [upd_ne (ne_of_none q hD)]; exact s b o q⟩
/-- a row put at the end -/
theorem row_turn {H H1 : Hp} {D t : Addr} {rs : RowsL} {r : RowD} (hD : H D = none) (e : H1 D = some (.lst (rs.map (·.1)))) (ra : RowsAt H1 rs) (ok : RowsOk rs) (ll : rs.length ≤ 1000) (d : Dh H1 (.ref t) r.d) (n : noLs r.vals = true) (lo : LinOk r.lin) (s : Same H H1) : ∃ acc, H1 D = some (.lst acc) ∧ acc.length < sizeLine ∧ (L2.upd H1 D (.lst (acc ++ [.ref t])) D = some (.lst ((rs ++ [((.ref t : V), r)]).map (·.1))) ∧ RowsAt (L2.upd H1 D (.lst (acc ++ [.ref t]))) (rs ++ [((.ref t : V), r)]) ∧ RowsOk (rs ++ [((.ref t : V), r)]) ∧ Same H (L2.upd H1 D (.lst (acc ++ [.ref t])))) :=
  ⟨_, e, lt_size (by rw [List.length_map]; exact ll), by rw [upd_same, List.map_append]; rfl, fun q hq => by
    rcases List.mem_append.mp hq with hq | hq
    · exact (ra q hq).t (SameT.lst e) (row_noL (ok q hq).1)
    · rw [List.mem_singleton.mp hq]
      exact d.t (SameT.lst e) (row_noL n), fun q hq => by
    rcases List.mem_append.mp hq with hq | hq
    · exact ok q hq
    · rw [List.mem_singleton.mp hq]
      exact ⟨n, lo⟩, fun b o q => by rw [upd_ne (ne_of_none q hD)]; exact s b o q⟩
abbrev teLi (K : PySem.W.Frag) (i j k : Nat) : TE := tLc (iList K (tVar i)) (gTup K 2 (gCons (gName j) (gCons (gName k) gNil))) tYes (tVar k) [j, k]
abbrev teW4 (K : PySem.W.Frag) : TE := tOp (rIxT K) (tVar 17) (tVar 16)
abbrev teW3 (K : PySem.W.Frag) : TE := tCall spLt [] E0 (tCons (tVar 9) (tCons (tLc (iList K (tVar 14)) (gTup K 2 (gCons (gName 17) (gCons (gName 18) gNil))) tYes (teW4 K) [17, 18]) tNil))
/-- the lineages of a group -/
theorem lins_of {K : PySem.W.Frag} {H : Hp} {la : Addr} {mem : RowsL} {i j k : Nat} {σ : L2.St} {Q : VK} (hi : σ[i]? = some (some (.ref la))) (g1 : ∀ (T x y : V) (H1 : Hp) (R : L2.St → Hp → Prop), (∃ ra, T = .ref ra ∧ H1 ra = some (.tup [x, y])) → (∀ σ2 : L2.St, wipe σ2 [j, k] = wipe σ [j, k] → σ2[k]? = some (some y) → R σ2 H1) → gTup K 2 (gCons (gName j) (gCons (gName k) gNil)) T (wipe σ [j, k]) H1 R) (el : H la = some (.lst (mem.map (·.1)))) (ra : RowsAt H mem) (ln : mem.length ≤ 1000)
    (q : ∀ D ys H', Same H H' → H' D = some (.lst ys) → LinsAt H' ys (mem.map fun r => r.2.lin) → Q (.ref D) H') : teLi K i j k σ H Q := by
  refine ⟨_, hi, la, rfl, ⟨_, SqL.of el⟩, fun D hD => lc_list (K := K) (a := la) (xs := mem.map (·.1)) (fun m H' => (∃ ys, H' D = some (.lst ys) ∧ LinsAt H' ys ((mem.take m).map fun r => r.2.lin)) ∧ Same H H') ⟨⟨[], upd_same, .nil⟩, Same.upd hD⟩ (fun m H' _ pr => SqL.of (pr.2 _ _ el)) ?_ ?_⟩
  · rintro m x H1 hx ⟨⟨ys, eD, ly⟩, s1⟩
    rw [List.getElem?_map] at hx
    obtain ⟨r, er, rfl⟩ := Option.map_eq_some_iff.mp hx
    obtain ⟨rr, va, lb, ev, e2, _, dl⟩ := row_at ((ra r (List.mem_of_getElem? er)).same s1)
    have li := (List.getElem?_eq_some_iff.mp er).1
    have lly := ly.len
    rw [List.length_map, List.length_take] at lly
    refine g1 _ _ _ _ _ ⟨rr, ev, e2⟩ fun σ2 w2 k2 => ⟨w2, ?_⟩
    dsimp only [tYes]
    refine iteT ⟨_, k2, ?_⟩
    rw [List.take_add_one, er, List.map_append]
    exact lins_turn hD eD ly (by omega) dl s1
  rintro H1 ⟨⟨ys, eD, ly⟩, s1⟩
  rw [List.length_map, List.take_length] at ly
  exact q D ys H1 s1 eD ly
theorem lins_un {K : PySem.W.Frag} {H : Hp} {la : Addr} {mem : RowsL} {i j k : Nat} {σ : L2.St} {Q : List V → Hp → Prop} (hi : σ[i]? = some (some (.ref la))) (g1 : ∀ (T x y : V) (H1 : Hp) (R : L2.St → Hp → Prop), (∃ ra, T = .ref ra ∧ H1 ra = some (.tup [x, y])) → (∀ σ2 : L2.St, wipe σ2 [j, k] = wipe σ [j, k] → σ2[k]? = some (some y) → R σ2 H1) → gTup K 2 (gCons (gName j) (gCons (gName k) gNil)) T (wipe σ [j, k]) H1 R) (el : H la = some (.lst (mem.map (·.1)))) (ra : RowsAt H mem) (ok : ∀ l ∈ mem.map (fun r => r.2.lin), LinOk l) (ln : mem.length ≤ 1000)
    (q : ∀ v H', Same H H' → Dh H' v (linD (unL (mem.map fun r => r.2.lin))) → Q [v] H') : tCons (tCall spUn [] E0 (tCons (teLi K i j k) tNil)) tNil σ H Q := by
  have h : teLi K i j k σ H (fun x H1 => spUn [x] H1 (fun y H2 => Q [y] H2) E0) := lins_of hi g1 el ra ln fun D ys H' s e ly => ⟨D, ys, _, rfl, e, ly, ok, fun v H2 s2 dv => q v H2 (s.trans s2) dv⟩
  exact h
section
variable {P : Program} {w : World} {K : PySem.W.Frag} {mg : Str → Option Value} {base : Heap} {f : Addr} {fd : FuncData}
abbrev sPl : Stmt := top 104
abbrev nPl : List Str := ["columns", "names", "called", "name"]
abbrev pPl : List Str := ["columns", "names"]
theorem scPl : FnScope nPl pPl (defScope sPl) := ⟨rfl, rfl, rfl, by decide +kernel, rfl, by decide +kernel, by decide +kernel⟩
section
variable {fA_ : Addr} {fdA_ : FuncData}
theorem ok_Pl (F : Fun K "places_of" "places_of" sPl f fd) (T : Bt mg)
    (GA_ : FnOk P w K mg base CX0 1 fA_ fdA_ ["columns"] (spNo)) (mA_ : mg "names_of" = some (.ref fA_)) (kA_ : PySem.W.keepIn K (.ref fA_) = true) (bA_ : Binds K fdA_ ["columns"] []) : FnOk P w K mg base CX0 2 f fd pPl (spPoL) := by
  refine F.ok scPl (fun vs H Q E h => ?_) (fun cdv A outer s H vs Q E hr h => ?_)
  · obtain ⟨L, p, ps, ns, rfl, _⟩ := h
    rfl
  · obtain ⟨L, p, ps, ns, rfl, hL, cp, hp, hn, l8, k⟩ := h
    have hrA_ : Room (1) _ := hr.mono (by first | decide | omega)
    refine ⟨_, (pss_cons (ps_set (i := 2) scPl.nd rfl (Or.inr rfl) (pe_call GA_ hrA_ (by rfl) mA_ kA_ bA_ .nil pass0 (pa_cons (pv 0) pa_nil)))
      (pss_one (ps_ret (pe_lc (own := [("name", 3)]) (g := (gName 3)) (tt := tYes) (te := tePo K) (by rfl) scPl.nd (pi_list (pv 1)) (blkOk_by (own := [("name", 3)]) (N := nPl) (sc := defScope sPl) (by decide +kernel)) (fun _ _ _ _ _ => (pg_name (i := 3) scPl.nd rfl (.inl rfl))) (fun _ _ _ _ _ => pts_nil) (fun _ _ _ _ _ => (pe_bm PySem.F.plainAttrs_list PySem.F.slot_list_index PySem.F.type_list_index mt_index (pv 2) (pa_cons (pv 3) pa_nil))))))), ?_⟩
    refine ⟨_, rfl, L, ps, rfl, hL, cp.l8, fun W H1 s1 _ eW => ?_⟩
    have fl : (vS (nms ps)).all flatV = true := List.all_eq_true.mpr fun v hv => by
      obtain ⟨x, _, rfl⟩ := List.mem_map.mp hv
      rfl
    refine ⟨_, rfl, p, rfl, ⟨_, SqL.of (s1 _ _ hp)⟩, fun D hD => lc_list (K := K) (a := p) (xs := vS ns) (fun i H' => H' D = some (.lst (jsV ((ns.take i).map fun n => (nms ps).idxOf n))) ∧ Same H1 H') ⟨upd_same, Same.upd hD⟩ (fun i H' _ pr => SqL.of (pr.2 _ _ (s1 _ _ hp))) ?_ ?_⟩
    · rintro i y H2 hy ⟨eD, s2⟩
      rw [List.getElem?_map] at hy
      obtain ⟨g, eg, rfl⟩ := Option.map_eq_some_iff.mp hy
      have gm := hn g (List.mem_of_getElem? eg)
      have eW2 := s2 _ _ eW
      refine ⟨rfl, ?_⟩
      dsimp only [tYes]
      refine iteT ?_
      change tePo K _ _ _
      refine ⟨_, rfl, .inl ⟨rfl, _, SqL.of eW2⟩, _, rfl, W, vS (nms ps), .str g, (nms ps).idxOf g, .str g, rfl, rfl, SqL.of eW2, rfl, fl, by rw [List.getElem?_map, idx_at gm]; rfl, by simp [eqV], fun m z' lt ez => ?_, _, eD, ?_, ?_, fun b o e => by rw [upd_ne (ne_of_none e hD)]; exact s2 b o e⟩
      · rw [List.getElem?_map] at ez
        obtain ⟨z, ez2, rfl⟩ := Option.map_eq_some_iff.mp ez
        have := idx_no lt ez2
        simp [eqV, this]
      · unfold jsV
        rw [List.length_map, List.length_map, List.length_take]
        exact lt_size (by omega)
      · rw [upd_same, List.take_add_one, eg]
        unfold jsV
        rw [List.map_append, List.map_append]
        rfl
    rintro H2 ⟨eD, s2⟩
    rw [List.length_map, List.take_length] at eD
    exact k D H2 (s1.trans s2) eD
end
abbrev sGw : Stmt := top 119
abbrev nGw : List Str := ["tables", "table", "step", "word", "names", "totals", "columns", "functions", "name", "function", "column", "places", "rows", "key", "members", "found", "at", "values", "lineage"]
abbrev pGw : List Str := ["tables", "table", "step"]
theorem scGw : FnScope nGw pGw (defScope sGw) := ⟨rfl, rfl, rfl, by decide +kernel, rfl, by decide +kernel, by decide +kernel⟩
def scGwIn : Scope := match bodyOf sGw with
  | _ :: _ :: _ :: _ :: _ :: .For _ _ (.Assign _ (.ListComp _ _ sc _) _ :: _) _ _ :: _ => sc
  | _ => defScope sGw
section
variable {fA_ fB_ fC_ fD_ : Addr} {fdA_ fdB_ fdC_ fdD_ : FuncData}
theorem ok_Gw (F : Fun K "group_rows" "group_rows" sGw f fd) (T : Bt mg) {C : Addr} (M : TbM P w K mg base C) (mZ : mg "zip" = none) (GL_ : FnOk P w K mg base CX0 2 fB_ fdB_ ["columns", "names"] (spPoL))
    (GA_ : FnOk P w K mg base CX0 8 fA_ fdA_ ["function", "values"] (spLt)) (mA_ : mg "limited_total" = some (.ref fA_)) (kA_ : PySem.W.keepIn K (.ref fA_) = true) (bA_ : Binds K fdA_ ["function", "values"] [])
    (GB_ : FnOk P w K mg base CX0 2 fB_ fdB_ ["columns", "names"] (spPo)) (mB_ : mg "places_of" = some (.ref fB_)) (kB_ : PySem.W.keepIn K (.ref fB_) = true) (bB_ : Binds K fdB_ ["columns", "names"] [])
    (GC_ : FnOk P w K mg base CX0 2 fC_ fdC_ ["rows", "places"] ((spGr P w))) (mC_ : mg "grouped" = some (.ref fC_)) (kC_ : PySem.W.keepIn K (.ref fC_) = true) (bC_ : Binds K fdC_ ["rows", "places"] [])
    (GD_ : FnOk P w K mg base CX0 1 fD_ fdD_ ["lineages"] (spUn)) (mD_ : mg "union_of" = some (.ref fD_)) (kD_ : PySem.W.keepIn K (.ref fD_) = true) (bD_ : Binds K fdD_ ["lineages"] []) : FnOk P w K mg base CX0 9 f fd pGw ((spRb C "group")) := by
  refine F.ok scGw (fun vs H Q E h => ?_) (fun cdv A outer s H vs Q E hr h => ?_)
  · obtain ⟨D0, a, cv, p, kvs, tbs, ps, qs, st, rs, rfl, _⟩ := h
    rfl
  · obtain ⟨D0, a, cv, p, kvs, tbs, ps, qs, st, rs, rfl, hD0, hT, wT, hI, hL, cp, rw_, ln, hd, ld, hw, pl, k⟩ := h
    have hrA_ : Room (8) _ := hr.mono (by first | decide | omega)
    have hrB_ : Room (2) _ := hr.mono (by first | decide | omega)
    have hrC_ : Room (2) _ := hr.mono (by first | decide | omega)
    have hrD_ : Room (1) _ := hr.mono (by first | decide | omega)
    obtain ⟨fI, fdI, GI, FI, bI⟩ := M.i
    obtain ⟨fC, fdC, hC, FC, bC⟩ := M.c
    obtain ⟨fR, fdR, hR, FR, bR⟩ := M.r
    have hr1 : Room 1 _ := hr.mono (by omega)
    refine ⟨_, (pss_cons (ps_asg (pv 2) (pg_tup rfl (pgs_cons (pg_name (i := 3) scGw.nd rfl (.inl rfl)) (pgs_cons (pg_name (i := 4) scGw.nd rfl (.inl rfl)) (pgs_cons (pg_name (i := 5) scGw.nd rfl (.inl rfl)) pgs_nil)))))
      (pss_cons (ps_set (i := 6) scGw.nd rfl (Or.inl rfl) (pe_meth0 (pv 1) GI.cls hC FC hr1 bC .nil pass0))
      (Evl.pss_cut (ps_setLc (i := 7) (own := [("name", 8), ("function", 9), ("column", 10)]) (g := (gTup K 3 (gCons (gName 8) (gCons (gName 9) (gCons (gName 10) gNil))))) (tt := tYes) (te := tVar 9) (by rfl) scGw.nd rfl rfl (sw_true rfl rfl rfl (by decide +kernel)) (pi_tup (pv 5)) (blkOk_by (own := [("name", 8), ("function", 9), ("column", 10)]) (N := nGw) (sc := defScope sGw) (by decide +kernel)) (fun _ _ _ _ _ => (pg_tup rfl (pgs_cons (pg_name (i := 8) scGw.nd rfl (.inl rfl)) (pgs_cons (pg_name (i := 9) scGw.nd rfl (.inl rfl)) (pgs_cons (pg_name (i := 10) scGw.nd rfl (.inl rfl)) pgs_nil))))) (fun _ _ _ _ _ => pts_nil) (fun _ _ _ _ _ => (pv 9)))
      (Evl.pss_cut (ps_set (i := 11) scGw.nd rfl (Or.inl rfl) (pe_call GL_ hrB_ (by rfl) mB_ kB_ bB_ .nil pass0 (pa_cons (pv 6) (pa_cons (pe_lc (own := [("name", 8), ("function", 9), ("column", 10)]) (g := (gTup K 3 (gCons (gName 8) (gCons (gName 9) (gCons (gName 10) gNil))))) (tt := tYes) (te := tVar 10) (by rfl) scGw.nd (pi_tup (pv 5)) (blkOk_by (own := [("name", 8), ("function", 9), ("column", 10)]) (N := nGw) (sc := defScope sGw) (by decide +kernel)) (fun _ _ _ _ _ => (pg_tup rfl (pgs_cons (pg_name (i := 8) scGw.nd rfl (.inl rfl)) (pgs_cons (pg_name (i := 9) scGw.nd rfl (.inl rfl)) (pgs_cons (pg_name (i := 10) scGw.nd rfl (.inl rfl)) pgs_nil))))) (fun _ _ _ _ _ => pts_nil) (fun _ _ _ _ _ => (pv 10))) pa_nil))))
      (pss_cons (ps_set (i := 12) scGw.nd rfl (Or.inl rfl) (pe_lst pa_nil))
      (pss_cons (ps_for PassesOwn.never rfl (pi_itemsN (pe_call GC_ hrC_ (by rfl) mC_ kC_ bC_ .nil pass0 (pa_cons (pe_meth0 (pv 1) GI.cls hR FR hr1 bR .nil pass0) (pa_cons (pe_call GB_ hrB_ (by rfl) mB_ kB_ bB_ .nil pass0 (pa_cons (pv 6) (pa_cons (pv 4) pa_nil))) pa_nil)))) (pg_tup rfl (pgs_cons (pg_name (i := 13) scGw.nd rfl (.inl rfl)) (pgs_cons (pg_name (i := 14) scGw.nd rfl (.inr rfl)) pgs_nil))) (pss_cons (ps_setLc (i := 15) (own := [("function", 9), ("at", 16)]) (g := (gTup K 2 (gCons (gName 9) (gCons (gName 16) gNil)))) (tt := tYes) (te := teW3 K) (by rfl) scGw.nd rfl rfl (sw_true rfl rfl rfl (by decide +kernel)) (RZ.pi_zipA (by rfl) mZ (pa_cons (pv 7) (pa_cons (pv 11) pa_nil))) (blkOk_by (own := [("function", 9), ("at", 16)]) (N := nGw) (sc := defScope sGw) (by decide +kernel)) (fun _ _ _ _ _ => (pg_tup rfl (pgs_cons (pg_name (i := 9) scGw.nd rfl (.inl rfl)) (pgs_cons (pg_name (i := 16) scGw.nd rfl (.inr rfl)) pgs_nil)))) (fun _ _ _ _ _ => pts_nil) (fun _ _ _ _ _ => (pe_call GA_ hrA_ (by rfl) mA_ kA_ bA_ .nil pass0 (pa_cons (pv 9) (pa_cons (pe_lc (own := [("values", 17), ("lineage", 18)]) (g := (gTup K 2 (gCons (gName 17) (gCons (gName 18) gNil)))) (tt := tYes) (te := teW4 K) (by rfl) scGw.nd (pi_list (pv 14)) (blkOk_rel (blkOk_by (own := [("values", 17), ("lineage", 18)]) (N := nGw) (sc := scGwIn) (by decide +kernel))) (fun _ _ _ _ _ => (pg_tup rfl (pgs_cons (pg_name (i := 17) scGw.nd rfl (.inl rfl)) (pgs_cons (pg_name (i := 18) scGw.nd rfl (.inl rfl)) pgs_nil)))) (fun _ _ _ _ _ => pts_nil) (fun _ _ _ _ _ => (pe_ix ix_tup (pv 17) (pv 16) (fun _ _ => rfl)))) pa_nil)))))
      (pss_one (ps_expr (pe_bm PySem.F.plainAttrs_list PySem.F.slot_list_append PySem.F.type_list_append mt_append (pv 12) (pa_cons (pe_tup (pa_cons (pe_op op_catA (pv 13) (pe_callTy call_tuple_of (by rfl) T.tuple boot_tuple (pa_cons (pv 15) pa_nil))) (pa_cons (pe_call GD_ hrD_ (by rfl) mD_ kD_ bD_ .nil pass0 (pa_cons (pe_lc (own := [("values", 17), ("lineage", 18)]) (g := (gTup K 2 (gCons (gName 17) (gCons (gName 18) gNil)))) (tt := tYes) (te := tVar 18) (by rfl) scGw.nd (pi_list (pv 14)) (blkOk_by (own := [("values", 17), ("lineage", 18)]) (N := nGw) (sc := defScope sGw) (by decide +kernel)) (fun _ _ _ _ _ => (pg_tup rfl (pgs_cons (pg_name (i := 17) scGw.nd rfl (.inl rfl)) (pgs_cons (pg_name (i := 18) scGw.nd rfl (.inl rfl)) pgs_nil)))) (fun _ _ _ _ _ => pts_nil) (fun _ _ _ _ _ => (pv 18))) pa_nil)) pa_nil))) pa_nil))))))
      (pss_one (ps_ret (pv 12))))))))), ?_⟩
    have two : 2 ≤ sizeLine := by decide
    cases st with
    | group ks ts =>
    cases ld with
    | group hk g ht =>
    obtain ⟨v, u, e1, dv, du⟩ := dh3g hd
    obtain ⟨b, rfl, eb⟩ := dh_strs dv
    cases du with
    | @tup tq us _ eu hu =>
    have lu : us.length = ts.length := by rw [hu.len, List.length_map]
    obtain ⟨t1, t6⟩ := g.tl
    have kl := g.kl
    have ok := rw_.ok
    have pl : (rs.map (·.2)).length ≤ 14 := pl
    rw [List.length_map] at pl
    obtain ⟨dx, bv, h1, h2, h3⟩ := id hI
    have ra0 : RowsAt H rs := h3
    let M : Addr → V → V → V → V → V → L2.St → Prop := fun F x11 x12 x13 x14 x15 σ => ∃ x8 x9 x10 x16 x17 x18 : Option V, σ = [some (.ref D0), some (.ref a), some (.ref p), some (.str "group"), some (.ref b), some (.ref tq), some (.ref cv), some (.ref F), x8, x9, x10, some x11, some x12, some x13, some x14, some x15, x16, x17, x18]
    refine ⟨_, rfl, p, _, rfl, SqT.of e1, rfl, _, _, rfl, _, _, rfl, _, _, rfl, rfl, ?_⟩
    dsimp only [gNil]
    refine ⟨_, rfl, a, dx, _, rfl, h1, rfl, a, cv, rs, rfl, hI, ?_⟩
    -- the functions
    refine ⟨fun σ H' => ∃ F : Addr, σ = [some (.ref D0), some (.ref a), some (.ref p), some (.str "group"), some (.ref b), some (.ref tq), some (.ref cv), some (.ref F), none, none, none, none, none, none, none, none, none, none, none] ∧ H' F = some (.lst (vS (ts.map (·.2.1)))) ∧ Same H H', ?_, ?_⟩
    · refine ⟨_, rfl, tq, rfl, ⟨_, SqT.of eu⟩, fun F hF => lc_tup (K := K) (a := tq) (xs := us) (fun i H' => H' F = some (.lst (vS ((ts.take i).map (·.2.1)))) ∧ Same H H') ⟨upd_same, Same.upd hF⟩ (fun i H' _ pr => SqT.of (pr.2 _ _ eu)) ?_ ?_⟩
      · rintro i x H1 hx ⟨eF, s1⟩
        obtain ⟨d, ed, dd⟩ := hu.get i x hx
        rw [List.getElem?_map] at ed
        obtain ⟨t, et, rfl⟩ := Option.map_eq_some_iff.mp ed
        obtain ⟨q, rfl, eq⟩ := totS3_dh dd
        refine ⟨q, _, rfl, SqT.of (s1 _ _ eq), rfl, _, _, rfl, _, _, rfl, _, _, rfl, rfl, rfl, ?_⟩
        dsimp only [tYes]
        refine iteT ⟨_, rfl, _, eF, lt_size (by rw [List.length_map, List.length_map, List.length_take]; omega), ?_, fun b' o e => by rw [upd_ne (ne_of_none e hF)]; exact s1 b' o e⟩
        rw [upd_same, List.take_add_one, et]
        unfold vS
        rw [List.map_append, List.map_append]
        rfl
      rintro H1 ⟨eF, s1⟩
      rw [lu, List.take_length] at eF
      exact ⟨F, rfl, eF, s1⟩
    rintro σ H1 ⟨F, rfl, eF, s1⟩
    -- the places
    refine ⟨fun σ H' => ∃ J : Addr, σ = [some (.ref D0), some (.ref a), some (.ref p), some (.str "group"), some (.ref b), some (.ref tq), some (.ref cv), some (.ref F), none, none, none, some (.ref J), none, none, none, none, none, none, none] ∧ H' J = some (.lst (jsV (ts.map fun t => (nms ps).idxOf t.2.2))) ∧ Same H1 H', ?_, ?_⟩
    · have eu1 := s1 _ _ eu
      refine ⟨_, rfl, _, rfl, tq, rfl, ⟨_, SqT.of eu1⟩, fun C2 hC2 => lc_tup (K := K) (a := tq) (xs := us) (fun i H' => H' C2 = some (.lst (vS ((ts.take i).map (·.2.2)))) ∧ Same H1 H') ⟨upd_same, Same.upd hC2⟩ (fun i H' _ pr => SqT.of (pr.2 _ _ eu1)) ?_ ?_⟩
      · rintro i x H2 hx ⟨eF, s2⟩
        obtain ⟨d, ed, dd⟩ := hu.get i x hx
        rw [List.getElem?_map] at ed
        obtain ⟨t, et, rfl⟩ := Option.map_eq_some_iff.mp ed
        obtain ⟨q, rfl, eq⟩ := totS3_dh dd
        refine ⟨q, _, rfl, SqT.of (s2 _ _ (s1 _ _ eq)), rfl, _, _, rfl, _, _, rfl, _, _, rfl, rfl, rfl, ?_⟩
        dsimp only [tYes]
        refine iteT ⟨_, rfl, _, eF, lt_size (by rw [List.length_map, List.length_map, List.length_take]; omega), ?_, fun b' o e => by rw [upd_ne (ne_of_none e hC2)]; exact s2 b' o e⟩
        rw [upd_same, List.take_add_one, et]
        unfold vS
        rw [List.map_append, List.map_append]
        rfl
      rintro H2 ⟨eC, s2⟩
      rw [lu, List.take_length] at eC
      refine ⟨cv, C2, ps, ts.map (·.2.2), rfl, (hL.same s1).same s2, cp, eC, fun n hn => ?_, by rw [List.length_map]; omega, fun J H3 s3 eJ => ⟨J, rfl, ?_, s2.trans s3⟩⟩
      · obtain ⟨t, h4, rfl⟩ := List.mem_map.mp hn
        exact (ht t h4).2.1
      · rw [List.map_map] at eJ
        exact eJ
    rintro σ H2 ⟨J, rfl, eJ, s12⟩
    have s02 := s1.trans s12
    have eF2 := s12 _ _ eF
    clear s1 s12 eF
    -- the rows
    refine ⟨Nat.zero_le _, fun R hR => ?_⟩
    have zR := Same.upd (o := .lst []) hR
    have eR0 : L2.upd H2 R (.lst []) R = some (.lst []) := upd_same
    have hRn : H R = none := same_free s02 hR
    generalize L2.upd H2 R (.lst []) = H3 at zR eR0 ⊢
    have s03 := s02.trans zR
    refine ⟨_, rfl, a, dx, _, rfl, s03 _ _ h1, rfl, a, cv, rs, rfl, hI.same s03, fun l hl => ?_⟩
    have zl := Same.upd (o := .lst (rs.map (·.1))) hl
    have el : L2.upd H3 l (.lst (rs.map (·.1))) l = some (.lst (rs.map (·.1))) := upd_same
    generalize L2.upd H3 l (.lst (rs.map (·.1))) = H4 at zl el ⊢
    have s04 := s03.trans zl
    refine ⟨_, rfl, _, rfl, cv, b, ps, ks, rfl, hL.same s04, cp, s04 _ _ eb, hk, by omega, fun J2 H5 s5 eJ2 => ?_⟩
    have s05 := s04.trans s5
    have lks : (ps.map (·.2)).length = ps.length := List.length_map _
    have lnm : (nms ps).length = ps.length := List.length_map _
    generalize hjs : ks.map (fun n => (nms ps).idxOf n) = js at eJ2
    have hj : ∀ j ∈ js, j < (ps.map (·.2)).length := fun j hj => by
      rw [← hjs] at hj
      obtain ⟨n, h4, rfl⟩ := List.mem_map.mp hj
      have := List.idxOf_lt_length_of_mem (hk n h4)
      omega
    have eR5 := s5 _ _ (zl _ _ eR0)
    refine ⟨l, J2, rs, ps.map (·.2), js, rfl, s5 _ _ el, ra0.same s05, fun r hr => rw_ r.2 (List.mem_map_of_mem hr), ln, eJ2, hj, by rw [← hjs, List.length_map]; omega, fun D L H6 s6 hDn fr dn gr => ?_⟩
    have s06 := s05.trans s6
    have lG := gr.len
    have lG2 := grp_len (atJ js) rs
    have gof := grpR_of (atJ js) rs
    have gsum := grp_sum (atJ js) rs
    generalize hG : grpR (atJ js) rs = G at gr lG lG2 gof gsum
    obtain ⟨uD, huD, nt, nl, ni⟩ := dn.ex
    have nRL : V.ref R ∉ L.map (·.2.2) := fun h => by
      obtain ⟨lb, e, e'⟩ := fr _ h
      cases e
      rw [eR5] at e'
      cases e'
    have eR6 := s6 _ _ eR5
    have nRD : R ≠ D := ne_of_none eR5 hDn
    have mo : ∀ i (key : List PyData) (mem : RowsL), G[i]? = some (key, mem) → (∀ r ∈ mem, r ∈ rs) ∧ mem.length ≤ 14 := fun i key mem e => by
      have h1 := (gof _ (List.mem_of_getElem? e)).2
      refine ⟨h1, ?_⟩
      have h3 : mem.length ≤ (G.map fun x => x.2.length).sum := le_sum (List.mem_map_of_mem (f := fun x : List PyData × RowsL => x.2.length) (List.mem_of_getElem? e))
      omega
    have fin : ∀ (W : Addr) (H' : Hp) (rs' : RowsL), Same H H' → H' W = some (.lst (rs'.map (·.1))) → RowsAt H' rs' → rs'.map (·.2) = G.map (fun g => outG ps ts (g.1, g.2.map (·.2))) → Q (.ref W) H' := fun W H' rs' s e ra em => by
      refine k W H' rs' s e ra ?_
      rw [em]
      show _ = (grpR (atD (ks.map fun n => (nms ps).idxOf n)) (rs.map (·.2))).map (outG ps ts)
      rw [hjs, ← grpR_map (fun r : V × RowD => r.2) (atJ js) (atD js) (fun _ => rfl), hG, List.map_map]
      rfl
    refine ⟨D, L, rfl, dn, fun o => ?_⟩
    have nDL : V.ref D ∉ L.map (·.2.2) := fun h => by
      obtain ⟨lb, xs, e, e'⟩ := gr.lists _ h
      cases e
      rw [e'] at huD
      exact nl _ (Option.some.inj huD).symm
    have g7 := GrpAt.upd (o := .frz o (DnO P w D L)) huD nt gr nDL
    have eD7 : L2.upd H6 D (.frz o (DnO P w D L)) D = some (.frz o (DnO P w D L)) := upd_same
    have s57 : Same H5 (L2.upd H6 D (.frz o (DnO P w D L))) := fun b o' e => by
      rw [upd_ne (ne_of_none e hDn)]
      exact s6 _ _ e
    refine for_itemsN (fun i σ H' => (∃ x8 x9 x10 x13 x14 x15 x16 x17 x18 : Option V, σ = [some (.ref D0), some (.ref a), some (.ref p), some (.str "group"), some (.ref b), some (.ref tq), some (.ref cv), some (.ref F), x8, x9, x10, some (.ref J), some (.ref R), x13, x14, x15, x16, x17, x18]) ∧ (∃ rs' : RowsL, H' R = some (.lst (rs'.map (·.1))) ∧ RowsAt H' rs' ∧ RowsOk rs' ∧ rs'.map (·.2) = (G.take i).map fun g => outG ps ts (g.1, g.2.map (·.2))) ∧ GrpAt H' L G ∧ H' D = some (.frz o (DnO P w D L)) ∧ SameB R H5 H') ⟨⟨_, _, _, _, _, _, _, _, _, rfl⟩, ⟨[], s57 _ _ eR5, nofun, nofun, rfl⟩, g7, eD7, Same.b R s57⟩ (fun i σ H' _ pr => pr.2.2.2.1) ?_ ?_
    · rintro i k' kb v T σ H7 hy ⟨⟨x8, x9, x10, x13, x14, x15, x16, x17, x18, rfl⟩, ⟨rs', eR, ra', ok', em⟩, gr7, eD, sB⟩ hT
      obtain ⟨key, mem, la, eG, rfl, hk7, ko, el7⟩ := gr7.get hy
      obtain ⟨mo1, mo2⟩ := mo i key mem eG
      have li := (List.getElem?_eq_some_iff.mp eG).1
      have lkey : key.length ≤ 8 := by
        obtain ⟨r, _, e⟩ := (gof _ (List.mem_of_getElem? eG)).1
        have e : key = atJ js r := e
        rw [e]
        unfold atJ
        rw [List.length_map, ← hjs, List.length_map]
        omega
      have l' : rs'.length ≤ 1000 := by
        have := congrArg List.length em
        rw [List.length_map, List.length_map, List.length_take] at this
        omega
      have okl : ∀ l ∈ mem.map (fun r => r.2.lin), LinOk l := fun l hl => by
        obtain ⟨r, hr, rfl⟩ := List.mem_map.mp hl
        exact (ok r (mo1 r hr)).2
      have s07 : Same H H7 := fun b' o' e => sB _ _ (ne_of_none e hRn) (s05 _ _ e)
      have s25 : Same H2 H5 := zR.trans (zl.trans s5)
      have eF7 := sB _ _ (ne_of_none eF2 hR) (s25 _ _ eF2)
      have eJ7 := sB _ _ (ne_of_none eJ hR) (s25 _ _ eJ)
      have zT := Same.upd (o := .tup [.ref kb, .ref la]) hT
      refine ⟨T, _, rfl, SqT.of upd_same, rfl, _, _, rfl, _, _, rfl, rfl, ?_⟩
      dsimp only [gNil]
      generalize L2.upd H7 T (.tup [.ref kb, .ref la]) = H8 at zT ⊢
      have s08 := s07.trans zT
      let tots : List PyData := ts.map fun t => totD t.2.1 (mem.map fun r => r.2.vals.getD ((nms ps).idxOf t.2.2) .none)
      -- the totals
      refine ⟨_, rfl, _, rfl, F, J, vS (ts.map (·.2.1)), jsV (ts.map fun t => (nms ps).idxOf t.2.2), rfl, .inl ⟨SqL.of (zT _ _ eF7), SqL.of (zT _ _ eJ7), fun W hW => lc_zipL (K := K) (a := F) (b := J) (xs := vS (ts.map (·.2.1))) (ys := jsV (ts.map fun t => (nms ps).idxOf t.2.2)) (by unfold vS jsV; rw [List.length_map, List.length_map, List.length_map, List.length_map]) (fun m H' => (∃ zs, H' W = some (.lst zs) ∧ DhAll H' zs (tots.take m)) ∧ Same H8 H') ⟨⟨[], upd_same, .nil⟩, Same.upd hW⟩ (fun m H' pr => ⟨SqL.of (pr.2 _ _ (zT _ _ eF7)), SqL.of (pr.2 _ _ (zT _ _ eJ7))⟩) ?_ ?_⟩⟩
      · rintro m x y T2 H9 hx hy2 ⟨⟨zs, eW, dz⟩, s9⟩ hT2
        unfold vS at hx
        rw [List.map_map, List.getElem?_map] at hx
        obtain ⟨t, et, rfl⟩ := Option.map_eq_some_iff.mp hx
        unfold jsV at hy2
        rw [List.map_map, List.getElem?_map, et] at hy2
        obtain rfl := Option.some.inj hy2
        have htm := List.mem_of_getElem? et
        obtain ⟨_, hc, _⟩ := ht t htm
        generalize hjj : (nms ps).idxOf t.2.2 = j
        have lj : j < ps.length := by
          have := List.idxOf_lt_length_of_mem hc
          omega
        have zT2 := Same.upd (o := .tup [V.str t.2.1, V.int ((j : Nat) : Int)]) hT2
        refine ⟨T2, _, rfl, SqT.of upd_same, rfl, _, _, rfl, _, _, rfl, rfl, rfl, ?_⟩
        dsimp only [tYes]
        refine iteT ?_
        change teW3 K _ _ _
        dsimp only [Function.comp]
        rw [hjj]
        generalize L2.upd H9 T2 (.tup [V.str t.2.1, V.int ((j : Nat) : Int)]) = H10 at zT2 ⊢
        have s810 := s9.trans zT2
        have el10 := s810 _ _ (zT _ _ el7)
        refine ⟨_, rfl, _, rfl, la, rfl, ⟨_, SqL.of el10⟩, fun D2 hD2 => lc_list (K := K) (a := la) (xs := mem.map (·.1)) (fun m H' => (∃ ys, H' D2 = some (.lst ys) ∧ DhAll H' ys ((mem.take m).map fun r => r.2.vals.getD j .none)) ∧ Same H10 H') ⟨⟨[], upd_same, .nil⟩, Same.upd hD2⟩ (fun m H' _ pr => SqL.of (pr.2 _ _ el10)) ?_ ?_⟩
        · rintro m2 x H11 hx ⟨⟨ys, eD2, dys⟩, s11⟩
          rw [List.getElem?_map] at hx
          obtain ⟨r, er, rfl⟩ := Option.map_eq_some_iff.mp hx
          have rm := List.mem_of_getElem? er
          have lm := (List.getElem?_eq_some_iff.mp er).1
          obtain ⟨rr, va, lb, ev, e2, dvals, _⟩ := row_at ((ra0 r (mo1 r rm)).same (s08.trans (s810.trans s11)))
          obtain ⟨vk, _⟩ := rw_ r.2 (List.mem_map_of_mem (mo1 r rm))
          have lv := vk.len
          rw [List.length_map] at lv
          cases dvals with
          | @tup _ us2 _ eu2 hu2 =>
          have lu2 := hu2.len
          have ly := dys.len
          rw [List.length_map, List.length_take] at ly
          obtain ⟨d, ed⟩ : ∃ d, r.2.vals[j]? = some d := ⟨_, List.getElem?_eq_getElem (by omega)⟩
          obtain ⟨w, ew⟩ : ∃ w, us2[j]? = some w := ⟨_, List.getElem?_eq_getElem (by omega)⟩
          obtain ⟨d', ed', dw⟩ := hu2.get j w ew
          rw [ed] at ed'
          obtain rfl := Option.some.inj ed'
          refine ⟨rr, _, ev, SqT.of e2, rfl, _, _, rfl, _, _, rfl, rfl, rfl, ?_⟩
          dsimp only [tYes]
          refine iteT ?_
          change teW4 K _ _ _
          refine ⟨_, rfl, _, rfl, va, us2, (j : Int), w, rfl, rfl, SqT.of eu2, at_of (j := j) (by omega) ew, ys, eD2, lt_size (by omega), ⟨ys ++ [w], upd_same, ?_⟩, fun b' o' e => by rw [upd_ne (ne_of_none e hD2)]; exact s11 b' o' e⟩
          rw [List.take_add_one, er, List.map_append]
          refine DhAll.append (DhAll.t (SameT.lst eD2) dys (noLs_all.mpr fun x hx => ?_)) ?_
          · obtain ⟨q, hq, rfl⟩ := List.mem_map.mp hx
            obtain ⟨vq, _⟩ := rw_ q.2 (List.mem_map_of_mem (mo1 q (List.mem_of_mem_take hq)))
            have lq := vq.len
            rw [List.length_map] at lq
            refine vq.noL _ ?_
            rw [List.getD_eq_getElem?_getD, List.getElem?_eq_getElem (show j < q.2.vals.length by omega)]
            exact List.getElem_mem _
          · show DhAll _ [w] [r.2.vals.getD j .none]
            rw [List.getD_eq_getElem?_getD, ed]
            exact .cons (dw.t (SameT.lst eD2) (vk.noL d (List.mem_of_getElem? ed))) .nil
        rintro H11 ⟨⟨ys, eD2, dys⟩, s11⟩
        rw [List.length_map, List.take_length] at dys
        have s811 := s810.trans s11
        have tok := tot_ok cp (t := t) (g.t t htm).2.1 hc (ht t htm).2.2 (ds := mem.map (·.2)) (fun r hr => by
          obtain ⟨q, hq, rfl⟩ := List.mem_map.mp hr
          exact rw_ q.2 (List.mem_map_of_mem (mo1 q hq))) (by rw [List.length_map]; exact mo2)
        rw [List.map_map, hjj] at tok
        refine ⟨D2, ys, _, t.2.1, rfl, eD2, dys, tok, fun w H12 s12 dw => ?_⟩
        have eW12 := s12 _ _ (s11 _ _ (zT2 _ _ eW))
        have lz := dz.len
        have ltot : tots.length = ts.length := List.length_map _
        rw [List.length_take] at lz
        have nt2 : ∀ t : Str × Str × Str, ∀ ds, noL (totD t.2.1 ds) = true := fun t ds => totD_noL _ ds
        refine ⟨zs, eW12, lt_size (by omega), ⟨zs ++ [w], upd_same, ?_⟩, fun b' o' e => by rw [upd_ne (ne_of_none e hW)]; exact s12 _ _ (s811 _ _ e)⟩
        have et2 : tots[m]? = some (totD t.2.1 (mem.map fun r => r.2.vals.getD j .none)) := by
          show (ts.map _)[m]? = _
          rw [List.getElem?_map, et, ← hjj]
          rfl
        rw [List.take_add_one, et2]
        refine DhAll.append (DhAll.t (SameT.lst eW12) (dz.same (zT2.trans (s11.trans s12))) (noLs_all.mpr fun x hx => ?_)) (.cons (dw.t (SameT.lst eW12) (nt2 t _)) .nil)
        obtain ⟨t', _, rfl⟩ := List.mem_map.mp (List.mem_of_mem_take hx)
        exact nt2 t' _
      rintro H9 ⟨⟨zs, eW, dz⟩, s9⟩
      rw [show (vS (ts.map (·.2.1))).length = tots.length by unfold vS; rw [List.length_map, List.length_map]; exact (List.length_map _).symm, List.take_length] at dz
      have s79 := zT.trans s9
      have eR9 := s79 _ _ eR
      refine ⟨_, rfl, .inl ⟨rfl, _, SqL.of eR9⟩, _, rfl, _, rfl, W, zs, rfl, .inl ⟨SqL.of eW, fun q hq => ?_⟩⟩
      have zq := Same.upd (o := .tup zs) hq
      have dq : Dh (L2.upd H9 q (.tup zs)) (.ref q) (.tuple tots) := .tup upd_same (dz.same zq)
      have ltot : tots.length = ts.length := List.length_map _
      refine catH ((hk7.same s79).same zq) dq (by omega) fun r10 H10 d10 s10 => ?_
      have s710 := s79.trans (zq.trans s10)
      refine lins_un (mem := mem) (la := la) rfl (fun T x y H1 R ⟨ra, e1, e2⟩ h => ⟨ra, _, e1, SqT.of e2, rfl, _, _, rfl, _, _, rfl, rfl, h _ rfl rfl⟩) (s710 _ _ el7) (fun r hr => (ra0 r (mo1 r hr)).same (s07.trans s710)) okl (by omega) fun w H11 s11 dw => ⟨two, fun t ht2 => ?_⟩
      have zt := Same.upd (o := .tup [r10, w]) ht2
      have s7t := s710.trans (s11.trans zt)
      have eR' := s7t _ _ eR
      have lo : LinOk (outG ps ts (key, mem.map (·.2))).lin := by
        show LinOk (unL ((mem.map (·.2)).map (·.lin)))
        rw [List.map_map]
        exact unL_ok okl
      have ev : (outG ps ts (key, mem.map (·.2))).vals = key ++ tots := by
        show key ++ ts.map _ = key ++ tots
        congr 1
        refine List.map_congr_left fun t _ => ?_
        rw [List.map_map]
        rfl
      have newd : Dh (L2.upd H11 t (.tup [r10, w])) (.ref t) (outG ps ts (key, mem.map (·.2))).d := by
        unfold RowD.d
        rw [ev]
        exact .tup upd_same (.cons ((d10.same s11).same zt) (.cons (by
          have := dw.same zt
          show Dh _ w (linD (unL ((mem.map (·.2)).map (·.lin))))
          rw [List.map_map]
          exact this) .nil))
      have nol : noLs (outG ps ts (key, mem.map (·.2))).vals = true := by
        rw [ev]
        refine noLs_all.mpr fun d hd => ?_
        rcases List.mem_append.mp hd with hd | hd
        · exact (ko d hd).2.2.1
        · obtain ⟨t', _, rfl⟩ := List.mem_map.mp hd
          exact totD_noL _ _
      have g8 := GrpAt.upd (o := .lst (rs'.map (·.1) ++ [.ref t])) eR' nofun (gr7.same s7t) nRL
      refine ⟨R, _, _, rfl, rfl, eR', lt_size (by rw [List.length_map]; exact l'), ⟨_, _, _, _, _, _, _, _, _, rfl⟩, ⟨rs' ++ [(.ref t, outG ps ts (key, mem.map (·.2)))], by rw [upd_same, List.map_append]; rfl, fun y hy => ?_, fun y hy => ?_, by rw [List.map_append, em, List.take_add_one, eG, List.map_append]; rfl⟩, g8, by rw [upd_ne (Ne.symm nRD)]; exact s7t _ _ eD, fun b' o' n e => by rw [upd_ne n]; exact s7t _ _ (sB _ _ n e)⟩
      · rcases List.mem_append.mp hy with hy | hy
        · exact ((ra' y hy).same s7t).t (SameT.lst eR') (row_noL (ok' y hy).1)
        · rw [List.mem_singleton.mp hy]
          exact newd.t (SameT.lst eR') (row_noL nol)
      · rcases List.mem_append.mp hy with hy | hy
        · exact ok' y hy
        · rw [List.mem_singleton.mp hy]
          exact ⟨nol, lo⟩
    · rintro σ H7 ⟨⟨x8, x9, x10, x13, x14, x15, x16, x17, x18, rfl⟩, ⟨rs', eR, ra', ok', em⟩, gr7, eD, sB⟩
      rw [lG, List.take_length] at em
      refine ⟨_, rfl, fin R H7 rs' (fun b' o' e => ?_) eR ra' em⟩
      exact sB _ _ (ne_of_none e hRn) (s05 _ _ e)
end
end
end K20
set_option Elab.async false
set_option linter.all false
set_option maxRecDepth 100000
set_option maxHeartbeats 4000000
namespace K20
open PySem PySem.Spec PyProof.Rows L2 Lc
/-! ## rows stay of their columns' kinds -/
def TbW (tbs : TbL) : Prop := ∀ x ∈ tbs, RowW x.2.1 (x.2.2.map (·.2))
theorem TbsAt.w {C : Addr} {H : Hp} : ∀ {kvs : List (Key × V)} {tbs : TbL}, TbsAt C H kvs tbs → TbW tbs
  | _, _, .nil => nofun
  | _, _, .cons it ca cp rw_ ln r => fun x hx => by
    rcases List.mem_cons.mp hx with rfl | hx
    · exact rw_
    · exact r.w x hx
theorem vks_sel {ps : CsL} (nd : (nms ps).Nodup) {vals : List PyData} (h1 : Vks (ps.map (·.2)) vals) {ns : List Str} (h : ∀ n ∈ ns, n ∈ nms ps) : Vks (ns.map (kdOf ps)) (ns.map fun n => vals.getD ((nms ps).idxOf n) .none) := by
  refine vks_of (by rw [List.length_map, List.length_map]) fun i k' e' => ?_
  rw [List.getElem?_map] at e'
  obtain ⟨n, en, rfl⟩ := Option.map_eq_some_iff.mp e'
  have hn := h n (List.mem_of_getElem? en)
  have ei := idx_at hn
  rw [List.getElem?_map] at ei
  obtain ⟨p, ep, e3⟩ := Option.map_eq_some_iff.mp ei
  obtain ⟨d, ed, vd⟩ := vks_get h1 (i := (nms ps).idxOf n) (k := p.2) (by rw [List.getElem?_map, ep]; rfl)
  refine ⟨d, ?_, ?_⟩
  · rw [List.getElem?_map, en]
    show some (vals.getD _ _) = _
    rw [List.getD_eq_getElem?_getD, ed]
    rfl
  · rw [← e3, kdOf_mem nd (List.mem_of_getElem? ep)]
    exact vd
theorem atD_all {ks : List Str} {r : RowD} (h : Vks ks r.vals) {n : Nat} (e : n = ks.length) : atD (List.range n) r = r.vals := by
  unfold atD
  have l := h.len
  refine List.ext_getElem? fun i => ?_
  rw [List.getElem?_map]
  by_cases q : i < n
  · rw [List.getElem?_range q]
    show some (r.vals.getD i .none) = _
    rw [List.getD_eq_getElem?_getD, List.getElem?_eq_getElem (by omega)]
    rfl
  · rw [List.getElem?_eq_none (by rw [List.length_range]; omega), List.getElem?_eq_none (by omega)]
    rfl
theorem limB_of {n d : Int} (h : limB (.int n) (.int d) = true) : n.natAbs ≤ 10000000000000000000000000000000000000000 ∧ d ≤ 10000000000000000000000000000000000000000 := by
  have h1 : (decide ((if n < 0 then -n else n) ≤ lim) && decide (d ≤ lim)) = true := h
  rw [Bool.and_eq_true] at h1
  have h2 : (if n < 0 then -n else n) ≤ 10000000000000000000000000000000000000000 := of_decide_eq_true h1.1
  have h3 : d ≤ 10000000000000000000000000000000000000000 := of_decide_eq_true h1.2
  refine ⟨?_, h3⟩
  split at h2 <;> omega
theorem limD_vk {n d : Int} (r : Rt n d) : Vk "number" (limD n d) := by
  unfold limD
  split
  · next h =>
    obtain ⟨h1, h2⟩ := limB_of h
    have := r.pos
    exact .num r h1 (by omega)
  · exact .non _
theorem totD_vk {fn : Str} {ds : List PyData} (h : TotOk fn ds) : Vk "number" (totD fn ds) := by
  unfold totD
  split
  · exact limD_vk (rt_one _)
  · next hf =>
    cases q0 : totQ fn (numsD ds) with
    | none => exact .non _
    | some q => exact limD_vk (totQ_rt (nums_pres (h.num hf)).2.good q0)
theorem Vks.app2 : ∀ {ks ks' : List Str} {ds ds' : List PyData}, Vks ks ds → Vks ks' ds' → Vks (ks ++ ks') (ds ++ ds')
  | _, _, _, _, .nil, h => h
  | _, _, _, _, .cons h r, h' => .cons h (r.app2 h')
theorem grp_mem_le {ky : RowD → List PyData} {ds : List RowD} {g : List PyData × List RowD} (hg : g ∈ grpR ky ds) : g.2.length ≤ ds.length := by
  rw [grpR_eq] at hg
  obtain ⟨k, _, rfl⟩ := List.mem_map.mp hg
  exact List.length_filter_le _ _
theorem Lead.rows {tbs : TbL} {ps qs : CsL} {st : Ps} {ds : List RowD} (h : Lead (osOf tbs) ps st qs) (c : ColP ps) (w : RowW ps ds) (wt : TbW tbs) (nd : (tbs.map (·.1)).Nodup) (ln : ds.length ≤ 1000) (pl : st.Pl tbs ds) : RowW qs (stepB tbs ps st ds) := by
  cases h with
  | @group ks ts hk gg ht =>
    intro r hr
    obtain ⟨g, hg, rfl⟩ := List.mem_map.mp hr
    have lg := grp_mem_le hg
    obtain ⟨⟨q, hq, e⟩, hm⟩ := grpR_of _ _ g hg
    obtain ⟨h1, h2⟩ := w q hq
    refine ⟨?_, unL_ok fun l hl => ?_⟩
    · show Vks _ (g.1 ++ _)
      rw [List.map_append, e]
      refine Vks.app2 ?_ ?_
      · rw [List.map_map]
        have := vks_sel c.nd h1 hk
        unfold atD
        rw [List.map_map]
        exact this
      · rw [List.map_map]
        have wg : RowW ps g.2 := fun r hr => w r (hm r hr)
        have lg2 : g.2.length ≤ 14 := Nat.le_trans lg pl
        have : ∀ ts2 : List (Str × Str × Str), (∀ t ∈ ts2, t ∈ ts) → Vks (ts2.map fun _ => ("number" : Str)) (ts2.map fun t => totD t.2.1 (g.2.map fun r => r.vals.getD ((nms ps).idxOf t.2.2) .none)) := by
          intro ts2 h
          induction ts2 with
          | nil => exact .nil
          | cons t ts2 ih =>
            have mt := h t List.mem_cons_self
            exact .cons (totD_vk (tot_ok c (gg.t t mt).2.1 (ht t mt).2.1 (ht t mt).2.2 wg lg2)) (ih fun x hx => h x (List.mem_cons_of_mem _ hx))
        exact this ts fun t h => h
    · obtain ⟨x, hx, rfl⟩ := List.mem_map.mp hl
      exact (w x (hm x hx)).2
/-- steps one behind the other -/
inductive Runs (tbs : TbL) : CsL → List RowD → List Ps → CsL → List RowD → Prop
  | nil {ps : CsL} {ds : List RowD} : Runs tbs ps ds [] ps ds
  | cons {ps qs rs : CsL} {ds es : List RowD} {st : Ps} {sts : List Ps} (h : Lead (osOf tbs) ps st qs) (p : st.Pl tbs ds) (l : (stepB tbs ps st ds).length ≤ 1000) (r : Runs tbs qs (stepB tbs ps st ds) sts rs es) : Runs tbs ps ds (st :: sts) rs es
end K20
set_option Elab.async false
set_option linter.all false
set_option maxRecDepth 100000
set_option maxHeartbeats 4000000
namespace K20
open PySem PySem.Spec PyProof.Rows L2 Lc
/-- a dict comprehension over a dict's keys -/
theorem dc_keys {d : Addr} {o : Obj} {kvs0 : List (Key × V)} {g : TG} {tt : TT} {tk tv : TE} {vs : List Nat} {σ : L2.St} {H1 : Hp} {D : Addr} {Qd : Hp → Prop} (Pv : Nat → Hp → Prop) (h0 : Pv 0 (L2.upd H1 D (.dK []))) (hl : ∀ i H, i ≤ kvs0.length → Pv i H → H d = some (.frz o (.dK kvs0)))
    (hs : ∀ i k0 v0 H, kvs0[i]? = some (k0, v0) → Pv i H → g (kV k0) (wipe σ vs) H fun σ2 H2 => wipe σ2 vs = wipe σ vs ∧ tt σ2 H2 fun b H3 =>
      if b = true then tk σ2 H3 fun y H4 => tv σ2 H4 fun z H5 => ∃ kvs k, y = kV k ∧ H5 D = some (.dK kvs) ∧ kvs.length < sizeLine ∧ Pv (i + 1) (L2.upd H5 D (.dK (putK kvs k z))) else Pv (i + 1) H3) (hd : ∀ H, Pv kvs0.length H → Qd H) :
    ∃ W : Nat → Nat → Hp → Prop, (∃ m, W 0 m (L2.upd H1 D (.dK []))) ∧ ∀ i m H, W i m H →
      ((Itk d o kvs0).stop i H ∧ Qd H) ∨ ((Itk d o kvs0).go i H ∧ ∃ Nx : Hp → Prop, (∀ H', Nx H' → ∃ m', m' < m ∧ W (i + 1) m' H') ∧ ∀ x H', (Itk d o kvs0).yld i H x H' → g x (wipe σ vs) H' fun σ2 H2 => wipe σ2 vs = wipe σ vs ∧ tt σ2 H2 fun b H3 =>
        if b = true then tk σ2 H3 fun y H4 => tv σ2 H4 fun z H5 => ∃ kvs k, y = kV k ∧ H5 D = some (.dK kvs) ∧ kvs.length < sizeLine ∧ Nx (L2.upd H5 D (.dK (putK kvs k z))) else Nx H3) := by
  refine ⟨fun i m H => m = kvs0.length - i ∧ i ≤ kvs0.length ∧ Pv i H, ⟨kvs0.length, by simp, Nat.zero_le _, h0⟩, ?_⟩
  rintro i m H ⟨rfl, hi, p⟩
  have q := hl i H hi p
  by_cases hlt : i < kvs0.length
  · refine .inr ⟨⟨q, hlt⟩, Pv (i + 1), fun H' p' => ⟨kvs0.length - (i + 1), by omega, rfl, hlt, p'⟩, fun x H' y => ?_⟩
    obtain ⟨e, k0, v0, e2, e3⟩ := y
    subst e
    subst e3
    exact hs i k0 v0 _ e2 p
  · have e : i = kvs0.length := by omega
    subst e
    exact .inl ⟨⟨q, Nat.le_refl _⟩, hd H p⟩
/-! ## resolved, and run -/
inductive StepsAt (H : Hp) : List V → List Ps → Prop
  | nil : StepsAt H [] []
  | cons {a : Addr} {ys : List V} {st : Ps} {sts : List Ps} (h : Dh H (.ref a) st.d) (r : StepsAt H ys sts) : StepsAt H (.ref a :: ys) (st :: sts)
theorem StepsAt.same {H H' : Hp} (s : Same H H') : ∀ {ys : List V} {sts : List Ps}, StepsAt H ys sts → StepsAt H' ys sts
  | _, _, .nil => .nil
  | _, _, .cons h r => .cons (h.same s) (r.same s)
theorem StepsAt.len {H : Hp} : ∀ {ys : List V} {sts : List Ps}, StepsAt H ys sts → ys.length = sts.length
  | _, _, .nil => rfl
  | _, _, .cons h r => by rw [List.length_cons, List.length_cons, r.len]
theorem StepsAt.get {H : Hp} : ∀ {ys : List V} {sts : List Ps}, StepsAt H ys sts → ∀ {i : Nat} {y : V}, ys[i]? = some y → ∃ a st, sts[i]? = some st ∧ y = .ref a ∧ Dh H (.ref a) st.d
  | _, _, .nil, i, y, e => by simp at e
  | _, _, .cons h r, 0, y, e => by
    cases e
    exact ⟨_, _, rfl, rfl, h⟩
  | _, _, .cons h r, i + 1, y, e => by
    obtain ⟨a, st, e1, e2⟩ := r.get (i := i) (by simpa using e)
    exact ⟨a, st, by simpa using e1, e2⟩
theorem StepsAt.snoc {H : Hp} {a : Addr} {st : Ps} : ∀ {ys : List V} {sts : List Ps}, StepsAt H ys sts → Dh H (.ref a) st.d → StepsAt H (ys ++ [.ref a]) (sts ++ [st])
  | _, _, .nil, g => .cons g .nil
  | _, _, .cons h r, g => .cons h (r.snoc g)
def spRes : Sp := fun vs H Q _ => ∃ (p sv : Addr) (S : V) (src : Str) (ys : List V) (sts : List Ps), vs = [.ref p, S] ∧ H p = some (.tup [.str src, .ref sv]) ∧ H sv = some (.tup ys) ∧ StepsAt H ys sts ∧ ys.length ≤ 10 ∧
  ∀ (q tv : Addr) (H' : Hp), Same H H' → H' q = some (.tup [.str src, .ref tv]) → H' tv = some (.tup ys) → Q (.ref q) H'
def rbW : List Str := ["group"]
theorem not_choose : ∀ st : Ps, st.w ≠ "choose"
  | .group _ _ => by show ("group" : Str) ≠ "choose"; decide +kernel
theorem pl_w (st : Ps) : st.w ∈ rbW := by
  cases st with
  | group ks ts => exact .head _
structure RbA (P : Program) (w : World) (K : PySem.W.Frag) (mg : Str → Option Value) (base : Heap) (C rA : Addr) (g : Str → Addr) : Prop where
  gr : mg "ROWS_BEHIND" = some (.ref rA)
  d : ∀ x ∈ rbW, KDct K w rA x (.ref (g x))
  h : ∀ x ∈ rbW, Held P w K mg base 16 (g x) (spRb C x)
  inj : ∀ a ∈ rbW, ∀ b ∈ rbW, g a = g b → a = b
def spOf (C : Addr) (g : Str → Addr) (q : Addr) : Option Sp := (rbW.find? fun a => decide (g a = q)).map (spRb C)
theorem spOf_at {P : Program} {w : World} {K : PySem.W.Frag} {mg : Str → Option Value} {base : Heap} {C rA : Addr} {g : Str → Addr} (A : RbA P w K mg base C rA g) {x : Str} (h : x ∈ rbW) : spOf C g (g x) = some (spRb C x) := by
  unfold spOf
  cases e : rbW.find? fun a => decide (g a = g x) with
  | none => exact absurd (List.find?_eq_none.mp e x h) (by simp)
  | some a =>
    have h1 := List.find?_some e
    have h2 := List.mem_of_find?_eq_some e
    rw [A.inj a h2 x h (by simpa using h1)]
    rfl
theorem TbsAt.get {C : Addr} {H : Hp} : ∀ {kvs : List (Key × V)} {tbs : TbL}, TbsAt C H kvs tbs → ∀ {i : Nat} {k : Key} {v : V}, kvs[i]? = some (k, v) → ∃ n cs rs, tbs[i]? = some (n, cs, rs) ∧ k = .inr n
  | _, _, .nil, i, k, v, e => by simp at e
  | _, _, .cons it ca cp rw_ ln r, 0, k, v, e => by cases e; exact ⟨_, _, _, rfl, rfl⟩
  | _, _, .cons it ca cp rw_ ln r, i + 1, k, v, e => by
    obtain ⟨n, cs, rs, h⟩ := r.get (i := i) (by simpa using e)
    exact ⟨n, cs, rs, by simpa using h⟩
theorem TbsAt.len {C : Addr} {H : Hp} : ∀ {kvs : List (Key × V)} {tbs : TbL}, TbsAt C H kvs tbs → kvs.length = tbs.length
  | _, _, .nil => rfl
  | _, _, .cons _ _ _ _ _ r => by rw [List.length_cons, List.length_cons, r.len]
theorem TabC.len {H : Hp} : ∀ {kvs : List (Key × V)} {os : OsL}, TabC H kvs os → kvs.length = os.length
  | _, _, .nil => rfl
  | _, _, .cons _ r => by rw [List.length_cons, List.length_cons, r.len]
theorem TabC.upd {H : Hp} {b : Addr} {u o : HO} (hb : H b = some u) (nu : ∀ xs, u ≠ .tup xs) (nf : ∀ o xs, u ≠ .frz o (.tup xs)) : ∀ {kvs : List (Key × V)} {os : OsL}, TabC H kvs os → TabC (L2.upd H b o) kvs os
  | _, _, .nil => .nil
  | _, _, .cons ca r => .cons (ca.upd hb nu nf) (TabC.upd hb nu nf r)
theorem TabC.put {H : Hp} {n : Str} {cs : CsL} {C : Addr} (ca : CA H C cs) : ∀ {kvs : List (Key × V)} {os : OsL}, TabC H kvs os → n ∉ os.map (·.1) → TabC H (putK kvs (Sum.inr n : Key) (.ref C)) (os ++ [(n, cs)]) := by
  intro kvs os h hn
  have e : putK kvs (Sum.inr n : Key) (.ref C) = kvs ++ [((Sum.inr n : Key), .ref C)] := by
    unfold putK
    have : (kvs.any fun kv => decide (kv.1 = (Sum.inr n : Key))) = false := by
      induction h with
      | nil => rfl
      | cons ca2 r ih =>
        rw [List.map_cons, List.mem_cons, not_or] at hn
        rw [List.any_cons, ih hn.2, Bool.or_false]
        exact decide_eq_false fun z => hn.1 (by injection z with z; exact z.symm)
    rw [this, if_neg (by decide)]
  rw [e]
  clear e
  induction h with
  | nil => exact .cons ca .nil
  | cons ca2 r ih =>
    rw [List.map_cons, List.mem_cons, not_or] at hn
    exact .cons ca2 (ih hn.2)
theorem dK_n1 {kvs : List (Key × V)} : (∀ xs, HO.dK kvs ≠ .tup xs) ∧ ∀ c d f, HO.dK kvs ≠ .ins c d f := ⟨fun _ h => HO.noConfusion h, fun _ _ _ h => HO.noConfusion h⟩
theorem dK_n2 {kvs : List (Key × V)} : ∀ o xs, HO.dK kvs ≠ .frz o (.tup xs) := fun _ _ h => HO.noConfusion h
theorem frz_n1 {od : Obj} {kvs : List (Key × V)} : ∀ xs, HO.frz od (.dK kvs) ≠ .tup xs := fun _ h => HO.noConfusion h
theorem frz_n2 {od : Obj} {kvs : List (Key × V)} : ∀ o xs, HO.frz od (.dK kvs) ≠ .frz o (.tup xs) := fun _ _ h => by
  injection h with _ h
  cases h
def spRun (C : Addr) : Sp := fun vs H Q _ => ∃ (D p sv : Addr) (src : Str) (kvs : List (Key × V)) (tbs : TbL) (rs : RowsL) (ps qs : CsL) (es : List RowD) (ys : List V) (sts : List Ps), vs = [.ref D, .ref p, .non] ∧ H D = some (.dK kvs) ∧ TbsAt C H kvs tbs ∧ WtP tbs ∧ (src, ps, rs) ∈ tbs ∧ H p = some (.tup [.str src, .ref sv]) ∧ H sv = some (.tup ys) ∧ StepsAt H ys sts ∧ Runs tbs ps (rs.map (·.2)) sts qs es ∧ ys.length ≤ 10 ∧
  ∀ (a' cv' : Addr) (rs' : RowsL) (H' : Hp), Same H H' → IsTb C H' a' cv' rs' → CA H' cv' qs → ColP qs → RowW qs es → rs'.map (·.2) = es → Q (.ref a') H'
section
variable {P : Program} {w : World} {K : PySem.W.Frag} {mg : Str → Option Value} {base : Heap} {f : Addr} {fd : FuncData}
abbrev sRes : Stmt := top 100
abbrev nRes : List Str := ["pipeline", "setting", "source", "steps", "plain", "step", "index"]
abbrev pRes : List Str := ["pipeline", "setting"]
theorem scRes : FnScope nRes pRes (defScope sRes) := ⟨rfl, rfl, rfl, by decide +kernel, rfl, by decide +kernel, by decide +kernel⟩
section
theorem ok_Res (F : Fun K "resolved" "resolved" sRes f fd) (T : Bt mg) : FnOk P w K mg base CX0 1 f fd pRes (spRes) := by
  refine F.ok scRes (fun vs H Q E h => ?_) (fun cdv A outer s H vs Q E hr h => ?_)
  · obtain ⟨p, sv, S, src, ys, sts, rfl, _⟩ := h
    rfl
  · obtain ⟨p, sv, S, src, ys, sts, rfl, hp, hs, ha, l10, k⟩ := h
    refine ⟨_, (pss_cons (ps_asg (pv 0) (pg_tup rfl (pgs_cons (pg_name (i := 2) scRes.nd rfl (.inl rfl)) (pgs_cons (pg_name (i := 3) scRes.nd rfl (.inl rfl)) pgs_nil))))
      (pss_cons (ps_set (i := 4) scRes.nd rfl (Or.inl rfl) (pe_lst pa_nil))
      (pss_cons (ps_for PassesOwn.never rfl (pi_tup (pv 3)) (pg_name (i := 5) scRes.nd rfl (.inl rfl)) (pss_one (ps_if (pt_cmpR op_eq (pe_ix ix_tup (pv 5) pe_int (fun _ _ => rfl)) pe_str (nomark _)) pss_dead (pss_one (ps_expr (pe_bm PySem.F.plainAttrs_list PySem.F.slot_list_append PySem.F.type_list_append mt_append (pv 4) (pa_cons (pv 5) pa_nil)))))))
      (pss_one (ps_ret (pe_tup (pa_cons (pv 2) (pa_cons (pe_callTy call_tuple_of (by rfl) T.tuple boot_tuple (pa_cons (pv 4) pa_nil)) pa_nil)))))))), ?_⟩
    refine ⟨_, rfl, p, _, rfl, SqT.of hp, rfl, _, _, rfl, _, _, rfl, rfl, ?_⟩
    dsimp only [gNil]
    refine ⟨by show 0 ≤ sizeLine; decide, fun L hL => ?_⟩
    have zL := Same.upd (o := .lst []) hL
    have eL : upd H L (.lst []) L = some (.lst []) := upd_same
    generalize upd H L (.lst []) = H1 at zL eL ⊢
    refine ⟨_, rfl, sv, rfl, ⟨_, SqT.of (zL _ _ hs)⟩, for_tup (K := K) (a := sv) (xs := ys) (fun i σ H' => (∃ x5 x6 : Option V, σ = [some (.ref p), some S, some (.str src), some (.ref sv), some (.ref L), x5, x6]) ∧ H' L = some (.lst (ys.take i)) ∧ Same H H') ⟨⟨_, _, rfl⟩, eL, zL⟩ (fun i σ H' _ pr => SqT.of (pr.2.2 _ _ hs)) ?_ ?_⟩
    · rintro i y σ H2 hy ⟨⟨x5, x6, rfl⟩, e2, s2⟩
      obtain ⟨a, st, e3, rfl, d3⟩ := ha.get hy
      obtain ⟨xs, e4, lx⟩ := ps_at d3
      have nc : ¬ (V.str st.w = V.str "choose") := fun h => not_choose st (by injection h)
      refine ⟨_, rfl, a, _, _, .str st.w, rfl, rfl, SqT.of (s2 _ _ e4), at_of (j := 0) rfl rfl, rfl, _, rfl, ?_⟩
      rw [decide_eq_false nc]
      have li := (List.getElem?_eq_some_iff.mp hy).1
      refine iteF ⟨_, rfl, .inl ⟨rfl, _, SqL.of e2⟩, _, rfl, L, _, _, rfl, rfl, e2, Nat.lt_of_le_of_lt (show (ys.take i).length ≤ 10 by rw [List.length_take]; omega) (by decide), ⟨⟨_, _, rfl⟩, ?_, fun b o e => by rw [upd_ne (ne_of_none e hL)]; exact s2 b o e⟩⟩
      rw [upd_same, List.take_add_one, hy]
      rfl
    · rintro σ H2 ⟨⟨x5, x6, rfl⟩, e2, s2⟩
      rw [List.take_length] at e2
      refine ⟨_, rfl, _, rfl, L, ys, rfl, .inl ⟨SqL.of e2, fun tv htv => ⟨by show 2 ≤ sizeLine; decide, fun q hq => ?_⟩⟩⟩
      have z1 := Same.upd (o := .tup ys) htv
      have z2 := Same.upd (o := .tup [.str src, .ref tv]) hq
      exact k q tv _ ((s2.trans z1).trans z2) upd_same (z2 _ _ upd_same)
end
abbrev sRun : Stmt := top 122
abbrev nRun : List Str := ["tables", "pipeline", "setting", "source", "steps", "shapes", "name", "table", "step", "follow", "rows"]
abbrev pRun : List Str := ["tables", "pipeline", "setting"]
theorem scRun : FnScope nRun pRun (defScope sRun) := ⟨rfl, rfl, rfl, by decide +kernel, rfl, by decide +kernel, by decide +kernel⟩
section
variable {fA_ fB_ : Addr} {fdA_ fdB_ : FuncData}
theorem ok_Run (F : Fun K "run" "run" sRun f fd) (T : Bt mg) {C : Addr} (M : TbM P w K mg base C) {rA : Addr} {g : Str → Addr} (A3 : RbA P w K mg base C rA g)
    (GA_ : FnOk P w K mg base CX0 1 fA_ fdA_ ["pipeline", "setting"] (spRes)) (mA_ : mg "resolved" = some (.ref fA_)) (kA_ : PySem.W.keepIn K (.ref fA_) = true) (bA_ : Binds K fdA_ ["pipeline", "setting"] [])
    (GB_ : FnOk P w K mg base CX0 17 fB_ fdB_ ["tables", "columns", "step"] (spCb)) (mB_ : mg "columns_behind" = some (.ref fB_)) (kB_ : PySem.W.keepIn K (.ref fB_) = true) (bB_ : Binds K fdB_ ["tables", "columns", "step"] []) : FnOk P w K mg base CX0 18 f fd pRun ((spRun C)) := by
  refine F.ok scRun (fun vs H Q E h => ?_) (fun cdv A outer s H vs Q E hr h => ?_)
  · obtain ⟨D, p, sv, src, kvs0, tbs, rs, ps, qs, es, ys, sts, rfl, _⟩ := h
    rfl
  · obtain ⟨D, p, sv, src, kvs0, tbs, rs, ps, qs, es, ys, sts, rfl, hD, hT, wT, hsrc, hp, hs, ha, so, l10, k⟩ := h
    obtain ⟨a, cv, hv, hI, hL, cp, rw_, ln⟩ := hT.at wT.nd hsrc
    have ok := rw_.ok
    have wt := hT.w
    have lk := hT.len
    have l10t := wT.l
    have hrA_ : Room (1) _ := hr.mono (by first | decide | omega)
    have hrB_ : Room (17) _ := hr.mono (by first | decide | omega)
    obtain ⟨fI, fdI, GI, FI, bI⟩ := M.i
    obtain ⟨fC, fdC, hC, FC, bC⟩ := M.c
    have hr1 : Room 1 _ := hr.mono (by decide)
    have hr2 : Room (1 + 1) _ := hr.mono (by decide)
    have hr3 : Room 16 _ := hr.mono (by decide)
    have AS : ∀ f sp, spOf C g f = some sp → Held P w K mg base 16 f sp := fun f sp e => by
      unfold spOf at e
      obtain ⟨x, e1, rfl⟩ := Option.map_eq_some_iff.mp e
      have h1 := List.find?_some e1
      have h2 := List.mem_of_find?_eq_some e1
      rw [← show g x = f by simpa using h1]
      exact A3.h x h2
    refine ⟨_, (pss_cons (ps_asg (pe_call GA_ hrA_ (by rfl) mA_ kA_ bA_ .nil pass0 (pa_cons (pv 1) (pa_cons (pe_ifExp (pt_cmpR op_isN (pv 2) pe_non (nomark _)) pe_dnewK (pv 2)) pa_nil))) (pg_tup rfl (pgs_cons (pg_name (i := 3) scRun.nd rfl (.inl rfl)) (pgs_cons (pg_name (i := 4) scRun.nd rfl (.inl rfl)) pgs_nil))))
      (pss_cons (ps_lock (ps_setDc (i := 5) (own := [("name", 6)]) (g := (gName 6)) (tt := tYes) (tk := (tVar 6)) (tv := (tMeth C "columns" (spTC C) [] E0 (tDGet (tVar 0) (tVar 6)) tNil)) (by rfl) scRun.nd rfl rfl (sw_dict rfl rfl rfl (by decide +kernel)) (pi_keys (pv 0)) (blkOk_by (own := [("name", 6)]) (N := nRun) (sc := defScope sRun) (by decide +kernel)) (fun _ _ _ _ _ => (pg_name (i := 6) scRun.nd rfl (.inl rfl))) (fun _ _ _ _ _ => pts_nil) (fun _ _ _ _ _ => (pv 6)) (fun _ _ _ _ _ => (pe_meth0 (pe_dget (hu_of hr) (pv 0) (pv 6) (fun _ _ => rfl)) GI.cls hC FC hr1 bC .nil pass0))))
      (pss_cons (ps_set (i := 7) scRun.nd rfl (Or.inl rfl) (pe_dget (hu_of hr) (pv 0) (pv 3) (fun _ _ => rfl)))
      (pss_cons (ps_for PassesOwn.never rfl (pi_tup (pv 4)) (pg_name (i := 8) scRun.nd rfl (.inl rfl)) (pss_cons (ps_set (i := 9) scRun.nd rfl (Or.inl rfl) (pe_ix ix_kdict (pe_glob (v := .ref rA) (by rfl) A3.gr rfl) (pe_ix ix_tup (pv 8) pe_int (fun _ _ => rfl)) (fun _ _ => rfl)))
      (pss_cons (ps_set (i := 10) scRun.nd rfl (Or.inl rfl) (pe_callA (i := 9) AS hr3 rfl (Or.inl rfl) (pa_cons (pv 0) (pa_cons (pv 7) (pa_cons (pv 8) pa_nil)))))
      (pss_one (ps_set (i := 7) scRun.nd rfl (Or.inl rfl) (pe_make GI.mkC FI hr2 (by rfl) GI.gC bI .nil pass0 (pa_cons (pe_call GB_ hrB_ (by rfl) mB_ kB_ bB_ .nil pass0 (pa_cons (pv 5) (pa_cons (pe_meth0 (pv 7) GI.cls hC FC hr1 bC .nil pass0) (pa_cons (pv 8) pa_nil)))) (pa_cons (pv 10) pa_nil))))))))
      (pss_one (ps_ret (pv 7))))))), ?_⟩
    refine ⟨_, rfl, _, rfl, rfl, _, rfl, ?_⟩
    rw [show decide (V.non = V.non) = true from rfl]
    refine iteT ?_
    intro S0 hS0
    have z0 := Same.upd (o := .dK []) hS0
    refine ⟨p, sv, _, src, ys, sts, rfl, z0 _ _ hp, z0 _ _ hs, ha.same z0, l10, fun q tv H1 s1 eq etv => ?_⟩
    refine ⟨q, _, rfl, SqT.of eq, rfl, _, _, rfl, _, _, rfl, rfl, ?_⟩
    dsimp only [gNil]
    have s01 := z0.trans s1
    have hD1 := s01 _ _ hD
    refine ⟨D, _, hD1, trivial, fun od => ?_⟩
    have eD : L2.upd H1 D (.frz od (.dK kvs0)) D = some (.frz od (.dK kvs0)) := upd_same
    have hT2 := TbsAt.upd (o := .frz od (.dK kvs0)) hD1 dK_n1 dK_n2 (hT.same s01)
    have oD : ∀ b o, b ≠ D → H1 b = some o → L2.upd H1 D (.frz od (.dK kvs0)) b = some o := fun b o n e => by rw [upd_ne n]; exact e
    generalize L2.upd H1 D (.frz od (.dK kvs0)) = H2 at eD hT2 oD ⊢
    refine ⟨_, rfl, D, od, rfl, .inl ⟨_, eD, fun S hS => dc_keys (d := D) (o := od) (kvs0 := kvs0) (fun i H' => (∃ kvs : List (Key × V), H' S = some (.dK kvs) ∧ TabC H' kvs ((osOf tbs).take i)) ∧ Same H2 H') ⟨⟨[], upd_same, .nil⟩, Same.upd hS⟩ (fun i H' _ pr => pr.2 _ _ eD) ?_ ?_⟩⟩
    · rintro i k0 v0 H3 hk ⟨⟨kvs, eS, tc⟩, s3⟩
      obtain ⟨z, cs0, rs0, et, rfl⟩ := hT2.get hk
      obtain ⟨a0, cv0, ev, h0, c0, _⟩ := hT2.at wT.nd (List.mem_of_getElem? et)
      have li := (List.getElem?_eq_some_iff.mp hk).1
      refine ⟨rfl, ?_⟩
      dsimp only [tYes]
      refine iteT ?_
      have h3 := h0.same s3
      obtain ⟨dx, bv, h1, h2, _⟩ := id h3
      have ltc := tc.len
      rw [List.length_take] at ltc
      have eo : (osOf tbs)[i]? = some (z, cs0) := by
        unfold osOf
        rw [List.getElem?_map, et]
        rfl
      have nz : z ∉ ((osOf tbs).take i).map (·.1) := by
        rw [List.map_take]
        refine take_nodup wT.os.nd ?_
        rw [List.getElem?_map, eo]
        rfl
      refine ⟨_, rfl, _, rfl, _, rfl, D, .ref a0, rfl, .inl ⟨_, Sum.inr z, .inr ⟨od, s3 _ _ eD⟩, rfl, ev.symm⟩, a0, dx, _, rfl, h1, rfl, a0, cv0, rs0, rfl, h3, kvs, Sum.inr z, rfl, eS, lt_size (by omega), ⟨_, upd_same, ?_⟩, fun b o e => by rw [upd_ne (ne_of_none e hS)]; exact s3 b o e⟩
      rw [List.take_add_one, eo]
      exact TabC.put ((c0.same s3).upd eS dK_n1.1 dK_n2) (TabC.upd eS dK_n1.1 dK_n2 tc) nz
    rintro H3 ⟨⟨kvsS, eS, tc⟩, s3⟩
    have losf : (osOf tbs).length = tbs.length := List.length_map _
    rw [lk, ← losf, List.take_length] at tc
    refine ⟨s3 _ _ eD, ?_⟩
    have nDS : D ≠ S := ne_of_none eD hS
    have s14 : Same H1 (L2.upd H3 D (.dK kvs0)) := fun b o e => by
      by_cases hb : b = D
      · subst hb
        rw [upd_same]
        rw [hD1] at e
        exact e
      · rw [upd_ne hb]
        exact s3 _ _ (oD b o hb e)
    have tc4 : TabC (L2.upd H3 D (.dK kvs0)) kvsS (osOf tbs) := TabC.upd (s3 _ _ eD) frz_n1 frz_n2 tc
    have eS4 : L2.upd H3 D (.dK kvs0) S = some (.dK kvsS) := by rw [upd_ne (Ne.symm nDS)]; exact eS
    dsimp only
    generalize L2.upd H3 D (.dK kvs0) = H4 at s14 tc4 eS4 ⊢
    have s04 := s01.trans s14
    have hI4 := hI.same s04
    refine ⟨_, rfl, _, rfl, D, .ref a, rfl, ?_, ?_⟩
    · have q := DGet.k (k := (Sum.inr src : Key)) (s04 _ _ hD)
      rw [hv] at q
      exact q
    clear hT2 oD eD s3 eS
    refine ⟨_, rfl, tv, rfl, ⟨_, SqT.of (s14 _ _ etv)⟩, for_tup (K := K) (a := tv) (xs := ys) (fun i σ H' => (∃ (ai cvi : Addr) (rsi : RowsL) (qi : CsL) (x6 x8 x9 x10 : Option V), σ = [some (.ref D), some (.ref p), some .non, some (.str src), some (.ref tv), some (.ref S), x6, some (.ref ai), x8, x9, x10] ∧ IsTb C H' ai cvi rsi ∧ CA H' cvi qi ∧ ColP qi ∧ RowW qi (rsi.map (·.2)) ∧ rsi.length ≤ 1000 ∧ Runs tbs qi (rsi.map (·.2)) (sts.drop i) qs es) ∧ Same H4 H') ⟨⟨a, cv, rs, ps, _, _, _, _, rfl, hI4, hL.same s04, cp, rw_, ln, so⟩, Same.refl _⟩ (fun i σ H' _ pr => SqT.of (pr.2 _ _ (s14 _ _ etv))) ?_ ?_⟩
    · rintro i y σ H5 hy ⟨⟨ai, cvi, rsi, qi, x6, x8, x9, x10, rfl, hI5, hL5, cp5, rw5, ln5, so5⟩, s5⟩
      have s05 := s04.trans s5
      obtain ⟨b, st, e3, rfl, d3⟩ := (ha.same s05).get hy
      obtain ⟨xs, e4, lx⟩ := ps_at d3
      have li := (List.getElem?_eq_some_iff.mp e3).1
      rw [show sts.drop i = st :: sts.drop (i + 1) by rw [List.drop_eq_getElem_cons li]; obtain ⟨_, q⟩ := List.getElem?_eq_some_iff.mp e3; rw [q]] at so5
      cases so5 with
      | @cons _ q2 _ _ _ _ _ ld pl l6 so6 =>
      have gk := A3.d _ (pl_w st)
      refine ⟨_, rfl, b, _, _, .str st.w, rfl, rfl, SqT.of e4, at_of (j := 0) rfl rfl, rA, st.w, _, rfl, rfl, gk, ?_⟩
      refine ⟨g st.w, spRb C st.w, rfl, spOf_at A3 (pl_w st), _, rfl, _, rfl, _, rfl, D, ai, cvi, b, kvs0, tbs, qi, q2, st, rsi, rfl, s05 _ _ hD, hT.same s05, wT, hI5, hL5, cp5, rw5, ln5, d3, ld, rfl, pl, fun l H6 rs6 s6 e6 ra6 em6 => ?_⟩
      have hI6 := hI5.same s6
      obtain ⟨dx, bv, h1, h2, h3⟩ := id hI6
      refine ⟨_, rfl, _, rfl, ai, dx, _, rfl, h1, rfl, ai, cvi, _, rfl, hI6, _, rfl, S, kvsS, osOf tbs, cvi, b, qi, q2, st, rfl, s6 _ _ (s5 _ _ eS4), tc4.same (s5.trans s6), wT.os, hL5.same s6, cp5, d3.same s6, ld, fun cv7 H7 s7 hL7 => ⟨_, rfl, ?_⟩⟩
      dsimp only [tNil]
      have ln5' : (rsi.map (·.2)).length ≤ 1000 := by rw [List.length_map]; exact ln5
      have rw6 : RowW q2 (rs6.map (·.2)) := by rw [em6]; exact ld.rows cp5 rw5 wt wT.nd ln5' pl
      refine mk_tb (.inl (s7 _ _ e6)) (ra6.same s7) rw6.ok fun a2 H8 s8 _ hI8 => ?_
      have l6' : rs6.length ≤ 1000 := by
        have h1 := congrArg List.length em6
        rw [List.length_map] at h1
        omega
      exact ⟨⟨a2, cv7, rs6, q2, _, _, _, _, rfl, hI8, hL7.same s8, ld.go cp5, rw6, l6', by rw [em6]; exact so6⟩, s5.trans (s6.trans (s7.trans s8))⟩
    · rintro σ H5 ⟨⟨ai, cvi, rsi, qi, x6, x8, x9, x10, rfl, hI5, hL5, cp5, rw5, ln5, so5⟩, s5⟩
      rw [ha.len, List.drop_length] at so5
      have fin : ∀ {ps qs : CsL} {ds es : List RowD} {l : List Ps}, Runs tbs ps ds l qs es → l = [] → ps = qs ∧ ds = es := fun h e => by
        cases h with
        | nil => exact ⟨rfl, rfl⟩
        | cons _ _ _ _ => cases e
      obtain ⟨rfl, e2⟩ := fin so5 rfl
      subst e2
      exact ⟨_, rfl, k ai cvi rsi H5 (s04.trans s5) hI5 hL5 cp5 rw5 rfl⟩
end
end
end K20
set_option Elab.async false
set_option linter.all false
set_option maxRecDepth 100000
set_option maxHeartbeats 4000000
namespace K20
open PySem PySem.Spec PyProof.Rows L2 Lc
abbrev rI1 : List V → Hp → VK → Prop := fun xs H Q => (∃ i, xs = [.int i] ∧ Q (.int i) H) ∨ ∃ k, xs = [.bl k] ∧ Q (.int (if k then 1 else 0)) H
def spKs : Sp := fun vs H Q _ => ∃ (t c L : Addr) (ps : CsL), vs = [.ref t, .ref L] ∧ TapeL c H t ∧ CA H L ps ∧ ColP ps ∧ ∀ (r : Addr) (v : V) (C : Addr) (p : Ps) (qs : CsL) (H' : Hp), H' r = some (.tup [v, .ref C]) → DhT t H' v p.d → CA H' C qs → (∀ os, Lead os ps p qs) → TapeL c H' t → SameB t H H' → Q (.ref r) H'
def dkc (ps : CsL) : List (Key × V) := ps.map fun p => ((Sum.inr p.1 : Key), V.str p.2)
theorem merge_new : ∀ (more acc : List (Key × V)), ((acc ++ more).map (·.1)).Nodup → mergeK acc more = acc ++ more
  | [], acc, _ => (List.append_nil acc).symm
  | e :: r, acc, h => by
    have hn : (acc.any fun kv => decide (kv.1 = e.1)) = false := by
      rw [List.any_eq_false]
      intro x hx
      rw [List.map_append, List.nodup_append] at h
      have := h.2.2 x.1 (List.mem_map_of_mem hx) e.1 (List.mem_map_of_mem List.mem_cons_self)
      simpa using this
    have e1 : putK acc e.1 e.2 = acc ++ [e] := by
      unfold putK
      rw [hn, if_neg (by decide)]
    show mergeK (putK acc e.1 e.2) r = _
    rw [e1, merge_new r (acc ++ [e]) (by rw [List.append_assoc]; exact h), List.append_assoc]
    rfl
theorem dkc_merge {ps : CsL} (h : (nms ps).Nodup) : mergeK [] (dkc ps) = dkc ps := by
  refine merge_new (dkc ps) [] ?_
  rw [List.nil_append]
  unfold dkc
  rw [List.map_map]
  have e : ((fun x : Key × V => x.1) ∘ fun p : Str × Str => ((Sum.inr p.1 : Key), V.str p.2)) = (Sum.inr : Str → Key) ∘ (fun p : Str × Str => p.1) := rfl
  rw [e, ← List.map_map]
  exact nodup_map h fun a _ b _ q => by injection q
theorem dkc_get (x : Str) : ∀ ps : CsL, valV (dkc ps) (Sum.inr x : Key) = (ps.find? fun p => decide (p.1 = x)).map fun p => .str p.2
  | [] => rfl
  | p :: ps => by
    have ih := dkc_get x ps
    unfold dkc at ih ⊢
    rw [List.map_cons, List.find?_cons]
    by_cases q : p.1 = x
    · rw [valV_pos (by rw [q]), decide_eq_true q]
      rfl
    · rw [valV_neg (fun w => q (by injection w)), decide_eq_false q]
      exact ih
theorem dkc_in {ps : CsL} {x : Str} (h : x ∈ nms ps) : valV (dkc ps) (Sum.inr x : Key) = some (.str (kdOf ps x)) := by
  rw [dkc_get]
  unfold kdOf
  obtain ⟨p, hp, rfl⟩ := List.mem_map.mp h
  cases e : ps.find? fun q => decide (q.1 = p.1) with
  | none => exact absurd (List.find?_eq_none.mp e p hp) (by simp)
  | some q => rfl
theorem dkc_no {ps : CsL} {x : Str} (h : x ∉ nms ps) : valV (dkc ps) (Sum.inr x : Key) = none := by
  rw [dkc_get]
  cases e : ps.find? fun q => decide (q.1 = x) with
  | none => rfl
  | some q =>
    have h1 := List.find?_some e
    have h2 := List.mem_of_find?_eq_some e
    exact absurd (by rw [← show q.1 = x by simpa using h1]; exact List.mem_map_of_mem h2) h
theorem cols_refs {K : PySem.W.Frag} {H : Hp} : ∀ {xs : List V} {ps : CsL}, Cols H xs ps → ∃ as : List Addr, xs = as.map V.ref ∧ Paired (fun (p : Addr) (kv : Key × V) => SqT K H p [kV kv.1, kv.2]) as (dkc ps)
  | _, _, .nil => ⟨[], rfl, .nil⟩
  | _, _, .cons (a := a) e r => by
    obtain ⟨as, h1, h2⟩ := cols_refs (K := K) r
    exact ⟨a :: as, by rw [h1]; rfl, .cons (SqT.of e) h2⟩
abbrev teSel : TE := tTup (tCons (tVar 4) (tCons (tDGet (tVar 7) (tVar 4)) tNil))
abbrev ttRen : TT := tTest (tOp rNe (tVar 4) (tVar 8))
abbrev teRen (K : PySem.W.Frag) : TE := tTup (tCons (tOp (rIxL K) (tLst (tCons (tVar 4) (tCons (tVar 9) tNil))) (tCB rI1 (tCons (tOp rEq (tVar 4) (tVar 8)) tNil))) (tCons (tVar 5) tNil))
theorem strsA {H : Hp} : ∀ (ns : List Str), DhAll H (vS ns) (ns.map PyData.str)
  | [] => .nil
  | z :: ns => .cons (.str _) (strsA ns)
abbrev teGr : TE := tTup (tCons (tVar 4) (tCons (tDGet (tVar 2) (tVar 4)) tNil))
abbrev teGt (K : PySem.W.Frag) : TE := tTup (tCons (tOp (rIxT K) (tVar 11) (tC (.int 0))) (tCons (tC (.str "number")) tNil))
theorem noL_strT (ns : List Str) : noL (strT ns) = true := by
  unfold strT
  rw [noL]
  refine noLs_all.mpr fun d hd => ?_
  obtain ⟨w, _, rfl⟩ := List.mem_map.mp hd
  rfl
theorem dl_sameT {t : Addr} {H H' : Hp} (s : SameT H H') : SameT (dl t H) (dl t H') := fun b xs e => dl_at (dl_of e).1 (s b xs (dl_of e).2)
theorem at_lastC {xs : List V} {x : V} : atI (xs ++ [x]) (-1) = some x := by
  unfold atI
  have hl : (xs ++ [x]).length = xs.length + 1 := by rw [List.length_append]; rfl
  rw [show ixN (xs ++ [x]).length (-1) = some xs.length from by
    unfold ixN
    rw [hl, if_neg (by decide), if_pos (by omega)]
    exact congrArg some (by omega)]
  simp
theorem upd_keep {H H1 : Hp} {D : Addr} {o : HO} (hD : H D = none) (s : ∀ b o, H b = some o → H1 b = some o) : ∀ b u, H b = some u → upd H1 D o b = some u := fun b u e => by rw [upd_ne (ne_of_none e hD)]; exact s b u e
theorem updB {t : Addr} {H H1 : Hp} {D : Addr} {o : HO} (hD : H D = none) (s : SameB t H H1) : SameB t H (upd H1 D o) := fun b u n e => by rw [upd_ne (ne_of_none e hD)]; exact s b u n e
section
variable {P : Program} {w : World} {K : PySem.W.Frag} {mg : Str → Option Value} {base : Heap} {f : Addr} {fd : FuncData}
abbrev sGrs : Stmt := top 134
abbrev nGrs : List Str := ["_law_tape_here", "_law_columns_here", "_law_kinds", "_law_keys", "_law_name_here", "_law_kind", "_law_names", "_law_totals", "_law_k", "_law_function", "_law_behind", "_law_total"]
abbrev pGrs : List Str := ["_law_tape_here", "_law_columns_here"]
theorem scGrs : FnScope nGrs pGrs (defScope sGrs) := ⟨rfl, rfl, rfl, by decide +kernel, rfl, by decide +kernel, by decide +kernel⟩
section
variable {fA_ fB_ fC_ : Addr} {fdA_ fdB_ fdC_ : FuncData}
theorem ok_Grs (F : Fun K "_law_group_step" "_law_group_step" sGrs f fd) (T : Bt mg)
    (GA_ : FnOk P w K mg base CX0 1 fA_ fdA_ ["_law_tape_here", "_law_many"] (spDrawL)) (mA_ : mg "_law_draw" = some (.ref fA_)) (kA_ : PySem.W.keepIn K (.ref fA_) = true) (bA_ : Binds K fdA_ ["_law_tape_here", "_law_many"] [])
    (GB_ : FnOk P w K mg base CX0 2 fB_ fdB_ ["_law_tape_here", "_law_items", "_law_many"] (spPk)) (mB_ : mg "_law_pick" = some (.ref fB_)) (kB_ : PySem.W.keepIn K (.ref fB_) = true) (bB_ : Binds K fdB_ ["_law_tape_here", "_law_items", "_law_many"] [])
    (GC_ : FnOk P w K mg base CX0 3 fC_ fdC_ ["_law_tape_here", "_law_taken"] (spFr)) (mC_ : mg "_law_fresh" = some (.ref fC_)) (kC_ : PySem.W.keepIn K (.ref fC_) = true) (bC_ : Binds K fdC_ ["_law_tape_here", "_law_taken"] []) : FnOk P w K mg base CX0 8 f fd pGrs (spKs) := by
  refine F.ok scGrs (fun vs H Q E h => ?_) (fun cdv A outer s H vs Q E hr h => ?_)
  · obtain ⟨t, c, L, ps, rfl, _⟩ := h
    rfl
  · obtain ⟨t, c, L, ps, rfl, hT, hL, cp, k⟩ := h
    have hrA_ : Room (1) _ := hr.mono (by first | decide | omega)
    have hrB_ : Room (2) _ := hr.mono (by first | decide | omega)
    have hrC_ : Room (3) _ := hr.mono (by first | decide | omega)
    refine ⟨_, (Evl.pss_cut (ps_set (i := 2) scGrs.nd rfl (Or.inr rfl) (pe_callTy (call_dictZ rfl) (by rfl) T.dict boot_dict (pa_cons (pv 1) pa_nil)))
      (pss_cons (ps_set (i := 3) scGrs.nd rfl (Or.inl rfl) (pe_lst pa_nil))
      (Evl.pss_cut (ps_if (pt_cmpR op_gt (pe_call GA_ hrA_ (by rfl) mA_ kA_ bA_ .nil pass0 (pa_cons (pv 0) (pa_cons pe_int pa_nil))) pe_int (nomark _)) (pss_one (ps_set (i := 3) scGrs.nd rfl (Or.inl rfl) (pe_call GB_ hrB_ (by rfl) mB_ kB_ bB_ .nil pass0 (pa_cons (pv 0) (pa_cons (pe_lc (own := [("_law_name_here", 4), ("_law_kind", 5)]) (g := (gTup K 2 (gCons (gName 4) (gCons (gName 5) gNil)))) (tt := tYes) (te := tVar 4) (by rfl) scGrs.nd (pi_tup (pv 1)) (blkOk_by (own := [("_law_name_here", 4), ("_law_kind", 5)]) (N := nGrs) (sc := defScope sGrs) (by decide +kernel)) (fun _ _ _ _ _ => (pg_tup rfl (pgs_cons (pg_name (i := 4) scGrs.nd rfl (.inl rfl)) (pgs_cons (pg_name (i := 5) scGrs.nd rfl (.inl rfl)) pgs_nil)))) (fun _ _ _ _ _ => pts_nil) (fun _ _ _ _ _ => (pv 4))) (pa_cons pe_int pa_nil)))))) pss_nil)
      (pss_cons (ps_set (i := 6) scGrs.nd rfl (Or.inl rfl) (pe_callTy call_list_of (by rfl) T.list boot_list (pa_cons (pv 3) pa_nil)))
      (pss_cons (ps_set (i := 7) scGrs.nd rfl (Or.inl rfl) (pe_lst pa_nil))
      (Evl.pss_cut (ps_for PassesOwn.never rfl (pi_range1 (by rfl) T.range (pa_cons (pe_op op_add pe_int (pe_call GA_ hrA_ (by rfl) mA_ kA_ bA_ .nil pass0 (pa_cons (pv 0) (pa_cons (pe_callB (call_min2 rfl) (by rfl) T.min (by decide +kernel) (pa_cons pe_int (pa_cons (pe_op op_sub pe_int (pe_callB call_len_seq (by rfl) T.len PySem.boot_len (pa_cons (pv 3) pa_nil))) pa_nil))) pa_nil)))) pa_nil)) (pg_name (i := 8) scGrs.nd rfl (.inl rfl)) (pss_cons (ps_set (i := 4) scGrs.nd rfl (Or.inl rfl) (pe_ix ix_tup (pe_ix ix_tup (pv 1) (pe_call GA_ hrA_ (by rfl) mA_ kA_ bA_ .nil pass0 (pa_cons (pv 0) (pa_cons (pe_callB call_len_seq (by rfl) T.len PySem.boot_len (pa_cons (pv 1) pa_nil)) pa_nil))) (fun _ _ => rfl)) pe_int (fun _ _ => rfl)))
      (pss_cons (ps_set (i := 9) scGrs.nd rfl (Or.inl rfl) (pe_ix ix_list (pe_lst (pa_cons pe_str (pa_cons pe_str (pa_cons pe_str (pa_cons pe_str (pa_cons pe_str (pa_cons pe_str pa_nil))))))) (pe_call GA_ hrA_ (by rfl) mA_ kA_ bA_ .nil pass0 (pa_cons (pv 0) (pa_cons pe_int pa_nil))) (fun _ _ => rfl)))
      (Evl.pss_cut (ps_if (pt_cmpR op_ne (pe_dget (hu_of hr) (pv 2) (pv 4) (fun _ _ => rfl)) pe_str (nomark _)) (pss_one (ps_set (i := 9) scGrs.nd rfl (Or.inl rfl) pe_str)) pss_nil)
      (pss_cons (ps_expr (pe_bm PySem.F.plainAttrs_list PySem.F.slot_list_append PySem.F.type_list_append mt_append (pv 6) (pa_cons (pe_call GC_ hrC_ (by rfl) mC_ kC_ bC_ .nil pass0 (pa_cons (pv 0) (pa_cons (pv 6) pa_nil))) pa_nil)))
      (pss_one (ps_expr (pe_bm PySem.F.plainAttrs_list PySem.F.slot_list_append PySem.F.type_list_append mt_append (pv 7) (pa_cons (pe_tup (pa_cons (pe_ix ix_list (pv 6) (pe_un un_neg pe_int) (fun _ _ => rfl)) (pa_cons (pv 9) (pa_cons (pv 4) pa_nil)))) pa_nil)))))))))
      (pss_cons (ps_set (i := 10) scGrs.nd rfl (Or.inl rfl) (pe_op op_cat (pe_lc (own := [("_law_name_here", 4)]) (g := (gName 4)) (tt := tYes) (te := teGr) (by rfl) scGrs.nd (pi_list (pv 3)) (blkOk_by (own := [("_law_name_here", 4)]) (N := nGrs) (sc := defScope sGrs) (by decide +kernel)) (fun _ _ _ _ _ => (pg_name (i := 4) scGrs.nd rfl (.inl rfl))) (fun _ _ _ _ _ => pts_nil) (fun _ _ _ _ _ => (pe_tup (pa_cons (pv 4) (pa_cons (pe_dget (hu_of hr) (pv 2) (pv 4) (fun _ _ => rfl)) pa_nil))))) (pe_lc (own := [("_law_total", 11)]) (g := (gName 11)) (tt := tYes) (te := teGt K) (by rfl) scGrs.nd (pi_list (pv 7)) (blkOk_by (own := [("_law_total", 11)]) (N := nGrs) (sc := defScope sGrs) (by decide +kernel)) (fun _ _ _ _ _ => (pg_name (i := 11) scGrs.nd rfl (.inl rfl))) (fun _ _ _ _ _ => pts_nil) (fun _ _ _ _ _ => (pe_tup (pa_cons (pe_ix ix_tup (pv 11) pe_int (fun _ _ => rfl)) (pa_cons pe_str pa_nil)))))))
      (pss_one (ps_ret (pe_tup (pa_cons (pe_tup (pa_cons pe_str (pa_cons (pe_callTy call_tuple_of (by rfl) T.tuple boot_tuple (pa_cons (pv 3) pa_nil)) (pa_cons (pe_callTy call_tuple_of (by rfl) T.tuple boot_tuple (pa_cons (pv 7) pa_nil)) pa_nil)))) (pa_cons (pe_callTy call_tupleZ (by rfl) T.tuple boot_tuple (pa_cons (pv 10) pa_nil)) pa_nil)))))))))))), ?_⟩
    have two : 2 ≤ sizeLine := by decide
    have one : 1 ≤ sizeLine := by decide
    have three : 3 ≤ sizeLine := by decide
    have four : 4 ≤ sizeLine := by decide
    obtain ⟨xs, zL, cc⟩ := hL
    have l8 := cp.l8
    have l1 := cp.l1
    have lx := cc.len
    have lnm : (nms ps).length = ps.length := List.length_map _
    have ln : (vS (nms ps)).length = ps.length := by rw [List.length_map, lnm]
    refine ⟨fun σ H' => ∃ d : Addr, σ = [some (.ref t), some (.ref L), some (.ref d), none, none, none, none, none, none, none, none, none] ∧ H' d = some (.dK (dkc ps)) ∧ H d = none ∧ Same H H', ?_, ?_⟩
    · obtain ⟨as, ex, pr⟩ := cols_refs (K := K) cc
      refine ⟨_, rfl, L, as, dkc ps, rfl, by rw [← ex]; exact zL, pr, fun d hd => ?_⟩
      rw [dkc_merge cp.nd]
      exact ⟨d, rfl, upd_same, hd, Same.upd hd⟩
    rintro σ H1 ⟨d, rfl, ed, hd, s1⟩
    have T1 := hT.same s1
    have nd := hT.tape.ne hd
    have S1 := Same.b t s1
    refine ⟨Nat.zero_le _, fun G0 hG0 => ?_⟩
    have zG := Same.upd (o := .lst []) hG0
    refine ⟨fun σ H' => ∃ (G : Addr) (gs : List Str), σ = [some (.ref t), some (.ref L), some (.ref d), some (.ref G), none, none, none, none, none, none, none, none] ∧ H' G = some (.lst (vS gs)) ∧ G ≠ t ∧ (∀ g ∈ gs, g ∈ nms ps) ∧ gs.Nodup ∧ gs.length ≤ 3 ∧ H' d = some (.dK (dkc ps)) ∧ TapeL c H' t ∧ SameB t H H', ?_, ?_⟩
    · refine ⟨_, rfl, t, c, _, rfl, T1.same zG, by decide, big1000 (by decide) (by decide), fun u H2 u0 u5 T2 S2 => ⟨_, _, rfl, rfl, _, rfl, ite2 (fun _ => ?_) (fun _ => ?_)⟩⟩
      · have S02 := (S1.trans (Same.b t zG)).trans S2
        have z2 := zL.b hT.tape S02
        have c2 := cc.b hT.tape S02
        refine ⟨_, rfl, _, rfl, L, rfl, ⟨_, z2.sq⟩, fun W hW => lc_tup (K := K) (a := L) (xs := xs) (fun i H' => H' W = some (.lst (vS ((nms ps).take i))) ∧ Same H2 H') ⟨upd_same, Same.upd hW⟩ (fun i H' _ pr => (z2.same pr.2).sq) ?_ ?_⟩
        · rintro i x H3 hx ⟨hW1, s3⟩
          obtain ⟨a, z, kk, rfl, ea, ep⟩ := c2.get _ _ hx
          refine ⟨a, _, rfl, SqT.of (s3 _ _ ea), rfl, _, _, rfl, _, _, rfl, rfl, rfl, ?_⟩
          dsimp only [tYes]
          exact iteT ⟨_, rfl, nm_turn hW hW1 ep cp.l8 s3⟩
        rintro H3 ⟨hW1, s3⟩
        rw [show xs.length = (nms ps).length by rw [lx, lnm], List.take_length] at hW1
        have T3 := T2.same s3
        refine ⟨t, c, W, nms ps, _, rfl, T3, hW1, cp.nd, by omega, by decide, by decide, fun G gs H4 eG gG gin gnd gne gl T4 S4 => ?_⟩
        have S04 := (S02.trans (Same.b t s3)).trans S4
        exact ⟨G, gs, rfl, eG, T3.tape.ne gG, gin, gnd, by omega, S4 _ _ nd (s3 _ _ (S2 _ _ nd (zG _ _ ed))), T4, S04⟩
      · exact ⟨G0, [], rfl, S2 _ _ (T1.tape.ne hG0) upd_same, T1.tape.ne hG0, nofun, List.nodup_nil, Nat.zero_le _, S2 _ _ nd (zG _ _ ed), T2, (S1.trans (Same.b t zG)).trans S2⟩
    clear ed T1 S1 s1 zG hG0 hd
    rintro σ H1 ⟨G, gs, rfl, eG, nG, gin, gnd, gl, ed, T1, S1⟩
    refine ⟨_, rfl, G, _, rfl, .inl (SqL.of eG), fun N hN => ⟨Nat.zero_le _, fun Z hZ => ?_⟩⟩
    have zN := Same.upd (o := .lst (vS gs)) hN
    have zZ := Same.upd (o := .lst []) hZ
    have eN2 := zZ _ _ (show upd H1 N (.lst (vS gs)) N = some (.lst (vS gs)) from upd_same)
    have nNZ : N ≠ Z := ne_of_none (show upd H1 N (.lst (vS gs)) N = some (.lst (vS gs)) from upd_same) hZ
    have eZ2 : upd (upd H1 N (.lst (vS gs))) Z (.lst []) Z = some (.lst []) := upd_same
    have gZ := Same.gone zN hZ
    have nNt := T1.tape.ne hN
    have nZt := T1.tape.ne gZ
    obtain ⟨yy, hc⟩ := T1.list
    have nNc : N ≠ c := Ne.symm (ne_of_none hc hN)
    have nZc : Z ≠ c := Ne.symm (ne_of_none hc gZ)
    have z2 := zN.trans zZ
    have T2 := T1.same z2
    have S12 := Same.b t z2
    generalize upd (upd H1 N (.lst (vS gs))) Z (.lst []) = H2 at eN2 eZ2 z2 T2 S12 ⊢
    clear zN zZ
    let M := fun (i : Nat) (σ : L2.St) (H' : Hp) => (∃ (x4 x8 x9 : Option V) (us : List V) (ts : List (Str × Str × Str)), σ = [some (.ref t), some (.ref L), some (.ref d), some (.ref G), x4, none, some (.ref N), some (.ref Z), x8, x9, none, none] ∧ H' N = some (.lst (vS (gs ++ ts.map (·.1)))) ∧ H' Z = some (.lst us) ∧ DhAll (dl t H') us (ts.map totS3) ∧ ts.length = i ∧ (gs ++ ts.map (·.1)).Nodup ∧ ∀ x ∈ ts, (Sh 12 x.1 ∧ nmS x.1) ∧ x.2.1 ∈ fnS ∧ x.2.2 ∈ nms ps ∧ (x.2.1 ≠ "count" → kdOf ps x.2.2 = "number")) ∧ TapeL c H' t ∧ SameB t H1 H'
    have fnA : ∀ x : V, x ∈ ([.str "count", .str "sum", .str "mean", .str "median", .str "least", .str "greatest"] : List V) → ∃ g, x = .str g ∧ g ∈ fnS := fun x hx => by
      simp only [List.mem_cons, List.not_mem_nil, or_false] at hx
      rcases hx with rfl | rfl | rfl | rfl | rfl | rfl <;> exact ⟨_, rfl, by unfold fnS; simp⟩
    refine ⟨fun σ H' => ∃ i, 1 ≤ i ∧ i ≤ 6 ∧ gs.length + i ≤ 8 ∧ M i σ H', ?_, ?_⟩
    · have lgs : (vS gs).length = gs.length := List.length_map _
      obtain ⟨mn, emn, mn6, mn8, mn1⟩ : ∃ mn : Int, (if (8 : Int) - ((vS gs).length : Nat) < 6 then (8 : Int) - ((vS gs).length : Nat) else 6) = mn ∧ mn ≤ 6 ∧ (gs.length : Int) + mn ≤ 8 ∧ 1 ≤ mn := by
        refine ⟨_, rfl, ?_, ?_, ?_⟩ <;> split <;> omega
      refine ⟨_, rfl, _, rfl, G, _, rfl, .inl (SqL.of (z2 _ _ eG)), _, _, rfl, rfl, _, _, rfl, ?_⟩
      rw [emn]
      refine ⟨t, c, _, rfl, T2, by omega, big1000 (by omega) (by omega), fun u H3 u0 u3 T3 S3 => ⟨_, _, rfl, rfl, 1 + u, rfl, by omega, by omega, for_range (n := (1 + u).toNat) M ⟨⟨none, none, none, [], [], rfl, by rw [List.map_nil, List.append_nil]; exact S3 _ _ nNt eN2, S3 _ _ nZt eZ2, .nil, rfl, by rw [List.map_nil, List.append_nil]; exact gnd, nofun⟩, T3, S12.trans S3⟩ ?_ ?_⟩⟩
      · clear eN2 eZ2 z2 T2 S12 T3 S3
        rintro i σ H3 hi ⟨⟨x4, x8, x9, us, ts, rfl, eN, eZ, du, lt, ndt, okt⟩, T3, S3⟩
        have i3 : i < 6 ∧ gs.length + i < 8 := by omega
        have lN : (gs ++ ts.map (·.1)).length ≤ 8 := by rw [List.length_append, List.length_map]; omega
        have S03 := S1.trans S3
        have z3 := zL.b hT.tape S03
        refine ⟨_, rfl, _, rfl, _, rfl, L, _, rfl, .inr z3.sq, t, c, _, rfl, T3, by omega, big1000 (by omega) (by omega), fun j H4 j0 j1 T4 S4 => ?_⟩
        have z4 := z3.b T3.tape S4
        have c4 := (cc.b hT.tape S03).b T3.tape S4
        obtain ⟨y, hy⟩ : ∃ y, xs[j.toNat]? = some y := ⟨_, List.getElem?_eq_getElem (by omega)⟩
        obtain ⟨a, z, kk, rfl, ea, ep⟩ := c4.get _ _ hy
        have zm : z ∈ nms ps := List.mem_map_of_mem (f := (·.1)) (List.mem_of_getElem? ep)
        refine ⟨L, xs, _, .ref a, rfl, rfl, z4.sq, at_of (j := j.toNat) (by omega) hy, a, _, _, .str z, rfl, rfl, SqT.of ea, rfl, ?_⟩
        refine ⟨by show 6 ≤ sizeLine; decide, fun Y hY => ?_⟩
        have zY := Same.upd (o := .lst [.str "count", .str "sum", .str "mean", .str "median", .str "least", .str "greatest"]) hY
        have nY := T4.tape.ne hY
        refine ⟨_, rfl, t, c, _, rfl, T4.same zY, by decide, big1000 (by decide) (by decide), fun w H5 w0 w6 T5 S5 => ?_⟩
        obtain ⟨x, hx⟩ : ∃ x, ([.str "count", .str "sum", .str "mean", .str "median", .str "least", .str "greatest"] : List V)[w.toNat]? = some x := ⟨_, List.getElem?_eq_getElem (by show w.toNat < 6; omega)⟩
        obtain ⟨fn, rfl, hfn⟩ := fnA x (List.mem_of_getElem? hx)
        refine ⟨Y, _, _, .str fn, rfl, rfl, SqL.of (S5 _ _ nY upd_same), at_of (j := w.toNat) (by omega) hx, ?_⟩
        have S35 := S4.trans ((Same.b t zY).trans S5)
        have eN5 := S35 _ _ nNt eN
        have eZ5 := S35 _ _ nZt eZ
        have ed5 := S35 _ _ nd (S3 _ _ nd ed)
        have du5 := dtbA du S35
        refine ⟨fun σ H' => ∃ fn, σ = [some (.ref t), some (.ref L), some (.ref d), some (.ref G), some (.str z), none, some (.ref N), some (.ref Z), some (.int ((0 : Int) + (i : Int))), some (.str fn), none, none] ∧ H' = H5 ∧ fn ∈ fnS ∧ (fn ≠ "count" → kdOf ps z = "number"), ?_, ?_⟩
        · have q := DGet.k (k := (Sum.inr z : Key)) ed5
          rw [dkc_in zm] at q
          refine ⟨_, rfl, _, rfl, d, _, rfl, q, rfl, _, rfl, ?_⟩
          by_cases e : kdOf ps z = "number"
          · rw [show decide (V.str (kdOf ps z) = V.str "number") = true by rw [e]; exact decide_eq_true rfl]
            exact iteF ⟨fn, rfl, rfl, hfn, fun _ => e⟩
          · rw [show decide (V.str (kdOf ps z) = V.str "number") = false from decide_eq_false (fun h => e (by injection h))]
            exact iteT ⟨"count", rfl, rfl, by unfold fnS; simp, fun h => absurd rfl h⟩
        clear hfn hx fn
        rintro σ H ⟨fn, rfl, rfl, hfn, hcn⟩
        refine ⟨_, rfl, .inl ⟨rfl, _, SqL.of eN5⟩, _, rfl, _, rfl, t, c, N, gs ++ ts.map (·.1), rfl, T5, eN5, by omega, fun x H6 hx nx fz T6 S6 => ?_⟩
        have eN6 := S6 _ _ nNt eN5
        have eZ6 := S6 _ _ nZt eZ5
        refine ⟨N, _, _, rfl, rfl, eN6, by rw [List.length_map]; exact lt_size (by omega), ?_⟩
        have st1 := dl_sameT (t := t) (SameT.lst (o := .lst (vS (gs ++ ts.map (·.1)) ++ [.str x])) eN6)
        have ntot : noLs (ts.map totS3) = true := noLs_all.mpr fun d hd => by
          obtain ⟨w, _, rfl⟩ := List.mem_map.mp hd
          rfl
        have du7 := DhAll.t st1 (dtbA du5 S6) ntot
        have eZ7 : upd H6 N (.lst (vS (gs ++ ts.map (·.1)) ++ [.str x])) Z = some (.lst us) := by rw [upd_ne (Ne.symm nNZ)]; exact eZ6
        have eN7 : upd H6 N (.lst (vS (gs ++ ts.map (·.1)) ++ [.str x])) N = some (.lst (vS (gs ++ ts.map (·.1)) ++ [.str x])) := upd_same
        have T7 := T6.upd (o := .lst (vS (gs ++ ts.map (·.1)) ++ [.str x])) nNt nNc
        have S7 : SameB t H1 (upd H6 N (.lst (vS (gs ++ ts.map (·.1)) ++ [.str x]))) := updB hN (S3.trans (S35.trans S6))
        generalize upd H6 N (.lst (vS (gs ++ ts.map (·.1)) ++ [.str x])) = H7 at du7 eZ7 eN7 T7 S7 ⊢
        refine ⟨_, rfl, .inl ⟨rfl, _, SqL.of eZ7⟩, _, rfl, _, rfl, N, _, _, .str x, rfl, rfl, SqL.of eN7, at_lastC, _, rfl, _, rfl, three, fun q hq => ?_⟩
        have zq := Same.upd (o := .tup [.str x, .str fn, .str z]) hq
        have eZ8 := zq _ _ eZ7
        have lu : us.length = ts.length := by rw [du7.len, List.length_map]
        refine ⟨Z, _, _, rfl, rfl, eZ8, lt_size (by omega), ?_⟩
        have st2 := dl_sameT (t := t) (SameT.lst (o := .lst (us ++ [.ref q])) eZ8)
        refine ⟨⟨_, _, _, us ++ [.ref q], ts ++ [(x, fn, z)], rfl, ?_, upd_same, ?_, by rw [List.length_append, lt]; rfl, ?_, fun y hy => ?_⟩, (T7.same zq).upd nZt nZc, updB gZ (S7.trans (Same.b t zq))⟩
        · rw [upd_ne nNZ, zq _ _ eN7, List.map_append, ← List.append_assoc]
          unfold vS
          rw [List.map_append (l₁ := gs ++ ts.map (·.1))]
          rfl
        · rw [List.map_append]
          exact (DhAll.t st2 (dtsA du7 zq) ntot).append (.cons (Dh.t st2 (dh_tupT T7.tape (.cons (.str _) (.cons (.str _) (.cons (.str _) .nil))) hq) rfl) .nil)
        · rw [List.map_append, ← List.append_assoc, List.nodup_append]
          exact ⟨ndt, List.nodup_cons.mpr ⟨nofun, List.nodup_nil⟩, fun a ha b hb e => fz (by rw [List.map_singleton, List.mem_singleton] at hb; rw [← show a = x from e.trans hb]; exact ha)⟩
        · rcases List.mem_append.mp hy with hy | hy
          · exact okt y hy
          · rw [List.mem_singleton.mp hy]; exact ⟨⟨hx, nx⟩, hfn, zm, hcn⟩
      · intro σ H3 m3
        exact ⟨(1 + u).toNat, by omega, by omega, by omega, m3⟩
    clear eN2 eZ2 z2 T2 S12
    rintro σ H2 ⟨i, i1, i3, i8, ⟨x4, x8, x9, us, ts, rfl, eN, eZ, du, lt, ndt, okt⟩, T2, S2⟩
    have lu : us.length = ts.length := by rw [du.len, List.length_map]
    have eG2 := S2 _ _ nG eG
    have ed2 := S2 _ _ nd ed
    -- the columns behind it
    refine ⟨_, rfl, G, rfl, ⟨_, SqL.of eG2⟩, fun D hD => lc_list (K := K) (a := G) (xs := vS gs) (fun i H' => (∃ ys, H' D = some (.lst ys) ∧ Cols H' ys ((gs.take i).map fun n => (n, kdOf ps n))) ∧ Same H2 H') ⟨⟨[], upd_same, .nil⟩, Same.upd hD⟩ (fun i H' _ pr => SqL.of (pr.2 _ _ eG2)) ?_ ?_⟩
    · rintro i y H5 hi ⟨⟨ys, e5, c5⟩, s5⟩
      rw [List.getElem?_map] at hi
      obtain ⟨g, eg, rfl⟩ := Option.map_eq_some_iff.mp hi
      have l5 := c5.len
      rw [List.length_map, List.length_take] at l5
      have q := DGet.k (k := (Sum.inr g : Key)) (s5 _ _ ed2)
      rw [dkc_in (gin g (List.mem_of_getElem? eg))] at q
      refine ⟨rfl, ?_⟩
      dsimp only [tYes]
      refine iteT ?_
      change teGr _ _ _
      refine ⟨_, rfl, _, rfl, _, rfl, d, _, rfl, q, two, fun p hp => ?_⟩
      rw [List.take_add_one, eg, List.map_append]
      exact col_turn hD e5 c5 (by omega) s5 (Same.refl _) hp
    rintro H3 ⟨⟨ys, e3, c3⟩, s3⟩
    rw [List.length_map, List.take_length] at c3
    have eZ3 := s3 _ _ eZ
    have du3 := dtsA du s3
    refine ⟨_, rfl, Z, rfl, ⟨_, SqL.of eZ3⟩, fun D2 hD2 => lc_list (K := K) (a := Z) (xs := us) (fun i H' => (∃ ys, H' D2 = some (.lst ys) ∧ Cols H' ys ((ts.take i).map fun t => (t.1, ("number" : Str)))) ∧ Same H3 H') ⟨⟨[], upd_same, .nil⟩, Same.upd hD2⟩ (fun i H' _ pr => SqL.of (pr.2 _ _ eZ3)) ?_ ?_⟩
    · rintro i y H5 hi ⟨⟨ys, e5, c5⟩, s5⟩
      obtain ⟨dd, edd, hdd⟩ := du3.get i y hi
      rw [List.getElem?_map] at edd
      obtain ⟨tt, et, rfl⟩ := Option.map_eq_some_iff.mp edd
      obtain ⟨q, rfl, eq⟩ := totS3_dh hdd
      have l5 := c5.len
      rw [List.length_map, List.length_take] at l5
      refine ⟨rfl, ?_⟩
      dsimp only [tYes]
      refine iteT ?_
      change teGt K _ _ _
      refine ⟨_, rfl, q, _, _, .str tt.1, rfl, rfl, SqT.of (s5 _ _ (dl_of eq).2), rfl, two, fun p hp => ?_⟩
      rw [List.take_add_one, et, List.map_append]
      exact col_turn hD2 e5 c5 (by omega) s5 (Same.refl _) hp
    rintro H4 ⟨⟨ws, e4, c4⟩, s4⟩
    rw [lu, List.take_length] at c4
    have lys := c3.len
    have lws := c4.len
    rw [List.length_map] at lys lws
    refine ⟨D, D2, ys, ws, rfl, rfl, s4 _ _ e3, e4, by rw [lys, lws]; exact Nat.le_trans (show _ ≤ 8 by omega) (by decide), fun B hB => ?_⟩
    have zB := Same.upd (o := .lst (ys ++ ws)) hB
    have eB : upd H4 B (.lst (ys ++ ws)) B = some (.lst (ys ++ ws)) := upd_same
    have s24 := s3.trans (s4.trans zB)
    have c5 : Cols (upd H4 B (.lst (ys ++ ws))) (ys ++ ws) (gs.map (fun n => (n, kdOf ps n)) ++ ts.map fun t => (t.1, ("number" : Str))) := (c3.t (SameT.of (s4.trans zB))).app (c4.t (SameT.of zB))
    have du5 := dtsA du s24
    have T5 := T2.same s24
    have S5 := S2.trans (Same.b t s24)
    have eG5 := s24 _ _ eG2
    have eZ5 := s24 _ _ eZ
    generalize upd H4 B (.lst (ys ++ ws)) = H5 at eB c5 du5 T5 S5 eG5 eZ5 ⊢
    refine ⟨_, rfl, G, _, rfl, .inl ⟨SqL.of eG5, fun p hp => ⟨_, rfl, Z, _, rfl, .inl ⟨SqL.of (Same.upd hp _ _ eZ5), fun q hq => ⟨three, fun r hr => ?_⟩⟩⟩⟩⟩
    have zp := Same.upd (o := .tup (vS gs)) hp
    have zq := Same.upd (o := .tup us) hq
    have zr := Same.upd (o := .tup [.str "group", .ref p, .ref q]) hr
    have T6 := T5.same zp
    have T7 := T6.same zq
    have dv : DhT t (upd (upd (upd H5 p (.tup (vS gs))) q (.tup us)) r (.tup [.str "group", .ref p, .ref q])) (.ref r) (Ps.d (.group gs ts)) := dh_tupT T7.tape (.cons (.str _) (.cons (dts (dh_tupT (vs := vS gs) T5.tape (strsA gs) hp) zq) (.cons (dh_tupT T6.tape (dtsA du5 zp) hq) .nil))) hr
    have z3 := zp.trans (zq.trans zr)
    have eB8 := z3 _ _ eB
    have T8 := T5.same z3
    have c8 := c5.t (SameT.of z3)
    have S8 := S5.trans (Same.b t z3)
    generalize upd (upd (upd H5 p (.tup (vS gs))) q (.tup us)) r (.tup [.str "group", .ref p, .ref q]) = H8 at dv eB8 T8 c8 S8 ⊢
    refine ⟨_, rfl, B, _, rfl, SqL.of eB8, fun C ob hC d1 d2 => ⟨two, fun s hs => ?_⟩⟩
    have zC := Same.upd (o := .frz ob (.tup (ys ++ ws))) hC
    have zs := Same.upd (o := .tup [.ref r, .ref C]) hs
    have zall := zC.trans zs
    have tl' : 1 ≤ ts.length ∧ ts.length ≤ 6 := ⟨by omega, by omega⟩
    exact k s (.ref r) C (.group gs ts) _ _ upd_same (dts dv zall) ⟨ys ++ ws, ⟨ob, d1, d2, zs _ _ upd_same⟩, c8.t (SameT.of zall)⟩ (fun os => .group gin ⟨fun x hx => (cp.nm (gin x hx)).2, fun x hx => ⟨(okt x hx).1.2, (okt x hx).2.1, (cp.nm (okt x hx).2.2.1).2⟩, ndt, gl, tl', by omega⟩ fun x hx => ⟨(okt x hx).1.1, (okt x hx).2.2⟩) (T8.same zall) ((S1.trans S8).trans (Same.b t zall))
end
end
end K20
set_option Elab.async false
set_option linter.all false
set_option maxRecDepth 100000
set_option maxHeartbeats 4000000
namespace K20
open PySem PySem.Spec PyProof.Rows L2 Lc
/-! ## the rows that the law draws -/
def spRws : Sp := fun vs H Q _ => ∃ (t c L : Addr) (ps : CsL) (m : Int) (b : Bool), vs = [.ref t, .ref L, .int m, .bl b] ∧ TapeL c H t ∧ CA H L ps ∧ ColP ps ∧ 0 ≤ m ∧ m ≤ 60 ∧ ∀ (R : Addr) (rs : RowsL) (H' : Hp), H' R = some (.lst (rs.map (·.1))) → R ≠ t → RowsAt (dl t H') rs → RowW ps (rs.map (·.2)) → (rs.length : Int) ≤ m → TapeL c H' t → SameB t H H' → Q (.ref R) H'
abbrev teRws : TE := tTup (tCons (tCall spVals [] E0 (tCons (tVar 0) (tCons (tVar 1) (tCons (tVar 3) tNil)))) (tCons (tCall spFar [] E0 (tCons (tVar 0) tNil)) tNil))
mutual
theorem dh_dl {t : Addr} {H : Hp} (hT : ∃ xs, H t = some (.lst xs)) : ∀ {v : V} {d : PyData}, Dh H v d → noL d = true → Dh (dl t H) v d
  | _, _, .non, _ => .non
  | _, _, .bl b, _ => .bl b
  | _, _, .int i, _ => .int i
  | _, _, .str x, _ => .str x
  | _, _, .tup e h, n => .tup (dl_at (fun z => by obtain ⟨xs, q⟩ := hT; rw [z, q] at e; cases e) e) (dhA_dl hT h (by simpa [noL] using n))
  | _, _, .lst e h, n => by simp [noL] at n
  | _, _, .dct e, _ => .dct (dl_at (fun z => by obtain ⟨xs, q⟩ := hT; rw [z, q] at e; cases e) e)
theorem dhA_dl {t : Addr} {H : Hp} (hT : ∃ xs, H t = some (.lst xs)) : ∀ {vs : List V} {ds : List PyData}, DhAll H vs ds → noLs ds = true → DhAll (dl t H) vs ds
  | _, _, .nil, _ => .nil
  | _, _, .cons h r, n => by
    rw [noLs, Bool.and_eq_true] at n
    exact .cons (dh_dl hT h n.1) (dhA_dl hT r n.2)
end
section
variable {P : Program} {w : World} {K : PySem.W.Frag} {mg : Str → Option Value} {base : Heap} {f : Addr} {fd : FuncData}
abbrev sRws : Stmt := top 138
abbrev nRws : List Str := ["_law_tape_here", "_law_columns_here", "_law_many", "_law_wide", "_law_k"]
abbrev pRws : List Str := ["_law_tape_here", "_law_columns_here", "_law_many", "_law_wide"]
theorem scRws : FnScope nRws pRws (defScope sRws) := ⟨rfl, rfl, rfl, by decide +kernel, rfl, by decide +kernel, by decide +kernel⟩
section
variable {fA_ fB_ fC_ : Addr} {fdA_ fdB_ fdC_ : FuncData}
theorem ok_Rws (F : Fun K "_law_rows" "_law_rows" sRws f fd) (T : Bt mg)
    (GA_ : FnOk P w K mg base CX0 4 fA_ fdA_ ["_law_tape_here", "_law_columns_here", "_law_wide"] (spVals)) (mA_ : mg "_law_values" = some (.ref fA_)) (kA_ : PySem.W.keepIn K (.ref fA_) = true) (bA_ : Binds K fdA_ ["_law_tape_here", "_law_columns_here", "_law_wide"] [])
    (GB_ : FnOk P w K mg base CX0 2 fB_ fdB_ ["_law_tape_here"] (spFar)) (mB_ : mg "_law_lineage" = some (.ref fB_)) (kB_ : PySem.W.keepIn K (.ref fB_) = true) (bB_ : Binds K fdB_ ["_law_tape_here"] [])
    (GC_ : FnOk P w K mg base CX0 1 fC_ fdC_ ["_law_tape_here", "_law_many"] (spDrawL)) (mC_ : mg "_law_draw" = some (.ref fC_)) (kC_ : PySem.W.keepIn K (.ref fC_) = true) (bC_ : Binds K fdC_ ["_law_tape_here", "_law_many"] []) : FnOk P w K mg base CX0 5 f fd pRws (spRws) := by
  refine F.ok scRws (fun vs H Q E h => ?_) (fun cdv A outer s H vs Q E hr h => ?_)
  · obtain ⟨t, c, L, ps, m, b, rfl, _⟩ := h
    rfl
  · obtain ⟨t, c, L, ps, m, b, rfl, hT, hL, cp, m0, m20, k⟩ := h
    have hrA_ : Room (4) _ := hr.mono (by first | decide | omega)
    have hrB_ : Room (2) _ := hr.mono (by first | decide | omega)
    have hrC_ : Room (1) _ := hr.mono (by first | decide | omega)
    refine ⟨_, (pss_one (ps_ret (pe_lc (own := [("_law_k", 4)]) (g := (gName 4)) (tt := tYes) (te := teRws) (by rfl) scRws.nd (pi_range1 (by rfl) T.range (pa_cons (pe_call GC_ hrC_ (by rfl) mC_ kC_ bC_ .nil pass0 (pa_cons (pv 0) (pa_cons (pe_op op_add (pv 2) pe_int) pa_nil))) pa_nil)) (blkOk_by (own := [("_law_k", 4)]) (N := nRws) (sc := defScope sRws) (by decide +kernel)) (fun _ _ _ _ _ => (pg_name (i := 4) scRws.nd rfl (.inl rfl))) (fun _ _ _ _ _ => pts_nil) (fun _ _ _ _ _ => (pe_tup (pa_cons (pe_call GA_ hrA_ (by rfl) mA_ kA_ bA_ .nil pass0 (pa_cons (pv 0) (pa_cons (pv 1) (pa_cons (pv 3) pa_nil)))) (pa_cons (pe_call GB_ hrB_ (by rfl) mB_ kB_ bB_ .nil pass0 (pa_cons (pv 0) pa_nil)) pa_nil))))))), ?_⟩
    have two : 2 ≤ sizeLine := by decide
    obtain ⟨xs, zL, cc⟩ := id hL
    refine ⟨_, rfl, _, rfl, _, _, rfl, rfl, t, c, _, rfl, hT, by omega, big1000 (by omega) (by omega), fun j H1 j0 j1 T1 S1 => ⟨j, rfl, by omega, by omega, fun R hR => lc_range (lo := 0) (n := j.toNat) (fun i H' => (∃ rs : RowsL, H' R = some (.lst (rs.map (·.1))) ∧ RowsAt (dl t H') rs ∧ RowW ps (rs.map (·.2)) ∧ rs.length ≤ i) ∧ TapeL c H' t ∧ SameB t H H') ⟨⟨[], upd_same, nofun, nofun, Nat.le_refl _⟩, T1.same (Same.upd hR), S1.trans (Same.b t (Same.upd hR))⟩ ?_ ?_⟩⟩
    · rintro i H3 hi ⟨⟨rs, hR3, ra, rv, lr⟩, T3, S3⟩
      have nR : R ≠ t := T1.tape.ne hR
      have nRc : R ≠ c := by
        obtain ⟨zs, e⟩ := T1.list
        exact (ne_of_none e hR).symm
      have gR : H R = none := S1.free T1.tape hR
      refine ⟨rfl, ?_⟩
      dsimp only [tYes]
      refine iteT ?_
      change teRws _ _ _
      refine ⟨_, rfl, _, rfl, _, rfl, t, c, L, b, xs, ps, rfl, T3, (zL.b hT.tape S3).rd, cc.b hT.tape S3, fun p hp => (cp.ok p hp).2.2, cp.l8, fun r ds H4 df vks T4 S4 => ?_⟩
      refine ⟨_, rfl, t, c, rfl, T4, fun v l H5 dlin lok T5 S5 => ⟨two, fun p hp => ?_⟩⟩
      have zp := Same.upd (o := .tup [.ref r, v]) hp
      have tl : ∃ zs, H5 t = some (.lst zs) := by
        obtain ⟨_, _, _, _, _, q, _⟩ := T5.tape
        exact ⟨_, q⟩
      have dp : DhT t (L2.upd H5 p (.tup [.ref r, v])) (.ref p) (RowD.d ⟨ds, l⟩) := dh_tupT T5.tape (.cons (dtb (DhF.t T3.tape df) S5) (.cons (dh_dl tl dlin (lin_noL l)) .nil)) hp
      have S36 : SameB t H3 (L2.upd H5 p (.tup [.ref r, v])) := (S4.trans S5).trans (Same.b t zp)
      have T6 := T5.same zp
      have hR6 := S36 _ _ nR hR3
      have nol : noLs ds = true := noLs_all.mpr vks.noL
      generalize L2.upd H5 p (.tup [.ref r, v]) = H6 at S36 dp T6 hR6 ⊢
      refine ⟨_, hR6, lt_size (by rw [List.length_map]; omega), ⟨rs ++ [(.ref p, ⟨ds, l⟩)], by rw [upd_same, List.map_append]; rfl, fun q hq => ?_, fun q hq => ?_, by rw [List.length_append]; show rs.length + 1 ≤ i + 1; omega⟩, T6.upd nR nRc, fun b' o n e => ?_⟩
      · rcases List.mem_append.mp hq with hq | hq
        · exact (((ra q hq).same (dl_same S36)).t (dlT hR6) (row_noL (noLs_all.mpr (rv q.2 (List.mem_map_of_mem hq)).1.noL)))
        · rw [List.mem_singleton.mp hq]
          exact DhT.upd dp (row_noL nol) hR6
      · rw [List.map_append] at hq
        rcases List.mem_append.mp hq with hq | hq
        · exact rv q hq
        · rw [List.mem_singleton.mp hq]
          exact ⟨vks, lok⟩
      · rw [upd_ne (ne_of_none e gR)]
        exact (S3.trans S36) b' o n e
    rintro H3 ⟨⟨rs, hR3, ra, rv, lr⟩, T3, S3⟩
    exact k R rs H3 hR3 (T1.tape.ne hR) ra rv (by omega) T3 S3
end
end
end K20
set_option Elab.async false
set_option linter.all false
set_option maxRecDepth 100000
set_option maxHeartbeats 4000000
namespace K20
open PySem PySem.Spec PyProof.Rows L2 Lc
/-! ## the law's own groups -/
def rTupO (K : PySem.W.Frag) : List V → Hp → VK → Prop := fun xs H Q => ∃ p ys, xs = [.ref p] ∧ ((SqL K H p ys ∧ ∀ l, H l = none → Q (.ref l) (L2.upd H l (.tup ys))) ∨ (SqT K H p ys ∧ Q (.ref p) H))
abbrev ttLu (K : PySem.W.Frag) : TT := tTest (tOp (rNotInD K) (tVar 3) (tVar 1))
abbrev teL1 (K : PySem.W.Frag) : TE := tOp (rIxT K) (tVar 3) (tVar 6)
abbrev teL4 (K : PySem.W.Frag) : TE := tOp (rIxT K) (tOp (rIxT K) (tVar 7) (tC (.int 0))) (tVar 6)
abbrev ttL3 (K : PySem.W.Frag) : TT := tTest (tOp (rEqD K) (tLc (iList K (tVar 1)) (gName 6) tYes (teL4 K) [6]) (tVar 5))
abbrev teL2 (K : PySem.W.Frag) : TE := tTup (tCons (tVar 5) (tCons (tLc (iList K (tVar 0)) (gName 7) (ttL3 K) (tVar 7) [7]) tNil))
abbrev teD2 (K : PySem.W.Frag) : TE := tOp (rIxT K) (tVar 4) (tC (.int 1))
abbrev teD1 (K : PySem.W.Frag) : TE := tTup (tCons (tCB (rTupO K) (tCons (tVar 2) tNil)) (tCons (tCall spUn [] E0 (tCons (tLc (iList K (tVar 3)) (gName 4) tYes (teD2 K) [4]) tNil)) tNil))
inductive GdAt (H0 H : Hp) (W : Addr) : List V → Grp (V × RowD) → Prop
  | nil : GdAt H0 H W [] []
  | cons {t kl ml : Addr} {kvs : List V} {key : List PyData} {mem : RowsL} {xs : List V} {G : Grp (V × RowD)} (e : H t = some (.tup [.ref kl, .ref ml])) (ek : H kl = some (.lst kvs)) (dk : DhAll H kvs key) (ko : KeyOk key) (em : H ml = some (.lst (mem.map (·.1)))) (nk : kl ≠ W) (nm : ml ≠ W) (fk : H0 kl = none) (fm : H0 ml = none) (r : GdAt H0 H W xs G) : GdAt H0 H W (.ref t :: xs) ((key, mem) :: G)
theorem GdAt.same {H0 H H' : Hp} {W : Addr} (s : Same H H') : ∀ {xs : List V} {G : Grp (V × RowD)}, GdAt H0 H W xs G → GdAt H0 H' W xs G
  | _, _, .nil => .nil
  | _, _, .cons e ek dk ko em nk nm fk fm r => .cons (s _ _ e) (s _ _ ek) (dk.same s) ko (s _ _ em) nk nm fk fm (r.same s)
theorem GdAt.upd {H0 H : Hp} {W : Addr} {zs ys : List V} (hc : H W = some (.lst zs)) : ∀ {xs : List V} {G : Grp (V × RowD)}, GdAt H0 H W xs G → GdAt H0 (L2.upd H W (.lst ys)) W xs G
  | _, _, .nil => .nil
  | _, _, .cons e ek dk ko em nk nm fk fm r => .cons (by rw [upd_ne (ne_of e hc nofun)]; exact e) (by rw [upd_ne nk]; exact ek) (dk.t (SameT.lst hc) (noLs_all.mpr fun d hd => (ko d hd).2.2.1)) ko (by rw [upd_ne nm]; exact em) nk nm fk fm (GdAt.upd hc r)
theorem GdAt.snoc {H0 H : Hp} {W t kl ml : Addr} {kvs : List V} {key : List PyData} {mem : RowsL} (e : H t = some (.tup [.ref kl, .ref ml])) (ek : H kl = some (.lst kvs)) (dk : DhAll H kvs key) (ko : KeyOk key) (em : H ml = some (.lst (mem.map (·.1)))) (nk : kl ≠ W) (nm : ml ≠ W) (fk : H0 kl = none) (fm : H0 ml = none) : ∀ {xs : List V} {G : Grp (V × RowD)}, GdAt H0 H W xs G → GdAt H0 H W (xs ++ [.ref t]) (G ++ [(key, mem)])
  | _, _, .nil => .cons e ek dk ko em nk nm fk fm .nil
  | _, _, .cons a b c d f g h i j r => .cons a b c d f g h i j (r.snoc e ek dk ko em nk nm fk fm)
theorem GdAt.len {H0 H : Hp} {W : Addr} : ∀ {xs : List V} {G : Grp (V × RowD)}, GdAt H0 H W xs G → xs.length = G.length
  | _, _, .nil => rfl
  | _, _, .cons _ _ _ _ _ _ _ _ _ r => by rw [List.length_cons, List.length_cons, r.len]
theorem GdAt.get {H0 H : Hp} {W : Addr} : ∀ {xs : List V} {G : Grp (V × RowD)}, GdAt H0 H W xs G → ∀ {i : Nat} {x : V}, xs[i]? = some x → ∃ t kl ml kvs key mem, G[i]? = some (key, mem) ∧ x = .ref t ∧ H t = some (.tup [.ref kl, .ref ml]) ∧ H kl = some (.lst kvs) ∧ DhAll H kvs key ∧ KeyOk key ∧ H ml = some (.lst (mem.map (·.1))) ∧ H0 kl = none ∧ H0 ml = none
  | _, _, .nil, i, x, e => by simp at e
  | _, _, .cons a b c d f _ _ g h r, 0, x, e => by cases e; exact ⟨_, _, _, _, _, _, rfl, rfl, a, b, c, d, f, g, h⟩
  | _, _, .cons a b c d f _ _ _ _ r, i + 1, x, e => by
    obtain ⟨t, kl, ml, kvs, key, mem, h⟩ := r.get (i := i) (by simpa using e)
    exact ⟨t, kl, ml, kvs, key, mem, by simpa using h⟩
/-- the keys in a list -/
inductive KyAt (H : Hp) : List V → List (List PyData) → Prop
  | nil : KyAt H [] []
  | cons {kl : Addr} {kvs : List V} {key : List PyData} {xs : List V} {ks : List (List PyData)} (ek : H kl = some (.lst kvs)) (dk : DhAll H kvs key) (ko : KeyOk key) (r : KyAt H xs ks) : KyAt H (.ref kl :: xs) (key :: ks)
theorem KyAt.same {H H' : Hp} (s : Same H H') : ∀ {xs : List V} {ks : List (List PyData)}, KyAt H xs ks → KyAt H' xs ks
  | _, _, .nil => .nil
  | _, _, .cons ek dk ko r => .cons (s _ _ ek) (dk.same s) ko (r.same s)
theorem KyAt.snoc {H : Hp} {kl : Addr} {kvs : List V} {key : List PyData} (ek : H kl = some (.lst kvs)) (dk : DhAll H kvs key) (ko : KeyOk key) : ∀ {xs : List V} {ks : List (List PyData)}, KyAt H xs ks → KyAt H (xs ++ [.ref kl]) (ks ++ [key])
  | _, _, .nil => .cons ek dk ko .nil
  | _, _, .cons a b c r => .cons a b c (r.snoc ek dk ko)
theorem KyAt.len {H : Hp} : ∀ {xs : List V} {ks : List (List PyData)}, KyAt H xs ks → xs.length = ks.length
  | _, _, .nil => rfl
  | _, _, .cons _ _ _ r => by rw [List.length_cons, List.length_cons, r.len]
theorem KyAt.get {H : Hp} : ∀ {xs : List V} {ks : List (List PyData)}, KyAt H xs ks → ∀ {i : Nat} {x : V}, xs[i]? = some x → ∃ kl kvs key, ks[i]? = some key ∧ x = .ref kl ∧ H kl = some (.lst kvs) ∧ DhAll H kvs key ∧ KeyOk key
  | _, _, .nil, i, x, e => by simp at e
  | _, _, .cons a b c r, 0, x, e => by cases e; exact ⟨_, _, _, rfl, rfl, a, b, c⟩
  | _, _, .cons a b c r, i + 1, x, e => by
    obtain ⟨kl, kvs, key, h⟩ := r.get (i := i) (by simpa using e)
    exact ⟨kl, kvs, key, by simpa using h⟩
theorem KyAt.upd {H : Hp} {c : Addr} {zs ys : List V} (hc : H c = some (.lst zs)) : ∀ {xs : List V} {ks : List (List PyData)}, KyAt H xs ks → V.ref c ∉ xs → KyAt (L2.upd H c (.lst ys)) xs ks
  | _, _, .nil, _ => .nil
  | _, _, .cons (kl := kl) ek dk ko r, n => by
    rw [List.mem_cons, not_or] at n
    refine .cons ?_ (dk.t (SameT.lst hc) (noLs_all.mpr fun d hd => (ko d hd).2.2.1)) ko (KyAt.upd hc r n.2)
    rw [upd_ne fun z => n.1 (by rw [z])]
    exact ek
theorem KyAt.dh {H : Hp} : ∀ {xs : List V} {ks : List (List PyData)}, KyAt H xs ks → DhAll H xs (ks.map .list)
  | _, _, .nil => .nil
  | _, _, .cons ek dk _ r => .cons (.lst ek dk) r.dh
theorem KyAt.ok {H : Hp} : ∀ {xs : List V} {ks : List (List PyData)}, KyAt H xs ks → ∀ k ∈ ks, KeyOk k
  | _, _, .nil => nofun
  | _, _, .cons _ _ ko r => fun k hk => by
    rcases List.mem_cons.mp hk with rfl | hk
    · exact ko
    · exact r.ok k hk
theorem dep_le {n : Nat} : ∀ {ds : List PyData}, (∀ d ∈ ds, d.depth ≤ n) → PyData.depthAll ds ≤ n
  | [], _ => by rw [PyData.depthAll]; exact Nat.zero_le _
  | d :: ds, h => by
    have h1 := h d List.mem_cons_self
    have h2 := dep_le fun x hx => h x (List.mem_cons_of_mem _ hx)
    rw [PyData.depthAll]
    omega
theorem key_shp {ds : List PyData} (h : KeyOk ds) : SeqAt.shaped (.list ds) = true ∧ (PyData.list ds).canLay0 = true ∧ (PyData.list ds).depth ≤ 2 := by
  have c : (PyData.list ds).canLay0 = true := by
    rw [PyData.canLay0]
    exact cans_all fun d hd => (h d hd).2.2.2.1
  have d : (PyData.list ds).depth ≤ 2 := by
    have := dep_le (n := 1) fun d hd => (h d hd).2.2.2.2
    rw [PyData.depth]
    omega
  exact ⟨Bool.and_eq_true_iff.mpr ⟨c, decide_eq_true (Nat.le_trans d (by decide))⟩, c, d⟩
theorem keys_shp {ks : List (List PyData)} (h : ∀ k ∈ ks, KeyOk k) : SeqAt.shaped (.list (ks.map .list)) = true := by
  refine Bool.and_eq_true_iff.mpr ⟨?_, decide_eq_true ?_⟩
  · rw [PyData.canLay0]
    refine cans_all fun d hd => ?_
    obtain ⟨k, hk, rfl⟩ := List.mem_map.mp hd
    exact (key_shp (h k hk)).2.1
  · have := dep_le (n := 2) (ds := ks.map .list) fun d hd => by
      obtain ⟨k, hk, rfl⟩ := List.mem_map.mp hd
      exact (key_shp (h k hk)).2.2
    rw [PyData.depth]
    exact Nat.le_trans (Nat.succ_le_succ this) (by decide)
theorem any_keys {k : List PyData} (hk : KeyOk k) : ∀ {ks : List (List PyData)}, (∀ x ∈ ks, KeyOk x) → ((ks.map PyData.list).any fun z => PyData.eqv z (.list k)) = decide (nkDs k ∈ ks.map nkDs)
  | [], _ => by simp
  | x :: ks, h => by
    have ih := any_keys hk fun y hy => h y (List.mem_cons_of_mem _ hy)
    rw [List.map_cons, List.any_cons, ih, eqv_list (h x List.mem_cons_self).all hk.all, List.map_cons]
    by_cases e : nkDs x = nkDs k
    · rw [decide_eq_true e, Bool.true_or]
      exact (decide_eq_true (by rw [e]; exact List.mem_cons_self)).symm
    · rw [decide_eq_false e, Bool.false_or]
      exact decide_eq_decide.mpr ⟨fun h => List.mem_cons_of_mem _ h, fun h => (List.mem_cons.mp h).resolve_left fun z => e z.symm⟩
def spLg : Sp := fun vs H Q _ => ∃ (a q : Addr) (rs : RowsL) (ks : List Str) (js : List Nat), vs = [.ref a, .ref q] ∧ H a = some (.lst (rs.map (·.1))) ∧ RowsAt H rs ∧ (∀ r ∈ rs, Vks ks r.2.vals ∧ LinOk r.2.lin) ∧ rs.length ≤ 1000 ∧ H q = some (.lst (jsV js)) ∧ (∀ j ∈ js, j < ks.length) ∧ js.length ≤ 8 ∧
  ∀ (D : Addr) (xs : List V) (H' : Hp), H D = none → Same H H' → H' D = some (.lst xs) → GdAt H H' D xs (grpR (atJ js) rs) → Q (.ref D) H'
/-- the values of a row at places, one behind the other -/
theorem vals_turn {H H1 : Hp} {D : Addr} {us ys : List V} {ds : List PyData} {js : List Nat} {i j : Nat} {u : V} (hD : H D = none) (e : H1 D = some (.lst ys)) (dys : DhAll H1 ys ((js.take i).map fun j => ds.getD j .none)) (hd : DhAll H1 us ds) (hn : ∀ d ∈ ds, noL d = true) (hj : ∀ j ∈ js, j < ds.length) (l8 : js.length ≤ 8) (ej : js[i]? = some j) (eu : us[j]? = some u) (s : Same H H1) :
    ∃ acc, H1 D = some (.lst acc) ∧ acc.length < sizeLine ∧ ((∃ ys, L2.upd H1 D (.lst (acc ++ [u])) D = some (.lst ys) ∧ DhAll (L2.upd H1 D (.lst (acc ++ [u]))) ys ((js.take (i + 1)).map fun j => ds.getD j .none)) ∧ Same H (L2.upd H1 D (.lst (acc ++ [u])))) := by
  have ly := dys.len
  rw [List.length_map, List.length_take] at ly
  have lj := hj j (List.mem_of_getElem? ej)
  obtain ⟨d, ed, du⟩ := hd.get j u eu
  have nn : ∀ l : List Nat, (∀ j ∈ l, j < ds.length) → noLs (l.map fun j => ds.getD j .none) = true := fun l hl => noLs_all.mpr fun x hx => by
    obtain ⟨j, h1, rfl⟩ := List.mem_map.mp hx
    refine hn _ ?_
    rw [List.getD_eq_getElem?_getD, List.getElem?_eq_getElem (hl j h1)]
    exact List.getElem_mem _
  refine ⟨ys, e, lt_size (by omega), ⟨ys ++ [u], upd_same, ?_⟩, fun b o q => by rw [upd_ne (ne_of_none q hD)]; exact s b o q⟩
  rw [List.take_add_one, ej, List.map_append]
  refine DhAll.append (DhAll.t (SameT.lst e) dys (nn _ fun j h => hj j (List.mem_of_mem_take h))) ?_
  show DhAll _ [u] [ds.getD j .none]
  rw [List.getD_eq_getElem?_getD, ed]
  exact .cons (du.t (SameT.lst e) (hn d (List.mem_of_getElem? ed))) .nil
section
variable {P : Program} {w : World} {K : PySem.W.Frag} {mg : Str → Option Value} {base : Heap} {f : Addr} {fd : FuncData}
abbrev sLu : Stmt := top 136
abbrev nLu : List Str := ["_law_lineages", "_law_found", "_law_lineage_here", "_law_part"]
abbrev pLu : List Str := ["_law_lineages"]
theorem scLu : FnScope nLu pLu (defScope sLu) := ⟨rfl, rfl, rfl, by decide +kernel, rfl, by decide +kernel, by decide +kernel⟩
section
theorem ok_Lu (F : Fun K "_law_union" "_law_union" sLu f fd) (T : Bt mg) (mS : mg "sorted" = none) : FnOk P w K mg base CX0 1 f fd pLu (spUn) := by
  refine F.ok scLu (fun vs H Q E h => ?_) (fun cdv A outer s H vs Q E hr h => ?_)
  · obtain ⟨a, xs, ls, rfl, _⟩ := h
    rfl
  · obtain ⟨a, xs, ls, rfl, ha, hl, ok, k⟩ := h
    refine ⟨_, (pss_cons (ps_set (i := 1) scLu.nd rfl (Or.inr rfl) (pe_lst pa_nil))
      (pss_cons (ps_for PassesOwn.never rfl (pi_list (pv 0)) (pg_name (i := 2) scLu.nd rfl (.inl rfl)) (pss_one (ps_set (i := 1) scLu.nd rfl (Or.inr rfl) (pe_op op_cat (pv 1) (pe_lc (own := [("_law_part", 3)]) (g := (gName 3)) (tt := ttLu K) (te := tVar 3) (by rfl) scLu.nd (pi_tup (pv 2)) (blkOk_by (own := [("_law_part", 3)]) (N := nLu) (sc := defScope sLu) (by decide +kernel)) (fun _ _ _ _ _ => (pg_name (i := 3) scLu.nd rfl (.inl rfl))) (fun _ _ _ _ _ => (pts_one (pt_cmpR (op_notInD (hu65 hr)) (pv 3) (pv 1) (by rfl)))) (fun _ _ _ _ _ => (pv 3)))))))
      (pss_one (ps_ret (pe_callTy call_tuple_of (by rfl) T.tuple boot_tuple (pa_cons (pe_callB (call_sortedDt hr.units) (by rfl) mS (by decide +kernel) (pa_cons (pv 1) pa_nil)) pa_nil)))))), ?_⟩
    refine ⟨Nat.zero_le _, fun L hL => ?_⟩
    have zL := Same.upd (o := .lst []) hL
    have eL : L2.upd H L (.lst []) L = some (.lst []) := upd_same
    generalize L2.upd H L (.lst []) = H1 at zL eL ⊢
    refine ⟨_, rfl, a, rfl, ⟨_, SqL.of (zL _ _ ha)⟩, for_list (K := K) (a := a) (xs := xs) (fun i σ H' => (∃ (F : Addr) (x2 x3 : Option V), σ = [some (.ref a), some (.ref F), x2, x3] ∧ ∃ ys, H' F = some (.lst ys) ∧ DhAll H' ys ((allL (ls.take i)).map partD)) ∧ Same H H') ⟨⟨L, _, _, rfl, [], eL, .nil⟩, zL⟩ (fun i σ H' _ pr => SqL.of (pr.2 _ _ ha)) ?_ ?_⟩
    · rintro i x σ H2 hx ⟨⟨F0, x2, x3, rfl, ys, eF, dys⟩, s2⟩
      obtain ⟨l, el, dl⟩ := hl.get hx
      have lo := ok l (List.mem_of_getElem? el)
      have okA : ∀ p ∈ allL (ls.take i), PartOk p := fun p hp => by
        obtain ⟨m, h1, h2⟩ := allL_mem.mp hp
        exact (ok m (List.mem_of_mem_take h1)).2 p h2
      have ndA : (allL (ls.take i)).Nodup := allL_nd fun m hm => (ok m (List.mem_of_mem_take hm)).1
      have lA : (allL (ls.take i)).length ≤ 48 := by
        rw [← linU_len]
        exact ndA.length_le_of_subset fun p hp => (okA p hp).2.2.2
      have ll := lo.len
      have et : allL (ls.take (i + 1)) = allL (ls.take i) ++ l.filter fun p => decide (p ∉ allL (ls.take i)) := by
        rw [List.take_add_one, el]
        exact allL_snoc _ _
      have ly := dys.len
      rw [List.length_map] at ly
      cases dl with
      | @tup b us _ eb hs =>
      have lu := hs.len
      rw [List.length_map] at lu
      have eb2 := s2 _ _ eb
      have hs2 := hs.same s2
      refine ⟨_, rfl, _, rfl, b, rfl, ⟨_, SqT.of eb2⟩, fun D hD => lc_tup (K := K) (a := b) (xs := us) (fun j H' => (∃ zs, H' D = some (.lst zs) ∧ DhAll H' zs (((l.take j).filter fun p => decide (p ∉ allL (ls.take i))).map partD)) ∧ Same H2 H') ⟨⟨[], upd_same, .nil⟩, Same.upd hD⟩ (fun j H' _ pr => SqT.of (pr.2 _ _ eb2)) ?_ ?_⟩
      · rintro j y H3 hy ⟨⟨zs, eD, dzs⟩, s3⟩
        obtain ⟨p, c, ep, rfl, ec⟩ := lin_get hs2 hy
        have hp := lo.2 p (List.mem_of_getElem? ep)
        have dp : Dh H3 (.ref c) (partD p) := .tup (s3 _ _ ec) (.cons (.str _) (.cons (.int _) .nil))
        have nd1 : (partD p).hasDict = false := PyData.hasDict_of_canLay _ (part_lay hp).1
        have nd2 : (PyData.list ((allL (ls.take i)).map partD)).hasDict = false := PyData.hasDict_of_canLay _ (SeqAt.canLay_of_shaped (parts_shp okA))
        have lz := dzs.len
        rw [List.length_map] at lz
        have lz2 : zs.length ≤ 48 := by
          rw [lz]
          exact Nat.le_trans (List.length_filter_le _ _) (by rw [List.length_take]; omega)
        refine ⟨rfl, ?_⟩
        change ttLu K _ _ _
        refine ⟨_, rfl, _, rfl, partD p, (allL (ls.take i)).map partD, dp.dp nd1, (Dh.lst (s3 _ _ eF) (dys.same s3)).dp nd2, part_shp hp, parts_shp okA, _, rfl, ?_⟩
        rw [any_part]
        have nl : ∀ l : Lin, noLs (l.map partD) = true := fun l => noLs_all.mpr fun d hd => by
          obtain ⟨_, _, rfl⟩ := List.mem_map.mp hd
          rfl
        by_cases hin : p ∈ allL (ls.take i)
        · rw [decide_eq_true hin]
          refine iteF ⟨⟨zs, eD, ?_⟩, s3⟩
          rw [List.take_add_one, ep, List.filter_append, Option.toList_some, List.filter_cons, if_neg (by simpa using hin), List.filter_nil, List.append_nil]
          exact dzs
        · rw [decide_eq_false hin]
          refine iteT ⟨_, rfl, zs, eD, lt_size (by omega), ⟨zs ++ [.ref c], upd_same, ?_⟩, fun b' o e => by rw [upd_ne (ne_of_none e hD)]; exact s3 b' o e⟩
          rw [List.take_add_one, ep, List.filter_append, Option.toList_some, List.filter_cons, if_pos (by simpa using hin), List.filter_nil, List.map_append]
          exact DhAll.append (DhAll.t (SameT.lst eD) dzs (nl _)) (.cons (dp.t (SameT.lst eD) rfl) .nil)
      rintro H3 ⟨⟨zs, eD, dzs⟩, s3⟩
      rw [lu, List.take_length] at dzs
      have lz := dzs.len
      rw [List.length_map] at lz
      have lz2 : zs.length ≤ 48 := by
        rw [lz]
        exact Nat.le_trans (List.length_filter_le _ _) ll
      refine ⟨F0, D, _, _, rfl, rfl, s3 _ _ eF, eD, by rw [sizeLine_eq]; omega, fun F1 hF1 => ?_⟩
      have zF := Same.upd (o := .lst (ys ++ zs)) hF1
      refine ⟨⟨F1, _, _, rfl, _, upd_same, ?_⟩, s2.trans (s3.trans zF)⟩
      rw [et, List.map_append]
      exact DhAll.append (dys.same (s3.trans zF)) (dzs.same zF)
    · rintro σ H2 ⟨⟨F0, x2, x3, rfl, ys, eF, dys⟩, s2⟩
      rw [hl.len, List.take_length] at dys
      obtain ⟨al, so, dp⟩ := parts_alike (allL ls)
      refine ⟨_, rfl, F0, ys, (allL ls).map partD, rfl, SqL.of eF, parts_dh dys, dys, al, so, dp, fun ws p pm dy hp => ?_⟩
      have zp := Same.upd (o := .lst ws) hp
      refine ⟨p, ws, rfl, .inl ⟨SqL.of upd_same, fun r hr => ?_⟩⟩
      have zr := Same.upd (o := .tup ws) hr
      refine k _ _ (s2.trans (zp.trans zr)) (.tup upd_same ?_)
      rw [show (allL ls).map partD = (allL ls).map plD from rfl, srtL_map] at dy
      exact DhAll.same (zp.trans zr) dy
end
abbrev sLg : Stmt := top 142
abbrev nLg : List Str := ["_law_rows_here", "_law_places", "_law_keys", "_law_values_here", "_law_lineage_here", "_law_key", "_law_place", "_law_row"]
abbrev pLg : List Str := ["_law_rows_here", "_law_places"]
theorem scLg : FnScope nLg pLg (defScope sLg) := ⟨rfl, rfl, rfl, by decide +kernel, rfl, by decide +kernel, by decide +kernel⟩
def scLgIn : Scope := match bodyOf sLg with
  | _ :: _ :: .Return (some (.ListComp _ _ sc _)) _ :: _ => sc
  | _ => defScope sLg
def scLgIn2 : Scope := match bodyOf sLg with
  | _ :: _ :: .Return (some (.ListComp (.Tuple (_ :: .ListComp _ _ sc _ :: _) _ _) _ _ _)) _ :: _ => sc
  | _ => defScope sLg
section
theorem ok_Lg (F : Fun K "_law_grouped" "_law_grouped" sLg f fd) (T : Bt mg) : FnOk P w K mg base CX0 1 f fd pLg (spLg) := by
  refine F.ok scLg (fun vs H Q E h => ?_) (fun cdv A outer s H vs Q E hr h => ?_)
  · obtain ⟨a, q, rs, ks, js, rfl, _⟩ := h
    rfl
  · obtain ⟨a, q, rs, ks, js, rfl, ha, ra, rw_, ln, hq, hj, l8, k⟩ := h
    refine ⟨_, (pss_cons (ps_set (i := 2) scLg.nd rfl (Or.inl rfl) (pe_lst pa_nil))
      (pss_cons (ps_for PassesOwn.never rfl (pi_list (pv 0)) (pg_tup rfl (pgs_cons (pg_name (i := 3) scLg.nd rfl (.inr rfl)) (pgs_cons (pg_name (i := 4) scLg.nd rfl (.inl rfl)) pgs_nil))) (pss_cons (ps_setLc (i := 5) (own := [("_law_place", 6)]) (g := (gName 6)) (tt := tYes) (te := teL1 K) (by rfl) scLg.nd rfl rfl (sw_true rfl rfl rfl (by decide +kernel)) (pi_list (pv 1)) (blkOk_by (own := [("_law_place", 6)]) (N := nLg) (sc := defScope sLg) (by decide +kernel)) (fun _ _ _ _ _ => (pg_name (i := 6) scLg.nd rfl (.inl rfl))) (fun _ _ _ _ _ => pts_nil) (fun _ _ _ _ _ => (pe_ix ix_tup (pv 3) (pv 6) (fun _ _ => rfl))))
      (pss_one (ps_if (pt_cmpR (op_notInD (hu65 hr)) (pv 5) (pv 2) (by rfl)) (pss_one (ps_expr (pe_bm PySem.F.plainAttrs_list PySem.F.slot_list_append PySem.F.type_list_append mt_append (pv 2) (pa_cons (pv 5) pa_nil)))) pss_nil))))
      (pss_one (ps_ret (pe_lc (own := [("_law_key", 5)]) (g := (gName 5)) (tt := tYes) (te := teL2 K) (by rfl) scLg.nd (pi_list (pv 2)) (blkOk_by (own := [("_law_key", 5)]) (N := nLg) (sc := defScope sLg) (by decide +kernel)) (fun _ _ _ _ _ => (pg_name (i := 5) scLg.nd rfl (.inr rfl))) (fun _ _ _ _ _ => pts_nil) (fun _ _ _ _ _ => (pe_tup (pa_cons (pv 5) (pa_cons (pe_lc (own := [("_law_row", 7)]) (g := (gName 7)) (tt := ttL3 K) (te := tVar 7) (by rfl) scLg.nd (pi_list (pv 0)) (blkOk_rel (blkOk_by (own := [("_law_row", 7)]) (N := nLg) (sc := scLgIn) (by decide +kernel))) (fun _ _ _ _ _ => (pg_name (i := 7) scLg.nd rfl (.inr rfl))) (fun _ _ _ _ _ => (pts_one (pt_cmpR (op_eqD hr.units) (pe_lc (own := [("_law_place", 6)]) (g := (gName 6)) (tt := tYes) (te := teL4 K) (by rfl) scLg.nd (pi_list (pv 1)) (blkOk_rel (blkOk_by (own := [("_law_place", 6)]) (N := nLg) (sc := scLgIn2) (by decide +kernel))) (fun _ _ _ _ _ => (pg_name (i := 6) scLg.nd rfl (.inl rfl))) (fun _ _ _ _ _ => pts_nil) (fun _ _ _ _ _ => (pe_ix ix_tup (pe_ix ix_tup (pv 7) pe_int (fun _ _ => rfl)) (pv 6) (fun _ _ => rfl)))) (pv 5) (nomark _)))) (fun _ _ _ _ _ => (pv 7))) pa_nil))))))))), ?_⟩
    refine ⟨Nat.zero_le _, fun N hN => ?_⟩
    have zN := Same.upd (o := .lst []) hN
    have eN : L2.upd H N (.lst []) N = some (.lst []) := upd_same
    generalize L2.upd H N (.lst []) = H1 at zN eN ⊢
    have two : 2 ≤ sizeLine := by decide
    have rok : ∀ r ∈ rs, ∀ d ∈ r.2.vals, noL d = true := fun r hr => (rw_ r hr).1.noL
    refine ⟨_, rfl, a, rfl, ⟨_, SqL.of (zN _ _ ha)⟩, for_list (K := K) (a := a) (xs := rs.map (·.1)) (fun i σ H' => (∃ x3 x4 x5 x6 x7 : Option V, σ = [some (.ref a), some (.ref q), some (.ref N), x3, x4, x5, x6, x7]) ∧ (∃ ys, H' N = some (.lst ys) ∧ KyAt H' ys (keysR (atJ js) (rs.take i)) ∧ V.ref N ∉ ys ∧ ∀ b, V.ref b ∈ ys → H b = none) ∧ Same H H') ⟨⟨_, _, _, _, _, rfl⟩, ⟨[], eN, .nil, nofun, nofun⟩, zN⟩ (fun i σ H' _ pr => SqL.of (pr.2.2 _ _ ha)) ?_ ?_⟩
    · rintro i y σ H2 hy ⟨⟨x3, x4, x5, x6, x7, rfl⟩, ⟨ys, eK, ky, nN, nF⟩, s2⟩
      rw [List.getElem?_map] at hy
      obtain ⟨r, er, rfl⟩ := Option.map_eq_some_iff.mp hy
      have rm := List.mem_of_getElem? er
      have li := (List.getElem?_eq_some_iff.mp er).1
      obtain ⟨vk, lo⟩ := rw_ r rm
      obtain ⟨rr, va, la0, ev, e2, dvals, _⟩ := row_at ((ra r rm).same s2)
      have lv := vk.len
      have hj' : ∀ j ∈ js, j < r.2.vals.length := fun j h => by rw [← lv]; exact hj j h
      have et : rs.take (i + 1) = rs.take i ++ [r] := by rw [List.take_add_one, er]; rfl
      cases dvals with
      | @tup _ us _ eu hu =>
      have lu := hu.len
      refine ⟨rr, _, ev, SqT.of e2, rfl, _, _, rfl, _, _, rfl, rfl, ?_⟩
      dsimp only [gNil]
      have eq2 := s2 _ _ hq
      refine ⟨_, rfl, q, rfl, ⟨_, SqL.of eq2⟩, fun D hD => lc_list (K := K) (a := q) (xs := jsV js) (fun i H' => (∃ ys, H' D = some (.lst ys) ∧ DhAll H' ys ((js.take i).map fun j => r.2.vals.getD j .none)) ∧ Same H2 H') ⟨⟨[], upd_same, .nil⟩, Same.upd hD⟩ (fun i H' _ pr => SqL.of (pr.2 _ _ eq2)) ?_ ?_⟩
      · rintro m y H3 hy ⟨⟨zs, eD, dzs⟩, s3⟩
        unfold jsV at hy
        rw [List.getElem?_map] at hy
        obtain ⟨j, ej, rfl⟩ := Option.map_eq_some_iff.mp hy
        have lj := hj' j (List.mem_of_getElem? ej)
        obtain ⟨u, eu'⟩ : ∃ u, us[j]? = some u := ⟨_, List.getElem?_eq_getElem (by omega)⟩
        refine ⟨rfl, ?_⟩
        dsimp only [tYes]
        refine iteT ?_
        change teL1 K _ _ _
        exact ⟨_, rfl, _, rfl, va, us, (j : Int), u, rfl, rfl, SqT.of (s3 _ _ eu), at_of (j := j) (by omega) eu', vals_turn hD eD dzs (hu.same s3) (rok r rm) hj' l8 ej eu' s3⟩
      rintro H3 ⟨⟨zs, eD, dzs⟩, s3⟩
      rw [show (jsV js).length = js.length from List.length_map _, List.take_length] at dzs
      have ko : KeyOk (atJ js r) := atJ_ok vk hj
      have dk : DhAll H3 zs (atJ js r) := dzs
      have ky3 := ky.same s3
      have eK3 := s3 _ _ eK
      have okK := ky3.ok
      have nd1 : (PyData.list (atJ js r)).hasDict = false := PyData.hasDict_of_canLay _ (key_shp ko).2.1
      have nd2 : (PyData.list ((keysR (atJ js) (rs.take i)).map .list)).hasDict = false := PyData.hasDict_of_canLay _ (SeqAt.canLay_of_shaped (keys_shp okK))
      have lyy := ky3.len
      have lks : (keysR (atJ js) (rs.take i)).length ≤ 1000 := by
        have h1 := grp_len (atJ js) (rs.take i)
        rw [grpR_eq, List.length_map, List.length_take] at h1
        omega
      refine ⟨_, rfl, _, rfl, .list (atJ js r), (keysR (atJ js) (rs.take i)).map .list, (Dh.lst eD dk).dp nd1, (Dh.lst eK3 ky3.dh).dp nd2, (key_shp ko).1, keys_shp okK, _, rfl, ?_⟩
      rw [any_keys ko okK]
      by_cases hin : nkDs (atJ js r) ∈ (keysR (atJ js) (rs.take i)).map nkDs
      · rw [decide_eq_true hin]
        refine iteF ⟨⟨_, _, _, _, _, rfl⟩, ⟨ys, eK3, ?_, nN, nF⟩, s2.trans s3⟩
        rw [et, keysR_snoc, if_pos hin]
        exact ky3
      · rw [decide_eq_false hin]
        have nDN : D ≠ N := fun z => by rw [z, eK] at hD; cases hD
        refine iteT ⟨_, rfl, .inl ⟨rfl, _, SqL.of eK3⟩, _, rfl, N, _, _, rfl, rfl, eK3, lt_size (by omega), ⟨_, _, _, _, _, rfl⟩, ⟨ys ++ [.ref D], upd_same, ?_, fun h => ?_, fun b hb => ?_⟩, fun b o e => by rw [upd_ne (ne_of_none e hN)]; exact (s2.trans s3) b o e⟩
        · rw [et, keysR_snoc, if_neg hin]
          have dk2 := DhAll.t (H' := L2.upd H3 N (.lst (ys ++ [.ref D]))) (SameT.lst eK3) dk (noLs_all.mpr fun d hd => (ko d hd).2.2.1)
          exact KyAt.snoc (by rw [upd_ne nDN]; exact eD) dk2 ko (KyAt.upd eK3 ky3 nN)
        · rcases List.mem_append.mp h with h | h
          · exact nN h
          · have h := List.mem_singleton.mp h
            injection h with h
            exact nDN h.symm
        · rcases List.mem_append.mp hb with hb | hb
          · exact nF b hb
          · have hb := List.mem_singleton.mp hb
            injection hb with hb
            rw [hb]
            exact Same.gone s2 hD
    · rintro σ H2 ⟨⟨x3, x4, x5, x6, x7, rfl⟩, ⟨ys, eK, ky, nN, nF⟩, s2⟩
      rw [List.length_map, List.take_length] at ky
      have lyy := ky.len
      have lks : (keysR (atJ js) rs).length ≤ 1000 := by
        have h1 := grp_len (atJ js) rs
        rw [grpR_eq, List.length_map] at h1
        omega
      have ge := grpR_eq (atJ js) rs
      generalize hks : keysR (atJ js) rs = ky0 at ky lyy lks ge
      refine ⟨_, rfl, N, rfl, ⟨_, SqL.of eK⟩, fun W hW => lc_list (K := K) (a := N) (xs := ys) (fun i H' => (∃ xs, H' W = some (.lst xs) ∧ GdAt H H' W xs ((grpR (atJ js) rs).take i)) ∧ Same H2 H') ⟨⟨[], upd_same, .nil⟩, Same.upd hW⟩ (fun i H' _ pr => SqL.of (pr.2 _ _ eK)) ?_ ?_⟩
      · rintro i x H3 hx ⟨⟨xs, eW, gd⟩, s3⟩
        obtain ⟨kl, kvs, key, ek, rfl, eky0, dky0, ko⟩ := ky.get hx
        have eky := s3 _ _ eky0
        have dky := dky0.same s3
        have nkW : kl ≠ W := ne_of_none eky0 hW
        have l' : xs.length ≤ 1000 := by
          have h1 := gd.len
          have h2 := grp_len (atJ js) rs
          rw [List.length_take] at h1
          omega
        have s03 := s2.trans s3
        have li := (List.getElem?_eq_some_iff.mp ek).1
        have lgd := gd.len
        refine ⟨rfl, ?_⟩
        dsimp only [tYes]
        refine iteT ?_
        change teL2 K _ _ _
        have ea3 := s03 _ _ ha
        refine ⟨_, rfl, _, rfl, a, rfl, ⟨_, SqL.of ea3⟩, fun Y hY => lc_list (K := K) (a := a) (xs := rs.map (·.1)) (fun m H' => H' Y = some (.lst (((rs.take m).filter fun r => decide (nkDs (atJ js r) = nkDs key)).map (·.1))) ∧ Same H3 H') ⟨upd_same, Same.upd hY⟩ (fun m H' _ pr => SqL.of (pr.2 _ _ ea3)) ?_ ?_⟩
        · rintro m y H4 hy ⟨eY, s4⟩
          rw [List.getElem?_map] at hy
          obtain ⟨r, er, rfl⟩ := Option.map_eq_some_iff.mp hy
          have rm := List.mem_of_getElem? er
          have lm := (List.getElem?_eq_some_iff.mp er).1
          obtain ⟨vk, lo⟩ := rw_ r rm
          have s04 := s03.trans s4
          obtain ⟨rr, va, la0, ev, e2, dvals, _⟩ := row_at ((ra r rm).same s04)
          have lv := vk.len
          have hj' : ∀ j ∈ js, j < r.2.vals.length := fun j h => by rw [← lv]; exact hj j h
          have et : rs.take (m + 1) = rs.take m ++ [r] := by rw [List.take_add_one, er]; rfl
          cases dvals with
          | @tup _ us _ eu hu =>
          have lu := hu.len
          have eq4 := s04 _ _ hq
          refine ⟨rfl, ?_⟩
          change ttL3 K _ _ _
          refine ⟨_, rfl, q, rfl, ⟨_, SqL.of eq4⟩, fun D hD => lc_list (K := K) (a := q) (xs := jsV js) (fun i H' => (∃ ys, H' D = some (.lst ys) ∧ DhAll H' ys ((js.take i).map fun j => r.2.vals.getD j .none)) ∧ Same H4 H') ⟨⟨[], upd_same, .nil⟩, Same.upd hD⟩ (fun i H' _ pr => SqL.of (pr.2 _ _ eq4)) ?_ ?_⟩
          · rintro m2 y H5 hy ⟨⟨zs, eD, dzs⟩, s5⟩
            unfold jsV at hy
            rw [List.getElem?_map] at hy
            obtain ⟨j, ej, rfl⟩ := Option.map_eq_some_iff.mp hy
            have lj := hj' j (List.mem_of_getElem? ej)
            obtain ⟨u, eu'⟩ : ∃ u, us[j]? = some u := ⟨_, List.getElem?_eq_getElem (by omega)⟩
            refine ⟨rfl, ?_⟩
            dsimp only [tYes]
            refine iteT ?_
            change teL4 K _ _ _
            exact ⟨_, rfl, rr, _, _, .ref va, ev, rfl, SqT.of (s5 _ _ e2), at_of (j := 0) rfl rfl, _, rfl, va, us, (j : Int), u, rfl, rfl, SqT.of (s5 _ _ eu), at_of (j := j) (by omega) eu', vals_turn hD eD dzs (hu.same s5) (rok r rm) hj' l8 ej eu' s5⟩
          rintro H5 ⟨⟨zs, eD, dzs⟩, s5⟩
          rw [show (jsV js).length = js.length from List.length_map _, List.take_length] at dzs
          have kr : KeyOk (atJ js r) := atJ_ok vk hj
          have dk : DhAll H5 zs (atJ js r) := dzs
          have s35 := s4.trans s5
          have nd1 : (PyData.list (atJ js r)).hasDict = false := PyData.hasDict_of_canLay _ (key_shp kr).2.1
          have nd2 : (PyData.list key).hasDict = false := PyData.hasDict_of_canLay _ (key_shp ko).2.1
          refine ⟨_, rfl, .list (atJ js r), .list key, (Dh.lst eD dk).dp nd1, (Dh.lst (s35 _ _ eky) (dky.same s35)).dp nd2, (key_shp kr).1, (key_shp ko).1, _, rfl, ?_⟩
          rw [eqv_list kr.all ko.all, et, List.filter_append, List.filter_cons, List.filter_nil]
          by_cases hq' : nkDs (atJ js r) = nkDs key
          · rw [decide_eq_true hq']
            refine iteT ⟨_, rfl, _, s5 _ _ eY, lt_size ?_, ?_, fun b o e => by rw [upd_ne (ne_of_none e hY)]; exact s35 b o e⟩
            · rw [List.length_map]
              exact Nat.le_trans (List.length_filter_le _ _) (by rw [List.length_take]; omega)
            · rw [upd_same, List.map_append]
              rfl
          · rw [decide_eq_false hq']
            refine iteF ⟨?_, s35⟩
            rw [s5 _ _ eY]
            simp
        rintro H4 ⟨eY, s4⟩
        rw [List.length_map, List.take_length] at eY
        refine ⟨two, fun t ht => ?_⟩
        have zt := Same.upd (o := .tup [.ref kl, .ref Y]) ht
        have s3t := s4.trans zt
        have eW' := s3t _ _ eW
        have eg : (grpR (atJ js) rs)[i]? = some (key, rs.filter fun r => decide (nkDs (atJ js r) = nkDs key)) := by
          rw [ge, List.getElem?_map, ek]
          rfl
        have nYW : Y ≠ W := fun z => by rw [z, eW] at hY; cases hY
        refine ⟨xs, eW', lt_size l', ⟨xs ++ [.ref t], upd_same, ?_⟩, fun b o e => by rw [upd_ne (ne_of_none e hW)]; exact s3t _ _ (s3 _ _ e)⟩
        rw [List.take_add_one, eg]
        have ntW : t ≠ W := fun z => by rw [z] at ht; rw [s4 _ _ eW] at ht; cases ht
        exact GdAt.snoc (by rw [upd_ne ntW]; exact upd_same) (by rw [upd_ne nkW]; exact s3t _ _ eky) ((dky.same s3t).t (SameT.lst eW') (noLs_all.mpr fun d hd => (ko d hd).2.2.1)) ko (by rw [upd_ne nYW]; exact zt _ _ eY) nkW nYW (nF kl (List.mem_of_getElem? hx)) (Same.gone (s2.trans s3) hY) (GdAt.upd eW' (gd.same s3t))
      rintro H3 ⟨⟨xs, eW, gd⟩, s3⟩
      rw [lyy, show ky0.length = (grpR (atJ js) rs).length by rw [ge, List.length_map], List.take_length] at gd
      exact k W xs H3 (Same.gone s2 hW) (s2.trans s3) eW gd
end
end
end K20
set_option Elab.async false
set_option linter.all false
set_option maxRecDepth 100000
set_option maxHeartbeats 4000000
namespace K20
open PySem PySem.Spec PyProof.Rows L2 Lc
/-! ## the law's own totals -/
def spLsm : Sp := fun vs H Q _ => ∃ (q : Addr) (zs : List V) (ps : List Qn), vs = [.ref q] ∧ NumL H q zs ps ∧ ∀ p H', Same H H' → H' p = some (.tup [.int (sumQ ps).1, .int (sumQ ps).2]) → Q (.ref p) H'
def spLor : Sp := fun vs H Q _ => ∃ (q : Addr) (zs : List V) (ps : List Qn), vs = [.ref q] ∧ NumL H q zs ps ∧ ∀ D ys H', Same H H' → H' D = some (.lst ys) → NumAt H' ys (ordQ ps) → Q (.ref D) H'
def spMea : Sp := spTot
theorem sum_num {ps : List Qn} (h : NumQ ps) : (sumQ ps).1.natAbs ≤ ps.length * 10000000000000000000000000000000000000000 ^ ps.length ∧ (sumQ ps).2.natAbs ≤ 10000000000000000000000000000000000000000 ^ ps.length := by
  induction ps using snoc_ind with
  | h0 => exact ⟨by decide, by decide⟩
  | h1 ps p ih =>
    have hp := h p (List.mem_append_right _ List.mem_cons_self)
    have h0 : NumQ ps := fun q hq => h q (List.mem_append_left _ hq)
    obtain ⟨i1, i2⟩ := ih h0
    have r := sumQ_rt h0.good.pos
    obtain ⟨rp, b1, b2⟩ := hp
    rw [sumQ_snoc, List.length_append, List.length_singleton, Nat.pow_succ]
    generalize sumQ ps = a at i1 i2 r ⊢
    have ne : a.2 * p.2 ≠ 0 := Int.ne_of_gt (Int.mul_pos r.pos rp.pos)
    obtain ⟨l1, l2⟩ := low_le (n := a.1 * p.2 + p.1 * a.2) (d := a.2 * p.2) ne
    have n1 : (a.1 * p.2).natAbs ≤ ps.length * 10000000000000000000000000000000000000000 ^ ps.length * 10000000000000000000000000000000000000000 := by rw [Int.natAbs_mul]; exact Nat.mul_le_mul i1 b2
    have n2 : (p.1 * a.2).natAbs ≤ 10000000000000000000000000000000000000000 * 10000000000000000000000000000000000000000 ^ ps.length := by rw [Int.natAbs_mul]; exact Nat.mul_le_mul b1 i2
    have n3 : (a.2 * p.2).natAbs ≤ 10000000000000000000000000000000000000000 ^ ps.length * 10000000000000000000000000000000000000000 := by rw [Int.natAbs_mul]; exact Nat.mul_le_mul i2 b2
    refine ⟨Nat.le_trans l1 (Nat.le_trans (Int.natAbs_add_le _ _) (Nat.le_trans (Nat.add_le_add n1 n2) ?_)), Nat.le_trans l2 n3⟩
    generalize 10000000000000000000000000000000000000000 ^ ps.length = B
    rw [Nat.add_mul, Nat.one_mul, Nat.mul_assoc, Nat.mul_comm _ B]
    exact Nat.le_refl _
theorem sum_sm2 {ps : List Qn} (h : NumQ ps) (l : ps.length ≤ 14) : (sumQ ps).1.natAbs < 2 ^ 1900 := by
  have h1 := (sum_num h).1
  have h2 : (10000000000000000000000000000000000000000 : Nat) ^ ps.length ≤ 10000000000000000000000000000000000000000 ^ 14 := Nat.pow_le_pow_right (by decide) l
  exact Nat.lt_of_le_of_lt (Nat.le_trans h1 (Nat.mul_le_mul l h2)) (by decide +kernel)
theorem numAt_of {H : Hp} : ∀ {zs : List V} {os : List Qn}, zs.length = os.length → (∀ (i : Nat) (z : V) (o : Qn), zs[i]? = some z → os[i]? = some o → Dh H z (pairQ o)) → NumAt H zs os
  | [], [], _, _ => .nil
  | [], _ :: _, l, _ => by simp at l
  | _ :: _, [], l, _ => by simp at l
  | z :: zs, o :: os, l, h => .cons (h 0 z o rfl rfl) (numAt_of (by simpa using l) fun i z o e1 e2 => h (i + 1) z o (by simpa using e1) (by simpa using e2))
theorem prc_num {ps : List Qn} {y a : Qn} {k j : Nat} (hy : Rt y.1 y.2 ∧ y.2 ≤ lim) (ha : Rt a.1 a.2 ∧ a.2 ≤ lim) : prc leB (y, k) (a, j) = (decide (y.1 * a.2 < a.1 * y.2) || (decide (y.1 * a.2 = a.1 * y.2) && decide (k < j))) := by
  have h1 := bySq_lt (n := y.1) (n' := a.1) hy.1.pos hy.2 ha.1.pos ha.2
  have h2 := bySq_lt (n := a.1) (n' := y.1) ha.1.pos ha.2 hy.1.pos hy.2
  show (decide (bySq y ≤ bySq a) && (!decide (bySq a ≤ bySq y) || decide (k < j))) = _
  by_cases q1 : y.1 * a.2 < a.1 * y.2
  · have := h1.mpr q1
    have e1 : bySq y < bySq a := this
    rw [decide_eq_true (Int.le_of_lt e1), decide_eq_false (Int.not_le.mpr e1), decide_eq_true q1]
    rfl
  · by_cases q2 : a.1 * y.2 < y.1 * a.2
    · have e1 : bySq a < bySq y := h2.mpr q2
      rw [decide_eq_false (Int.not_le.mpr e1), decide_eq_false q1, decide_eq_false (show ¬ y.1 * a.2 = a.1 * y.2 by omega)]
      rfl
    · have e1 : ¬ bySq y < bySq a := fun z => q1 (h1.mp z)
      have e2 : ¬ bySq a < bySq y := fun z => q2 (h2.mp z)
      rw [decide_eq_true (Int.not_lt.mp e2), decide_eq_true (Int.not_lt.mp e1), decide_eq_false q1, decide_eq_true (show y.1 * a.2 = a.1 * y.2 by omega)]
      rfl
section
variable {P : Program} {w : World} {K : PySem.W.Frag} {mg : Str → Option Value} {base : Heap} {f : Addr} {fd : FuncData}
abbrev sLs : Stmt := top 140
abbrev nLs : List Str := ["_law_numbers", "_law_found", "_law_n", "_law_d"]
abbrev pLs : List Str := ["_law_numbers"]
theorem scLs : FnScope nLs pLs (defScope sLs) := ⟨rfl, rfl, rfl, by decide +kernel, rfl, by decide +kernel, by decide +kernel⟩
section
variable {fA_ : Addr} {fdA_ : FuncData}
theorem ok_Ls (F : Fun K "_law_sum" "_law_sum" sLs f fd) (T : Bt mg)
    (GA_ : FnOk P w K mg base CX0 1 fA_ fdA_ ["_law_n", "_law_d"] (spLowest)) (mA_ : mg "_law_lowest" = some (.ref fA_)) (kA_ : PySem.W.keepIn K (.ref fA_) = true) (bA_ : Binds K fdA_ ["_law_n", "_law_d"] []) : FnOk P w K mg base CX0 2 f fd pLs (spLsm) := by
  refine F.ok scLs (fun vs H Q E h => ?_) (fun cdv A outer s H vs Q E hr h => ?_)
  · obtain ⟨q, zs, ps, rfl, _⟩ := h
    rfl
  · obtain ⟨q, zs, ps, rfl, hn, k⟩ := h
    have hrA_ : Room (1) _ := hr.mono (by first | decide | omega)
    refine ⟨_, (pss_cons (ps_set (i := 1) scLs.nd rfl (Or.inl rfl) (pe_tup (pa_cons pe_int (pa_cons pe_int pa_nil))))
      (pss_cons (ps_for PassesOwn.never rfl (pi_list (pv 0)) (pg_tup rfl (pgs_cons (pg_name (i := 2) scLs.nd rfl (.inl rfl)) (pgs_cons (pg_name (i := 3) scLs.nd rfl (.inl rfl)) pgs_nil))) (pss_one (ps_set (i := 1) scLs.nd rfl (Or.inl rfl) (pe_call GA_ hrA_ (by rfl) mA_ kA_ bA_ .nil pass0 (pa_cons (pe_op op_add (pe_op op_mulW (pe_ix ix_tup (pv 1) pe_int (fun _ _ => rfl)) (pv 3)) (pe_op op_mulW (pv 2) (pe_ix ix_tup (pv 1) pe_int (fun _ _ => rfl)))) (pa_cons (pe_op op_mulW (pe_ix ix_tup (pv 1) pe_int (fun _ _ => rfl)) (pv 3)) pa_nil))))))
      (pss_one (ps_ret (pv 1))))), ?_⟩
    obtain ⟨hq, hz, hN, l14⟩ := hn
    have lz := hz.len
    have two : 2 ≤ sizeLine := by decide
    refine ⟨two, fun f0 hf0 => ?_⟩
    have z0 := Same.upd (o := .tup [.int 0, .int 1]) hf0
    refine ⟨_, rfl, q, rfl, ⟨_, SqL.of (z0 _ _ hq)⟩, for_list (K := K) (a := q) (xs := zs) (fun i σ H' => (∃ (p : Addr) (x2 x3 : Option V), σ = [some (.ref q), some (.ref p), x2, x3] ∧ H' p = some (.tup [.int (sumQ (ps.take i)).1, .int (sumQ (ps.take i)).2])) ∧ Same H H') ⟨⟨f0, _, _, rfl, upd_same⟩, z0⟩ (fun i σ H' _ pr => SqL.of (pr.2 _ _ hq)) ?_ ?_⟩
    · rintro i z σ H1 hi ⟨⟨p, x2, x3, rfl, ep⟩, s1⟩
      obtain ⟨o, a, eo, rfl, ea⟩ := hz.get hi
      have et : ps.take (i + 1) = ps.take i ++ [o] := by rw [List.take_add_one, eo]; rfl
      have nt : NumQ (ps.take i) := fun x hx => hN x (List.mem_of_mem_take hx)
      have lt : (ps.take i).length ≤ 14 := by rw [List.length_take]; omega
      obtain ⟨d0, d1⟩ := sum_sm nt lt
      have n1 := sum_sm2 nt lt
      obtain ⟨r, b1, b2⟩ := hN o (List.mem_of_getElem? eo)
      have o1 : o.1.natAbs < 2 ^ 200 := Nat.lt_of_le_of_lt b1 (by decide)
      have o2 : o.2.natAbs < 2 ^ 200 := Nat.lt_of_le_of_lt b2 (by decide)
      have ea1 := s1 _ _ ea
      have e5 : sumQ (ps.take (i + 1)) = addQ (sumQ (ps.take i)) o := by rw [et]; exact sumQ_snoc
      rw [e5]
      generalize sumQ (ps.take i) = A at ep d0 d1 n1 ⊢
      refine ⟨a, _, rfl, SqT.of ea1, rfl, _, _, rfl, _, _, rfl, rfl, ?_⟩
      dsimp only [gNil]
      have dd : 0 < A.2 * o.2 := Int.mul_pos d0 r.pos
      have db : (A.2 * o.2).natAbs < 2 ^ (1870 + 200) := wide_lt d1 o2
      refine ⟨_, rfl, p, _, _, .int A.1, rfl, rfl, SqT.of ep, at_of (j := 0) rfl rfl, _, rfl, _, _, rfl, rfl, wide_mul n1 o2 (by decide) (by decide) (by decide), _, rfl, _, rfl, p, _, _, .int A.2, rfl, rfl, SqT.of ep, at_of (j := 1) rfl rfl, _, _, rfl, rfl, wide_mul o1 d1 (by decide) (by decide) (by decide), _, _, rfl, rfl, ?_⟩
      refine ⟨_, rfl, p, _, _, .int A.2, rfl, rfl, SqT.of ep, at_of (j := 1) rfl rfl, _, rfl, _, _, rfl, rfl, wide_mul d1 o2 (by decide) (by decide) (by decide), _, _, rfl, dd, Nat.lt_of_lt_of_le db (Nat.pow_le_pow_right (by decide) (by decide)), fun p2 hp2 => ⟨⟨p2, some (.int o.1), some (.int o.2), rfl, ?_⟩, s1.trans (Same.upd hp2)⟩⟩
      rw [upd_same]
      rfl
    · rintro σ H1 ⟨⟨p, x2, x3, rfl, ep⟩, s1⟩
      rw [lz, List.take_length] at ep
      exact ⟨_, rfl, k p H1 s1 ep⟩
end
abbrev sLo : Stmt := top 139
abbrev nLo : List Str := ["_law_numbers", "_law_found", "_law_at", "_law_rank", "_law_other", "_law_left", "_law_right"]
abbrev pLo : List Str := ["_law_numbers"]
theorem scLo : FnScope nLo pLo (defScope sLo) := ⟨rfl, rfl, rfl, by decide +kernel, rfl, by decide +kernel, by decide +kernel⟩
section
theorem ok_Lo (F : Fun K "_law_ordered" "_law_ordered" sLo f fd) (T : Bt mg) : FnOk P w K mg base CX0 1 f fd pLo (spLor) := by
  refine F.ok scLo (fun vs H Q E h => ?_) (fun cdv A outer s H vs Q E hr h => ?_)
  · obtain ⟨q, zs, ps, rfl, _⟩ := h
    rfl
  · obtain ⟨q, zs, ps, rfl, hn, k⟩ := h
    refine ⟨_, (pss_cons (ps_set (i := 1) scLo.nd rfl (Or.inl rfl) (pe_op op_rep (pe_lst (pa_cons pe_non pa_nil)) (pe_callB call_len_seq (by rfl) T.len PySem.boot_len (pa_cons (pv 0) pa_nil))))
      (pss_cons (ps_for PassesOwn.never rfl (pi_range1 (by rfl) T.range (pa_cons (pe_callB call_len_seq (by rfl) T.len PySem.boot_len (pa_cons (pv 0) pa_nil)) pa_nil)) (pg_name (i := 2) scLo.nd rfl (.inl rfl)) (pss_cons (ps_set (i := 3) scLo.nd rfl (Or.inl rfl) pe_int)
      (pss_cons (ps_for PassesOwn.never rfl (pi_range1 (by rfl) T.range (pa_cons (pe_callB call_len_seq (by rfl) T.len PySem.boot_len (pa_cons (pv 0) pa_nil)) pa_nil)) (pg_name (i := 4) scLo.nd rfl (.inl rfl)) (pss_cons (ps_set (i := 5) scLo.nd rfl (Or.inl rfl) (pe_op op_mulW (pe_ix ix_tup (pe_ix ix_list (pv 0) (pv 4) (fun _ _ => rfl)) pe_int (fun _ _ => rfl)) (pe_ix ix_tup (pe_ix ix_list (pv 0) (pv 2) (fun _ _ => rfl)) pe_int (fun _ _ => rfl))))
      (pss_cons (ps_set (i := 6) scLo.nd rfl (Or.inl rfl) (pe_op op_mulW (pe_ix ix_tup (pe_ix ix_list (pv 0) (pv 2) (fun _ _ => rfl)) pe_int (fun _ _ => rfl)) (pe_ix ix_tup (pe_ix ix_list (pv 0) (pv 4) (fun _ _ => rfl)) pe_int (fun _ _ => rfl))))
      (pss_one (ps_if (PW.pt (pw_or (pt_cmpR op_lt (pv 5) (pv 6) (nomark _)) (pw_or1 (PW.pt (pw_and (pt_cmpR op_eq (pv 5) (pv 6) (nomark _)) (pw_and1 (pt_cmpR op_lt (pv 4) (pv 2) (nomark _)))))))) (pss_one (ps_set (i := 3) scLo.nd rfl (Or.inl rfl) (pe_op op_add (pv 3) pe_int))) pss_nil)))))
      (pss_one (ps_asg (pe_ix ix_list (pv 0) (pv 2) (fun _ _ => rfl)) (pg_sub (pv 1) (pv 3) set_list))))))
      (pss_one (ps_ret (pv 1))))), ?_⟩
    obtain ⟨hq, hz, hN, l14⟩ := hn
    have lz := hz.len
    have one : 1 ≤ sizeLine := by decide
    refine ⟨one, fun L0 hL0 => ?_⟩
    have z0 := Same.upd (o := .lst [.non]) hL0
    refine ⟨_, rfl, q, _, rfl, .inl (SqL.of (z0 _ _ hq)), L0, _, [.non], rfl, rfl, upd_same, by omega, by omega, ?_, fun F0 hF => ?_⟩
    · exact Nat.le_trans (show _ ≤ 40 by simp; omega) (by decide)
    have z1 := Same.upd (o := .lst (List.replicate ((zs.length : Nat) : Int).toNat [V.non]).flatten) hF
    have eF : L2.upd (L2.upd H L0 (.lst [.non])) F0 (.lst (List.replicate ((zs.length : Nat) : Int).toNat [V.non]).flatten) F0 = some (.lst (List.replicate zs.length V.non)) := by
      rw [upd_same]
      congr 2
      show (List.replicate zs.length [V.non]).flatten = _
      generalize zs.length = n
      induction n with
      | zero => rfl
      | succ n ih => rw [List.replicate_succ, List.flatten_cons, ih, List.replicate_succ]; rfl
    have s1 := z0.trans z1
    have fF : H F0 = none := Same.gone z0 hF
    generalize L2.upd (L2.upd H L0 (.lst [.non])) F0 (.lst (List.replicate ((zs.length : Nat) : Int).toNat [V.non]).flatten) = H1 at eF s1 ⊢
    refine ⟨_, rfl, q, _, rfl, .inl (SqL.of (s1 _ _ hq)), _, rfl, by omega, by omega, for_range (lo := 0) (n := zs.length) (fun j σ H' => (∃ x2 x3 x4 x5 x6 : Option V, σ = [some (.ref q), some (.ref F0), x2, x3, x4, x5, x6]) ∧ Same H H' ∧ ∃ Fs : List V, H' F0 = some (.lst Fs) ∧ Fs.length = zs.length ∧ ∀ i b p, i < j → zs[i]? = some b → ps[i]? = some p → Fs[rankOf leB ps i p]? = some b) ⟨⟨_, _, _, _, _, rfl⟩, s1, _, eF, List.length_replicate .., fun i b p h => absurd h (Nat.not_lt_zero _)⟩ ?_ ?_⟩
    · rintro j σ H2 hj ⟨⟨x2, x3, x4, x5, x6, rfl⟩, s2, Fs, eFs, lF, hFs⟩
      obtain ⟨zj, ezj⟩ : ∃ z, zs[j]? = some z := ⟨_, List.getElem?_eq_getElem hj⟩
      obtain ⟨pj, aj, epj, rfl, eaj⟩ := hz.get ezj
      obtain ⟨rj, bj1, bj2⟩ := hN pj (List.mem_of_getElem? epj)
      have gj := hN.good pj (List.mem_of_getElem? epj)
      refine ⟨_, rfl, q, _, rfl, .inl (SqL.of (s2 _ _ hq)), _, rfl, by omega, by omega, for_range (lo := 0) (n := zs.length) (fun k σ H' => (∃ x4 x5 x6 : Option V, σ = [some (.ref q), some (.ref F0), some (.int (0 + (j : Nat))), some (.int (((ps.zipIdx.take k).countP fun y => prc leB y (pj, j) : Nat) : Int)), x4, x5, x6]) ∧ H' = H2) ⟨⟨_, _, _, rfl⟩, rfl⟩ ?_ ?_⟩
      · rintro k σ H3 hk ⟨⟨x4, x5, x6, rfl⟩, rfl⟩
        obtain ⟨zk, ezk⟩ : ∃ z, zs[k]? = some z := ⟨_, List.getElem?_eq_getElem hk⟩
        obtain ⟨pk, ak, epk, rfl, eak⟩ := hz.get ezk
        obtain ⟨rk, bk1, bk2⟩ := hN pk (List.mem_of_getElem? epk)
        have gk := hN.good pk (List.mem_of_getElem? epk)
        have ez2 : ps.zipIdx[k]? = some (pk, k) := by rw [List.getElem?_zipIdx, epk]; simp
        have cnt : (ps.zipIdx.take (k + 1)).countP (fun y => prc leB y (pj, j)) = (ps.zipIdx.take k).countP (fun y => prc leB y (pj, j)) + (if (decide (pk.1 * pj.2 < pj.1 * pk.2) || (decide (pk.1 * pj.2 = pj.1 * pk.2) && decide (k < j))) = true then 1 else 0) := by
          rw [List.take_add_one, ez2, List.countP_append]
          show _ + List.countP _ [(pk, k)] = _
          rw [List.countP_singleton, prc_num (ps := ps) gk gj]
        generalize (ps.zipIdx.take k).countP (fun y => prc leB y (pj, j)) = n at cnt ⊢
        have sm : ∀ {i : Int}, i.natAbs ≤ 10000000000000000000000000000000000000000 → i.natAbs < 2 ^ 200 := fun h => Nat.lt_of_le_of_lt h (by decide)
        refine ⟨_, rfl, _, rfl, q, _, _, .ref ak, rfl, rfl, SqL.of (s2 _ _ hq), at_of (j := k) (by omega) ezk, ak, _, _, .int pk.1, rfl, rfl, SqT.of (s2 _ _ eak), at_of (j := 0) rfl rfl, _, rfl, _, rfl, q, _, _, .ref aj, rfl, rfl, SqL.of (s2 _ _ hq), at_of (j := j) (by omega) ezj, aj, _, _, .int pj.2, rfl, rfl, SqT.of (s2 _ _ eaj), at_of (j := 1) rfl rfl, _, _, rfl, rfl, wide_mul (sm bk1) (sm bj2) (by decide) (by decide) (by decide), ?_⟩
        refine ⟨_, rfl, _, rfl, q, _, _, .ref aj, rfl, rfl, SqL.of (s2 _ _ hq), at_of (j := j) (by omega) ezj, aj, _, _, .int pj.1, rfl, rfl, SqT.of (s2 _ _ eaj), at_of (j := 0) rfl rfl, _, rfl, _, rfl, q, _, _, .ref ak, rfl, rfl, SqL.of (s2 _ _ hq), at_of (j := k) (by omega) ezk, ak, _, _, .int pk.2, rfl, rfl, SqT.of (s2 _ _ eak), at_of (j := 1) rfl rfl, _, _, rfl, rfl, wide_mul (sm bj1) (sm bk2) (by decide) (by decide) (by decide), ?_⟩
        have fin : ∀ (x4 x5 x6 : Option V) (m : Int), m = (((ps.zipIdx.take (k + 1)).countP fun y => prc leB y (pj, j) : Nat) : Int) → (∃ x4' x5' x6' : Option V, [some (V.ref q), some (.ref F0), some (.int (0 + (j : Nat))), some (.int m), x4, x5, x6] = [some (V.ref q), some (.ref F0), some (.int (0 + (j : Nat))), some (.int (((ps.zipIdx.take (k + 1)).countP fun y => prc leB y (pj, j) : Nat) : Int)), x4', x5', x6']) ∧ H3 = H3 := fun x4 x5 x6 m e => ⟨⟨x4, x5, x6, by rw [e]⟩, rfl⟩
        simp only [Bool.or_eq_true, Bool.and_eq_true, decide_eq_true_eq] at cnt
        refine ⟨_, rfl, _, rfl, _, _, rfl, rfl, _, rfl, ite2 (fun y => ?_) (fun y => ?_)⟩
        · have y := of_decide_eq_true y
          rw [if_pos (.inl y)] at cnt
          exact iteT ⟨_, rfl, _, _, rfl, rfl, fin _ _ _ _ (by rw [cnt]; rfl)⟩
        have y : ¬ _ := fun h => y (decide_eq_true h)
        refine ⟨_, rfl, _, rfl, rfl, _, rfl, ite2 (fun y2 => ?_) (fun y2 => ?_)⟩
        · have y2 : pk.1 * pj.2 = pj.1 * pk.2 := by
            have := of_decide_eq_true y2
            injection this
          refine ⟨_, rfl, _, rfl, _, _, rfl, rfl, _, rfl, ite2 (fun y3 => ?_) (fun y3 => ?_)⟩
          · have y3 := of_decide_eq_true y3
            rw [if_pos (.inr ⟨y2, by omega⟩)] at cnt
            exact ⟨_, rfl, _, _, rfl, rfl, fin _ _ _ _ (by rw [cnt]; rfl)⟩
          · have y3 : ¬ _ := fun h => y3 (decide_eq_true h)
            rw [if_neg (fun h => by rcases h with h | h; exact y h; exact y3 (by omega))] at cnt
            exact fin _ _ _ _ (by rw [cnt]; rfl)
        · have y2 : ¬ pk.1 * pj.2 = pj.1 * pk.2 := fun h => y2 (decide_eq_true (congrArg V.int h))
          rw [if_neg (fun h => by rcases h with h | h; exact y h; exact y2 h.1)] at cnt
          exact iteF (fin _ _ _ _ (by rw [cnt]; rfl))
      · rintro σ H3 ⟨⟨x4, x5, x6, rfl⟩, rfl⟩
        rw [lz, List.take_of_length_le (by rw [List.length_zipIdx]; exact Nat.le_refl _)]
        have hrk : rankOf leB ps j pj < ps.length := by
          have h := (List.getElem?_eq_some_iff.mp (ordQ_at epj).1).1
          rw [ordQ_len] at h
          exact h
        refine ⟨_, rfl, _, rfl, q, _, _, .ref aj, rfl, rfl, SqL.of (s2 _ _ hq), at_of (j := j) (by omega) ezj, _, rfl, _, rfl, F0, Fs, _, rankOf leB ps j pj, rfl, rfl, eFs, ?_, ⟨_, _, _, _, _, rfl⟩, fun b o e => by rw [upd_ne (ne_of_none e fF)]; exact s2 b o e, _, upd_same, by rw [List.length_set, lF, lz], fun i b p hi eb epi => ?_⟩
        · unfold ixN
          rw [if_pos (by omega), if_pos (by rw [lF, lz]; exact Int.ofNat_lt.mpr hrk)]
          rfl
        · rcases Nat.lt_succ_iff_lt_or_eq.mp hi with hi | rfl
          · rw [List.getElem?_set_ne fun q => absurd ((ordQ_at epj).2 epi q.symm) (by omega)]
            exact hFs i b p hi eb epi
          · rw [epj] at epi
            obtain rfl := Option.some.inj epi
            rw [ezj] at eb
            obtain rfl := Option.some.inj eb
            rw [List.getElem?_set_self (by rw [lF, lz]; exact hrk)]
    · rintro σ H2 ⟨⟨x2, x3, x4, x5, x6, rfl⟩, s2, Fs, eFs, lF, hFs⟩
      refine ⟨_, rfl, k F0 Fs H2 s2 eFs (numAt_of (by rw [lF, lz, ordQ_len]) fun p z o ez eo => ?_)⟩
      have hp : p < ps.length := by
        have := (List.getElem?_eq_some_iff.mp eo).1
        rw [ordQ_len] at this
        exact this
      obtain ⟨j, a, ea, rk⟩ := ordQ_onto hp
      have lj := (List.getElem?_eq_some_iff.mp ea).1
      obtain ⟨zj, ezj⟩ : ∃ z, zs[j]? = some z := ⟨_, List.getElem?_eq_getElem (by omega)⟩
      have h1 := hFs j zj a (by omega) ezj ea
      have h2 := (ordQ_at ea).1
      rw [rk] at h1 h2
      rw [ez] at h1
      rw [eo] at h2
      obtain rfl := Option.some.inj h1
      obtain rfl := Option.some.inj h2
      obtain ⟨p', a', ep', rfl, ea'⟩ := hz.get ezj
      rw [ea] at ep'
      obtain rfl := Option.some.inj ep'
      exact pair_dh (s2 _ _ ea')
end
end
end K20
set_option Elab.async false
set_option linter.all false
set_option maxRecDepth 100000
set_option maxHeartbeats 4000000
namespace K20
open PySem PySem.Spec PyProof.Rows L2 Lc
def spLlm : Sp := fun vs H Q _ => ∃ (p : Addr) (n d : Int), vs = [.ref p] ∧ H p = some (.tup [.int n, .int d]) ∧ (Dh H (if limB (.int n) (.int d) = true then .ref p else .non) (limD n d) → Q (if limB (.int n) (.int d) = true then .ref p else .non) H)
theorem at_last {xs : List V} {n : Nat} {v : V} (l : xs.length = n + 1) (h : xs[n]? = some v) : atI xs (-1) = some v := by
  unfold atI
  rw [show ixN xs.length (-1) = some n from ?_]
  · exact h
  · unfold ixN
    rw [l, if_neg (by decide), if_pos (by omega)]
    exact congrArg some (by omega)
section
variable {P : Program} {w : World} {K : PySem.W.Frag} {mg : Str → Option Value} {base : Heap} {f : Addr} {fd : FuncData}
abbrev sMs : Stmt := top 141
abbrev nMs : List Str := ["_law_function", "_law_values_here", "_law_numbers", "_law_value_here", "_law_size", "_law_total", "_law_ordered_here"]
abbrev pMs : List Str := ["_law_function", "_law_values_here"]
theorem scMs : FnScope nMs pMs (defScope sMs) := ⟨rfl, rfl, rfl, by decide +kernel, rfl, by decide +kernel, by decide +kernel⟩
section
variable {fA_ fB_ fC_ : Addr} {fdA_ fdB_ fdC_ : FuncData}
theorem ok_Ms (F : Fun K "_law_measure" "_law_measure" sMs f fd) (T : Bt mg)
    (GA_ : FnOk P w K mg base CX0 2 fA_ fdA_ ["_law_numbers"] (spLsm)) (mA_ : mg "_law_sum" = some (.ref fA_)) (kA_ : PySem.W.keepIn K (.ref fA_) = true) (bA_ : Binds K fdA_ ["_law_numbers"] [])
    (GB_ : FnOk P w K mg base CX0 1 fB_ fdB_ ["_law_numbers"] (spLor)) (mB_ : mg "_law_ordered" = some (.ref fB_)) (kB_ : PySem.W.keepIn K (.ref fB_) = true) (bB_ : Binds K fdB_ ["_law_numbers"] [])
    (GC_ : FnOk P w K mg base CX0 1 fC_ fdC_ ["_law_n", "_law_d"] (spLowest)) (mC_ : mg "_law_lowest" = some (.ref fC_)) (kC_ : PySem.W.keepIn K (.ref fC_) = true) (bC_ : Binds K fdC_ ["_law_n", "_law_d"] []) : FnOk P w K mg base CX0 3 f fd pMs (spMea) := by
  refine F.ok scMs (fun vs H Q E h => ?_) (fun cdv A outer s H vs Q E hr h => ?_)
  · obtain ⟨q, zs, ds, fn, rfl, _⟩ := h
    rfl
  · obtain ⟨q, zs, ds, fn, rfl, hq, dz, ok, k⟩ := h
    have hrA_ : Room (2) _ := hr.mono (by first | decide | omega)
    have hrB_ : Room (1) _ := hr.mono (by first | decide | omega)
    have hrC_ : Room (1) _ := hr.mono (by first | decide | omega)
    refine ⟨_, (pss_cons (ps_setLc (i := 2) (own := [("_law_value_here", 3)]) (g := (gName 3)) (tt := (tTest (tOp rNotN (tVar 3) (tC .non)))) (te := tVar 3) (by rfl) scMs.nd rfl rfl (sw_true rfl rfl rfl (by decide +kernel)) (pi_list (pv 1)) (blkOk_by (own := [("_law_value_here", 3)]) (N := nMs) (sc := defScope sMs) (by decide +kernel)) (fun _ _ _ _ _ => (pg_name (i := 3) scMs.nd rfl (.inl rfl))) (fun _ _ _ _ _ => (pts_one (pt_cmpR op_notN (pv 3) pe_non (nomark _)))) (fun _ _ _ _ _ => (pv 3)))
      (pss_cons (ps_set (i := 4) scMs.nd rfl (Or.inl rfl) (pe_callB call_len_seq (by rfl) T.len PySem.boot_len (pa_cons (pv 2) pa_nil)))
      (pss_cons (ps_if (pt_cmpR op_eq (pv 0) pe_str (nomark _)) (pss_one (ps_ret (pe_tup (pa_cons (pv 4) (pa_cons pe_int pa_nil))))) pss_nil)
      (pss_cons (ps_if (pt_cmpR op_eq (pv 0) pe_str (nomark _)) (pss_one (ps_ret (pe_call GA_ hrA_ (by rfl) mA_ kA_ bA_ .nil pass0 (pa_cons (pv 2) pa_nil)))) pss_nil)
      (pss_cons (ps_if (pt_cmpR op_eq (pv 4) pe_int (nomark _)) (pss_one (ps_ret pe_non)) pss_nil)
      (pss_cons (ps_if (pt_cmpR op_eq (pv 0) pe_str (nomark _)) (pss_cons (ps_set (i := 5) scMs.nd rfl (Or.inl rfl) (pe_call GA_ hrA_ (by rfl) mA_ kA_ bA_ .nil pass0 (pa_cons (pv 2) pa_nil)))
      (pss_one (ps_ret (pe_call GC_ hrC_ (by rfl) mC_ kC_ bC_ .nil pass0 (pa_cons (pe_ix ix_tup (pv 5) pe_int (fun _ _ => rfl)) (pa_cons (pe_op op_mulW (pe_ix ix_tup (pv 5) pe_int (fun _ _ => rfl)) (pv 4)) pa_nil)))))) pss_nil)
      (pss_cons (ps_set (i := 6) scMs.nd rfl (Or.inl rfl) (pe_call GB_ hrB_ (by rfl) mB_ kB_ bB_ .nil pass0 (pa_cons (pv 2) pa_nil)))
      (pss_cons (ps_if (pt_cmpR op_eq (pv 0) pe_str (nomark _)) (pss_one (ps_ret (pe_ix ix_list (pv 6) pe_int (fun _ _ => rfl)))) pss_nil)
      (pss_cons (ps_if (pt_cmpR op_eq (pv 0) pe_str (nomark _)) (pss_one (ps_ret (pe_ix ix_list (pv 6) (pe_un un_neg pe_int) (fun _ _ => rfl)))) pss_nil)
      (pss_cons (ps_set (i := 5) scMs.nd rfl (Or.inl rfl) (pe_call GA_ hrA_ (by rfl) mA_ kA_ bA_ .nil pass0 (pa_cons (pe_lst (pa_cons (pe_ix ix_list (pv 6) (pe_op op_fdiv (pe_op op_sub (pv 4) pe_int) pe_int) (fun _ _ => rfl)) (pa_cons (pe_ix ix_list (pv 6) (pe_op op_fdiv (pv 4) pe_int) (fun _ _ => rfl)) pa_nil))) pa_nil)))
      (pss_one (ps_ret (pe_call GC_ hrC_ (by rfl) mC_ kC_ bC_ .nil pass0 (pa_cons (pe_ix ix_tup (pv 5) pe_int (fun _ _ => rfl)) (pa_cons (pe_op op_mulW (pe_ix ix_tup (pv 5) pe_int (fun _ _ => rfl)) pe_int) pa_nil))))))))))))))), ?_⟩
    have lz := dz.len
    have l14 := ok.len
    have two : 2 ≤ sizeLine := by decide
    refine ⟨_, rfl, q, rfl, ⟨_, SqL.of hq⟩, fun P1 hP => lc_list (K := K) (a := q) (xs := zs) (fun i H' => (∃ ys, H' P1 = some (.lst ys) ∧ DhAll H ys (presD (ds.take i))) ∧ Same H H') ⟨⟨[], upd_same, .nil⟩, Same.upd hP⟩ (fun i H' _ pr => SqL.of (pr.2 _ _ hq)) ?_ ?_⟩
    · rintro i x H1 hx ⟨⟨ys, eP, ly⟩, s1⟩
      obtain ⟨d, ed, dd⟩ := dz.get i x hx
      have li := (List.getElem?_eq_some_iff.mp ed).1
      have fl : presD (ds.take (i + 1)) = presD (ds.take i) ++ presD [d] := by
        rw [List.take_add_one, ed]
        exact List.filter_append ..
      have l1 : ys.length ≤ 1000 := by
        have := ly.len
        have l2 : (presD (ds.take i)).length ≤ (ds.take i).length := List.length_filter_le _ _
        rw [List.length_take] at l2
        omega
      refine ⟨rfl, _, rfl, rfl, _, rfl, ?_⟩
      rw [dh_isN dd]
      refine ite2 (fun w => ⟨_, rfl, _, eP, lt_size l1, ⟨_, upd_same, ?_⟩, fun b o e => by rw [upd_ne (ne_of_none e hP)]; exact s1 b o e⟩) (fun w => ⟨⟨ys, eP, ?_⟩, s1⟩)
      · rw [fl, show presD [d] = [d] from List.filter_cons_of_pos w]
        exact DhAll.append ly (.cons dd .nil)
      · rw [fl, show presD [d] = [] from List.filter_cons_of_neg w, List.append_nil]
        exact ly
    rintro H1 ⟨⟨ys, eP, dy⟩, s1⟩
    rw [lz, List.take_length] at dy
    have lp : (presD ds).length ≤ ds.length := List.length_filter_le _ _
    have dy1 := DhAll.same s1 dy
    have ly := dy.len
    refine ⟨_, rfl, P1, ys, rfl, .inl (SqL.of eP), _, rfl, rfl, _, rfl, ite2 (fun z => ?_) (fun z => ?_)⟩
    · have hf : fn = "count" := by
        have := of_decide_eq_true z
        injection this
      refine ⟨_, rfl, two, fun t ht => ?_⟩
      have zt := Same.upd (o := .tup [.int (ys.length : Nat), .int 1]) ht
      refine k _ _ (s1.trans zt) ?_
      unfold totT
      rw [if_pos hf, ← ly]
      exact pair_dh upd_same
    have hf : fn ≠ "count" := fun e => z (by rw [e]; exact decide_eq_true rfl)
    obtain ⟨e1, nq⟩ := nums_pres (ok.num hf)
    have l14' : (numsD ds).length ≤ 14 := Nat.le_trans (List.length_filterMap_le _ _) l14
    rw [e1] at dy1
    have dy1 : NumAt H1 ys (numsD ds) := dy1
    have NL : NumL H1 P1 ys (numsD ds) := ⟨eP, dy1, nq, l14'⟩
    have lY := NumAt.len dy1
    have kt : totT fn ds = pairO (totQ fn (numsD ds)) := if_neg hf
    rw [kt] at k
    generalize numsD ds = ps at *
    refine ⟨_, rfl, rfl, _, rfl, ite2 (fun z2 => ?_) (fun z2 => ?_)⟩
    · have hs : fn = "sum" := by
        have := of_decide_eq_true z2
        injection this
      have et : totQ fn ps = some (sumQ ps) := by
        unfold totQ
        rw [if_neg hf, if_pos hs]
      rw [et] at k
      exact ⟨_, rfl, P1, ys, _, rfl, NL, fun p H2 s2 e2 => k _ _ (s1.trans s2) (pair_dh e2)⟩
    have hs : fn ≠ "sum" := fun e => z2 (by rw [e]; exact decide_eq_true rfl)
    refine ⟨_, rfl, rfl, _, rfl, ite2 (fun z3 => ?_) (fun z3 => ?_)⟩
    · have l0 : ps.length = 0 := by
        have := of_decide_eq_true z3
        injection this with this
        omega
      have et : totQ fn ps = none := by
        unfold totQ
        rw [if_neg hf, if_neg hs, if_pos l0]
      rw [et] at k
      exact k _ _ s1 .non
    have n0 : ps.length ≠ 0 := fun e => z3 (by rw [lY, e]; exact decide_eq_true rfl)
    have kk : totQ fn ps = if fn = "mean" then some (meanQ ps) else if fn = "median" then some (medQ ps) else if fn = "least" then (ordQ ps)[0]? else (ordQ ps)[ps.length - 1]? := by
      unfold totQ
      rw [if_neg hf, if_neg hs, if_neg n0]
    rw [kk] at k
    obtain ⟨s0, s1'⟩ := sum_sm nq l14'
    refine ⟨_, rfl, rfl, _, rfl, ite2 (fun z4 => ?_) (fun z4 => ?_)⟩
    · have hm : fn = "mean" := by
        have := of_decide_eq_true z4
        injection this
      rw [if_pos hm] at k
      refine ⟨_, rfl, P1, ys, ps, rfl, NL, fun p H2 s2 e2 => ?_⟩
      have lz2 : ys.length < 2 ^ 10 := by rw [lY]; exact Nat.lt_of_le_of_lt l14' (by decide)
      have d1 : ((sumQ ps).2 * ((ys.length : Nat) : Int)).natAbs < 2 ^ (1870 + 10) := wide_lt s1' (by rw [Int.natAbs_natCast]; exact lz2)
      have d0 : 0 < (sumQ ps).2 * ((ys.length : Nat) : Int) := Int.mul_pos s0 (by omega)
      refine ⟨_, rfl, p, _, _, .int (sumQ ps).1, rfl, rfl, SqT.of e2, at_of (j := 0) rfl rfl, _, rfl, p, _, _, .int (sumQ ps).2, rfl, rfl, SqT.of e2, at_of (j := 1) rfl rfl, _, rfl, _, _, rfl, rfl, wide_mul s1' (show ((ys.length : Nat) : Int).natAbs < 2 ^ 10 by rw [Int.natAbs_natCast]; exact lz2) (by decide) (by decide) (by decide), _, _, rfl, d0, Nat.lt_of_lt_of_le d1 (Nat.pow_le_pow_right (by decide) (by decide)), fun p2 hp2 => k _ _ (s1.trans (s2.trans (Same.upd hp2))) ?_⟩
      refine pair_dh ?_
      rw [upd_same, lY]
      rfl
    have hm : fn ≠ "mean" := fun e => z4 (by rw [e]; exact decide_eq_true rfl)
    rw [if_neg hm] at k
    -- in order
    refine ⟨_, rfl, P1, ys, ps, rfl, NL, fun D os H2 s2 eD dos => ?_⟩
    have s12 := s1.trans s2
    have lo := dos.len
    rw [ordQ_len] at lo
    refine ⟨_, rfl, rfl, _, rfl, ite2 (fun z5 => ?_) (fun z5 => ?_)⟩
    · have hl : fn = "least" := by
        have := of_decide_eq_true z5
        injection this
      rw [if_neg (by rw [hl]; decide +kernel), if_pos hl] at k
      obtain ⟨y, ey⟩ : ∃ y, os[0]? = some y := ⟨_, List.getElem?_eq_getElem (by omega)⟩
      obtain ⟨p, a, ep, rfl, ea⟩ := dos.get ey
      rw [ep] at k
      exact ⟨_, rfl, D, os, _, .ref a, rfl, rfl, SqL.of eD, at_of (j := 0) rfl ey, k _ _ s12 (pair_dh ea)⟩
    have hl : fn ≠ "least" := fun e => z5 (by rw [e]; exact decide_eq_true rfl)
    refine ⟨_, rfl, rfl, _, rfl, ite2 (fun z6 => ?_) (fun z6 => ?_)⟩
    · have hg : fn = "greatest" := by
        have := of_decide_eq_true z6
        injection this
      rw [if_neg (by rw [hg]; decide +kernel), if_neg hl] at k
      obtain ⟨y, ey⟩ : ∃ y, os[ps.length - 1]? = some y := ⟨_, List.getElem?_eq_getElem (by omega)⟩
      obtain ⟨p, a, ep, rfl, ea⟩ := dos.get ey
      rw [ep] at k
      exact ⟨_, rfl, 1, rfl, D, os, _, .ref a, rfl, rfl, SqL.of eD, at_last (n := ps.length - 1) (by omega) ey, k _ _ s12 (pair_dh ea)⟩
    have hg : fn ≠ "greatest" := fun e => z6 (by rw [e]; exact decide_eq_true rfl)
    have hd : fn = "median" := by
      have := ok.f
      simp only [fnS, List.mem_cons, List.not_mem_nil, or_false] at this
      rcases this with h | h | h | h | h | h
      · exact absurd h hf
      · exact absurd h hs
      · exact absurd h hm
      · exact h
      · exact absurd h hl
      · exact absurd h hg
    rw [if_pos hd] at k
    have g1 := ordQ_getD nq.good (i := (ps.length - 1) / 2) (by omega)
    have g2 := ordQ_getD nq.good (i := ps.length / 2) (by omega)
    obtain ⟨y1, ey1⟩ : ∃ y, os[(ps.length - 1) / 2]? = some y := ⟨_, List.getElem?_eq_getElem (by omega)⟩
    obtain ⟨y2, ey2⟩ : ∃ y, os[ps.length / 2]? = some y := ⟨_, List.getElem?_eq_getElem (by omega)⟩
    obtain ⟨p1, a1, ep1, rfl, ea1⟩ := dos.get ey1
    obtain ⟨p2, a2, ep2, rfl, ea2⟩ := dos.get ey2
    rw [g1.1] at ep1
    rw [g2.1] at ep2
    have q1 := Option.some.inj ep1
    have q2 := Option.some.inj ep2
    have n2 : NumQ [p1, p2] := fun x hx => by
      simp only [List.mem_cons, List.not_mem_nil, or_false] at hx
      rcases hx with rfl | rfl
      · rw [← q1]; exact nq _ g1.2
      · rw [← q2]; exact nq _ g2.2
    have em : medQ ps = halfQ p1 p2 := by
      unfold medQ
      rw [q1, q2]
    rw [em] at k
    refine ⟨_, rfl, _, rfl, _, _, rfl, rfl, _, _, rfl, rfl, ⟨by decide, by decide⟩, D, os, _, .ref a1, rfl, rfl, SqL.of eD, at_of (j := (ps.length - 1) / 2) ?_ ey1, _, rfl, _, rfl, _, _, rfl, rfl, ⟨by decide, by decide⟩, D, os, _, .ref a2, rfl, rfl, SqL.of eD, at_of (j := ps.length / 2) ?_ ey2, two, fun D2 hD2 => ?_⟩
    · show (((ys.length : Nat) : Int) - 1) / 2 = _
      rw [lY]
      omega
    · show ((ys.length : Nat) : Int) / 2 = _
      rw [lY]
      omega
    have z2 := Same.upd (o := .lst [V.ref a1, V.ref a2]) hD2
    have s13 := s12.trans z2
    obtain ⟨m0, m1⟩ := sum_sm n2 (by show 2 ≤ 14; decide)
    refine ⟨D2, _, [p1, p2], rfl, ⟨upd_same, .cons (pair_dh (z2 _ _ ea1)) (.cons (pair_dh (z2 _ _ ea2)) .nil), n2, by show 2 ≤ 14; decide⟩, fun p H3 s3 e3 => ?_⟩
    have d1 : ((sumQ [p1, p2]).2 * 2).natAbs < 2 ^ (1870 + 10) := wide_lt m1 (by decide)
    have d0 : 0 < (sumQ [p1, p2]).2 * 2 := Int.mul_pos m0 (by decide)
    refine ⟨_, rfl, p, _, _, .int (sumQ [p1, p2]).1, rfl, rfl, SqT.of e3, at_of (j := 0) rfl rfl, _, rfl, p, _, _, .int (sumQ [p1, p2]).2, rfl, rfl, SqT.of e3, at_of (j := 1) rfl rfl, _, _, rfl, rfl, wide_mul m1 (show (2 : Int).natAbs < 2 ^ 10 by decide) (by decide) (by decide) (by decide), _, _, rfl, d0, Nat.lt_of_lt_of_le d1 (Nat.pow_le_pow_right (by decide) (by decide)), fun p2' hp2 => k _ _ (s13.trans (s3.trans (Same.upd hp2))) ?_⟩
    refine pair_dh ?_
    rw [upd_same]
    rfl
end
abbrev sLli : Stmt := top 137
abbrev nLli : List Str := ["_law_number"]
abbrev pLli : List Str := ["_law_number"]
theorem scLli : FnScope nLli pLli (defScope sLli) := ⟨rfl, rfl, rfl, by decide +kernel, rfl, by decide +kernel, by decide +kernel⟩
section
theorem ok_Lli (F : Fun K "_law_limited" "_law_limited" sLli f fd) (T : Bt mg) : FnOk P w K mg base CX0 1 f fd pLli (spLlm) := by
  refine F.ok scLli (fun vs H Q E h => ?_) (fun cdv A outer s H vs Q E hr h => ?_)
  · obtain ⟨p, n, d, rfl, _⟩ := h
    rfl
  · obtain ⟨p, n, d, rfl, hp, k⟩ := h
    refine ⟨_, (pss_cons (ps_if (PW.pt (pw_or (pt_cmpR op_gt (pe_callB call_abs (by rfl) T.abs boot_abs (pa_cons (pe_ix ix_tup (pv 0) pe_int (fun _ _ => rfl)) pa_nil)) (pe_op op_pow pe_int pe_int) (nomark _)) (pw_or1 (pt_cmpR op_gt (pe_ix ix_tup (pv 0) pe_int (fun _ _ => rfl)) (pe_op op_pow pe_int pe_int) (nomark _))))) (pss_one (ps_ret pe_non)) pss_nil)
      (pss_one (ps_ret (pv 0)))), ?_⟩
    have pw40 : CPow 10 40 := ⟨by decide, by decide, by decide⟩
    have e : limB (.int n) (.int d) = (decide ((if n < 0 then -n else n) ≤ lim) && decide (d ≤ lim)) := rfl
    unfold limD at k
    refine ⟨_, rfl, p, _, _, _, rfl, rfl, SqT.of hp, rfl, n, rfl, _, _, rfl, rfl, pw40, _, _, rfl, rfl, _, rfl, ?_⟩
    rw [p40]
    by_cases g1 : (if n < 0 then -n else n) > 10000000000000000000000000000000000000000
    · rw [decide_eq_true g1]
      have e0 : limB (.int n) (.int d) = false := by rw [e, decide_eq_false (show ¬ (if n < 0 then -n else n) ≤ lim by unfold lim; omega)]; rfl
      rw [e0, if_neg (by decide), if_neg (by decide)] at k
      exact iteT (iteT (k .non))
    · rw [decide_eq_false g1]
      refine iteF ⟨_, rfl, p, _, _, _, rfl, rfl, SqT.of hp, rfl, _, _, rfl, rfl, pw40, _, _, rfl, rfl, _, rfl, ?_⟩
      rw [p40]
      have e1 : decide ((if n < 0 then -n else n) ≤ lim) = true := decide_eq_true (by unfold lim; omega)
      by_cases g2 : d > 10000000000000000000000000000000000000000
      · rw [decide_eq_true g2]
        have e0 : limB (.int n) (.int d) = false := by rw [e, e1, decide_eq_false (show ¬ d ≤ lim by unfold lim; omega)]; rfl
        rw [e0, if_neg (by decide), if_neg (by decide)] at k
        exact iteT (k .non)
      · rw [decide_eq_false g2]
        have e0 : limB (.int n) (.int d) = true := by rw [e, e1, decide_eq_true (show d ≤ lim by unfold lim; omega)]; rfl
        rw [e0, if_pos rfl, if_pos rfl] at k
        exact iteF ⟨_, rfl, k (.tup hp (.cons (.int n) (.cons (.int d) .nil)))⟩
end
end
end K20
set_option Elab.async false
set_option linter.all false
set_option maxRecDepth 100000
set_option maxHeartbeats 4000000
namespace K20
open PySem PySem.Spec PyProof.Rows L2 Lc
/-! ## the groups' rows that are due -/
def spGd : Sp := fun vs H Q _ => ∃ (L a p : Addr) (ps qs : CsL) (rs : RowsL) (ks : List Str) (ts : List (Str × Str × Str)), vs = [.ref L, .ref a, .ref p] ∧ CA H L ps ∧ ColP ps ∧ H a = some (.lst (rs.map (·.1))) ∧ RowsAt H rs ∧ RowW ps (rs.map (·.2)) ∧ rs.length ≤ 14 ∧ Dh H (.ref p) (Ps.d (.group ks ts)) ∧ Lead [] ps (.group ks ts) qs ∧
  ∀ (D : Addr) (rs' : RowsL) (H' : Hp), Same H H' → H' D = some (.lst (rs'.map (·.1))) → RowsAt H' rs' → rs'.map (·.2) = stepB [] ps (.group ks ts) (rs.map (·.2)) → Q (.ref D) H'
abbrev teP1 (K : PySem.W.Frag) : TE := (tOp (rIxT K) (tVar 4) (tC (.int 0)))
abbrev teP2 (K : PySem.W.Frag) : TE := (tBM K "list" (rIndex K) (tVar 3) (tCons (tVar 8) tNil))
abbrev teP3 (K : PySem.W.Frag) : TE := (tOp (rIxT K) (tOp (rIxT K) (tVar 13) (tC (.int 0))) (tBM K "list" (rIndex K) (tVar 3) (tCons (tVar 11) tNil)))
abbrev teP4 (K : PySem.W.Frag) : TE := (tOp (rIxT K) (tVar 13) (tC (.int 1)))
theorem tot_cases (fn : Str) (ds : List PyData) : (∃ p : Qn, totT fn ds = pairQ p ∧ totD fn ds = limD p.1 p.2) ∨ (totT fn ds = .none ∧ totD fn ds = .none) := by
  by_cases hf : fn = "count"
  · exact .inl ⟨(((presD ds).length : Nat), 1), if_pos hf, if_pos hf⟩
  · have e1 : totT fn ds = pairO (totQ fn (numsD ds)) := if_neg hf
    have e2 : totD fn ds = limO (totQ fn (numsD ds)) := if_neg hf
    cases q0 : totQ fn (numsD ds) with
    | none => exact .inr ⟨by rw [e1, q0]; rfl, by rw [e2, q0]; rfl⟩
    | some p => exact .inl ⟨p, by rw [e1, q0]; rfl, by rw [e2, q0]; rfl⟩
section
variable {P : Program} {w : World} {K : PySem.W.Frag} {mg : Str → Option Value} {base : Heap} {f : Addr} {fd : FuncData}
abbrev sGd : Stmt := top 143
abbrev nGd : List Str := ["_law_columns_here", "_law_rows_here", "_law_step", "_law_names", "_law_part", "_law_found", "_law_key", "_law_members", "_law_name_here", "_law_values_here", "_law_function", "_law_column", "_law_number", "_law_row"]
abbrev pGd : List Str := ["_law_columns_here", "_law_rows_here", "_law_step"]
theorem scGd : FnScope nGd pGd (defScope sGd) := ⟨rfl, rfl, rfl, by decide +kernel, rfl, by decide +kernel, by decide +kernel⟩
section
variable {fA_ fB_ fC_ fD_ : Addr} {fdA_ fdB_ fdC_ fdD_ : FuncData}
theorem ok_Gd (F : Fun K "_law_group_due" "_law_group_due" sGd f fd) (T : Bt mg)
    (GA_ : FnOk P w K mg base CX0 1 fA_ fdA_ ["_law_rows_here", "_law_places"] (spLg)) (mA_ : mg "_law_grouped" = some (.ref fA_)) (kA_ : PySem.W.keepIn K (.ref fA_) = true) (bA_ : Binds K fdA_ ["_law_rows_here", "_law_places"] [])
    (GB_ : FnOk P w K mg base CX0 3 fB_ fdB_ ["_law_function", "_law_values_here"] (spMea)) (mB_ : mg "_law_measure" = some (.ref fB_)) (kB_ : PySem.W.keepIn K (.ref fB_) = true) (bB_ : Binds K fdB_ ["_law_function", "_law_values_here"] [])
    (GC_ : FnOk P w K mg base CX0 1 fC_ fdC_ ["_law_number"] (spLlm)) (mC_ : mg "_law_limited" = some (.ref fC_)) (kC_ : PySem.W.keepIn K (.ref fC_) = true) (bC_ : Binds K fdC_ ["_law_number"] [])
    (GD_ : FnOk P w K mg base CX0 1 fD_ fdD_ ["_law_lineages"] (spUn)) (mD_ : mg "_law_union" = some (.ref fD_)) (kD_ : PySem.W.keepIn K (.ref fD_) = true) (bD_ : Binds K fdD_ ["_law_lineages"] []) : FnOk P w K mg base CX0 4 f fd pGd (spGd) := by
  refine F.ok scGd (fun vs H Q E h => ?_) (fun cdv A outer s H vs Q E hr h => ?_)
  · obtain ⟨Lc, a, p, ps, qs, rs, ks, ts, rfl, _⟩ := h
    rfl
  · obtain ⟨Lc, a, p, ps, qs, rs, ks, ts, rfl, hL, cp, ha, ra, rw_, l14, hd, ld, k⟩ := h
    have hrA_ : Room (1) _ := hr.mono (by first | decide | omega)
    have hrB_ : Room (3) _ := hr.mono (by first | decide | omega)
    have hrC_ : Room (1) _ := hr.mono (by first | decide | omega)
    have hrD_ : Room (1) _ := hr.mono (by first | decide | omega)
    refine ⟨_, (Evl.pss_cut (ps_set (i := 3) scGd.nd rfl (Or.inr rfl) (pe_lc (own := [("_law_part", 4)]) (g := (gName 4)) (tt := tYes) (te := (teP1 K)) (by rfl) scGd.nd (pi_tup (pv 0)) (blkOk_by (own := [("_law_part", 4)]) (N := nGd) (sc := defScope sGd) (by decide +kernel)) (fun _ _ _ _ _ => (pg_name (i := 4) scGd.nd rfl (.inl rfl))) (fun _ _ _ _ _ => pts_nil) (fun _ _ _ _ _ => (pe_ix ix_tup (pv 4) pe_int (fun _ _ => rfl)))))
      (pss_cons (ps_set (i := 5) scGd.nd rfl (Or.inl rfl) (pe_lst pa_nil))
      (pss_cons (ps_for PassesOwn.never rfl (pi_list (pe_call GA_ hrA_ (by rfl) mA_ kA_ bA_ .nil pass0 (pa_cons (pv 1) (pa_cons (pe_lc (own := [("_law_name_here", 8)]) (g := (gName 8)) (tt := tYes) (te := (teP2 K)) (by rfl) scGd.nd (pi_tup (pe_ix ix_tup (pv 2) pe_int (fun _ _ => rfl))) (blkOk_by (own := [("_law_name_here", 8)]) (N := nGd) (sc := defScope sGd) (by decide +kernel)) (fun _ _ _ _ _ => (pg_name (i := 8) scGd.nd rfl (.inl rfl))) (fun _ _ _ _ _ => pts_nil) (fun _ _ _ _ _ => (pe_bm PySem.F.plainAttrs_list PySem.F.slot_list_index PySem.F.type_list_index mt_index (pv 3) (pa_cons (pv 8) pa_nil)))) pa_nil)))) (pg_tup rfl (pgs_cons (pg_name (i := 6) scGd.nd rfl (.inl rfl)) (pgs_cons (pg_name (i := 7) scGd.nd rfl (.inl rfl)) pgs_nil))) (pss_cons (ps_set (i := 9) scGd.nd rfl (Or.inl rfl) (pe_callTy call_list_of (by rfl) T.list boot_list (pa_cons (pv 6) pa_nil)))
      (Evl.pss_cut (ps_for PassesOwn.never rfl (pi_tup (pe_ix ix_tup (pv 2) pe_int (fun _ _ => rfl))) (pg_tup rfl (pgs_cons (pg_name (i := 8) scGd.nd rfl (.inl rfl)) (pgs_cons (pg_name (i := 10) scGd.nd rfl (.inl rfl)) (pgs_cons (pg_name (i := 11) scGd.nd rfl (.inr rfl)) pgs_nil)))) (pss_cons (ps_set (i := 12) scGd.nd rfl (Or.inl rfl) (pe_call GB_ hrB_ (by rfl) mB_ kB_ bB_ .nil pass0 (pa_cons (pv 10) (pa_cons (pe_lc (own := [("_law_row", 13)]) (g := (gName 13)) (tt := tYes) (te := (teP3 K)) (by rfl) scGd.nd (pi_list (pv 7)) (blkOk_by (own := [("_law_row", 13)]) (N := nGd) (sc := defScope sGd) (by decide +kernel)) (fun _ _ _ _ _ => (pg_name (i := 13) scGd.nd rfl (.inl rfl))) (fun _ _ _ _ _ => pts_nil) (fun _ _ _ _ _ => (pe_ix ix_tup (pe_ix ix_tup (pv 13) pe_int (fun _ _ => rfl)) (pe_bm PySem.F.plainAttrs_list PySem.F.slot_list_index PySem.F.type_list_index mt_index (pv 3) (pa_cons (pv 11) pa_nil)) (fun _ _ => rfl)))) pa_nil))))
      (pss_one (ps_expr (pe_bm PySem.F.plainAttrs_list PySem.F.slot_list_append PySem.F.type_list_append mt_append (pv 9) (pa_cons (pe_ifExp (pt_cmpR op_isN (pv 12) pe_non (nomark _)) pe_non (pe_call GC_ hrC_ (by rfl) mC_ kC_ bC_ .nil pass0 (pa_cons (pv 12) pa_nil))) pa_nil))))))
      (pss_one (ps_expr (pe_bm PySem.F.plainAttrs_list PySem.F.slot_list_append PySem.F.type_list_append mt_append (pv 5) (pa_cons (pe_tup (pa_cons (pe_callTy call_tuple_of (by rfl) T.tuple boot_tuple (pa_cons (pv 9) pa_nil)) (pa_cons (pe_call GD_ hrD_ (by rfl) mD_ kD_ bD_ .nil pass0 (pa_cons (pe_lc (own := [("_law_row", 13)]) (g := (gName 13)) (tt := tYes) (te := (teP4 K)) (by rfl) scGd.nd (pi_list (pv 7)) (blkOk_by (own := [("_law_row", 13)]) (N := nGd) (sc := defScope sGd) (by decide +kernel)) (fun _ _ _ _ _ => (pg_name (i := 13) scGd.nd rfl (.inl rfl))) (fun _ _ _ _ _ => pts_nil) (fun _ _ _ _ _ => (pe_ix ix_tup (pv 13) pe_int (fun _ _ => rfl)))) pa_nil)) pa_nil))) pa_nil)))))))
      (pss_one (ps_ret (pv 5)))))), ?_⟩
    cases ld with
    | group hk g ht =>
    obtain ⟨v, u, e1, dv, du⟩ := dh3g hd
    obtain ⟨b, rfl, eb⟩ := dh_strs dv
    cases du with
    | @tup tq us _ eu hu =>
    have lu : us.length = ts.length := by rw [hu.len, List.length_map]
    obtain ⟨t1, t6⟩ := g.tl
    have kl := g.kl
    have ok := rw_.ok
    have two : 2 ≤ sizeLine := by decide
    have fl : (vS (nms ps)).all flatV = true := List.all_eq_true.mpr fun v hv => by
      obtain ⟨x, _, rfl⟩ := List.mem_map.mp hv
      rfl
    -- the names
    refine ⟨fun σ H' => ∃ N : Addr, σ = [some (.ref Lc), some (.ref a), some (.ref p), some (.ref N), none, none, none, none, none, none, none, none, none, none] ∧ H' N = some (.lst (vS (nms ps))) ∧ Same H H', ?_, ?_⟩
    · obtain ⟨xs, zL, cc⟩ := hL
      refine ⟨_, rfl, Lc, rfl, ⟨_, zL.sq⟩, fun W hW => lc_tup (K := K) (a := Lc) (xs := xs) (fun i H' => H' W = some (.lst (vS ((nms ps).take i))) ∧ Same H H') ⟨upd_same, Same.upd hW⟩ (fun i H' _ pr => (zL.same pr.2).sq) ?_ ?_⟩
      · rintro i x H1 hx ⟨hW1, s1⟩
        obtain ⟨ca, z, kk2, rfl, ea, ep⟩ := cc.get _ _ hx
        refine ⟨rfl, ?_⟩
        dsimp only [tYes]
        refine iteT ?_
        change teP1 K _ _ _
        exact ⟨_, rfl, ca, _, _, .str z, rfl, rfl, SqT.of (s1 _ _ ea), at_of (j := 0) rfl rfl, nm_turn hW hW1 ep cp.l8 s1⟩
      rintro H1 ⟨hW1, s1⟩
      rw [show xs.length = (nms ps).length by rw [cc.len, List.length_map], List.take_length] at hW1
      exact ⟨W, rfl, hW1, s1⟩
    rintro σ H1 ⟨N, rfl, eN, s1⟩
    refine ⟨by show 0 ≤ sizeLine; decide, fun F hF => ?_⟩
    have zF := Same.upd (o := .lst []) hF
    have eF : L2.upd H1 F (.lst []) F = some (.lst []) := upd_same
    have hFH : H F = none := Same.gone s1 hF
    have s2 := s1.trans zF
    have eN2 := zF _ _ eN
    generalize L2.upd H1 F (.lst []) = H2 at eF s2 eN2 ⊢
    have nNF : N ≠ F := ne_of_none eN hF
    clear zF hF s1 eN
    -- the places
    refine ⟨_, rfl, _, rfl, p, _, _, .ref b, rfl, rfl, SqT.of (s2 _ _ e1), at_of (j := 1) rfl rfl, b, rfl, ⟨_, SqT.of (s2 _ _ eb)⟩, fun D hD => lc_tup (K := K) (a := b) (xs := vS ks) (fun i H' => H' D = some (.lst (jsV ((ks.take i).map fun n => (nms ps).idxOf n))) ∧ Same H2 H') ⟨upd_same, Same.upd hD⟩ (fun i H' _ pr => SqT.of (pr.2 _ _ (s2 _ _ eb))) ?_ ?_⟩
    · rintro i y H3 hy ⟨eD, s3⟩
      rw [List.getElem?_map] at hy
      obtain ⟨n, en, rfl⟩ := Option.map_eq_some_iff.mp hy
      have gm := hk n (List.mem_of_getElem? en)
      have eW2 := s3 _ _ eN2
      refine ⟨rfl, ?_⟩
      dsimp only [tYes]
      refine iteT ?_
      change teP2 K _ _ _
      refine ⟨_, rfl, .inl ⟨rfl, _, SqL.of eW2⟩, _, rfl, N, vS (nms ps), .str n, (nms ps).idxOf n, .str n, rfl, rfl, SqL.of eW2, rfl, fl, by rw [List.getElem?_map, idx_at gm]; rfl, by simp [eqV], fun m z' lt ez => ?_, _, eD, ?_, ?_, fun b o e => by rw [upd_ne (ne_of_none e hD)]; exact s3 b o e⟩
      · rw [List.getElem?_map] at ez
        obtain ⟨z, ez2, rfl⟩ := Option.map_eq_some_iff.mp ez
        have := idx_no lt ez2
        simp [eqV, this]
      · unfold jsV
        rw [List.length_map, List.length_map, List.length_take]
        exact lt_size (by omega)
      · rw [upd_same, List.take_add_one, en]
        unfold jsV
        rw [List.map_append, List.map_append]
        rfl
    rintro H3 ⟨eD, s3⟩
    rw [List.length_map, List.take_length] at eD
    generalize hjs : ks.map (fun n => (nms ps).idxOf n) = js at eD
    have lj : js.length ≤ 8 := by rw [← hjs, List.length_map]; omega
    have s03 := s2.trans s3
    refine ⟨a, D, rs, ps.map (·.2), js, rfl, s03 _ _ ha, ra.same s03, fun r hr => rw_ r.2 (List.mem_map_of_mem hr), by omega, eD, fun j hj => ?_, lj, fun G0 xs H4 fG s4 eG gd => ?_⟩
    · rw [← hjs] at hj
      obtain ⟨n, hn, rfl⟩ := List.mem_map.mp hj
      have := List.idxOf_lt_length_of_mem (hk n hn)
      rw [List.length_map]
      rw [List.length_map] at this
      exact this
    have s24 := s3.trans s4
    have s04 := s2.trans s24
    have lG := gd.len
    have lG2 := grp_len (atJ js) rs
    have gof := grpR_of (atJ js) rs
    have gsum := grp_sum (atJ js) rs
    have eF3 := s3 _ _ eF
    have eF4 := s24 _ _ eF
    have nG : G0 ≠ F := fun z => by rw [z, eF3] at fG; cases fG
    have fin : ∀ (W : Addr) (H' : Hp) (rs' : RowsL), Same H H' → H' W = some (.lst (rs'.map (·.1))) → RowsAt H' rs' → rs'.map (·.2) = (grpR (atJ js) rs).map (fun g => outG ps ts (g.1, g.2.map (·.2))) → Q (.ref W) H' := fun W H' rs' s e ra em => by
      refine k W rs' H' s e ra ?_
      rw [em]
      show _ = (grpR (atD (ks.map fun n => (nms ps).idxOf n)) (rs.map (·.2))).map (outG ps ts)
      rw [hjs, ← grpR_map (fun r : V × RowD => r.2) (atJ js) (atD js) (fun _ => rfl), List.map_map]
      rfl
    generalize grpR (atJ js) rs = G at gd lG lG2 gof gsum fin
    refine ⟨G0, rfl, ⟨_, SqL.of eG⟩, for_list (K := K) (a := G0) (xs := xs) (fun i σ H' => (∃ x6 x7 x8 x9 x10 x11 x12 : Option V, σ = [some (.ref Lc), some (.ref a), some (.ref p), some (.ref N), none, some (.ref F), x6, x7, x8, x9, x10, x11, x12, none]) ∧ (∃ rs' : RowsL, H' F = some (.lst (rs'.map (·.1))) ∧ RowsAt H' rs' ∧ RowsOk rs' ∧ rs'.map (·.2) = (G.take i).map fun g => outG ps ts (g.1, g.2.map (·.2))) ∧ SameB F H4 H') ⟨⟨_, _, _, _, _, _, _, rfl⟩, ⟨[], eF4, nofun, nofun, rfl⟩, SameB.refl _ _⟩ (fun i σ H' _ pr => SqL.of (pr.2.2 _ _ nG eG)) ?_ ?_⟩
    · rintro i x σ H5 hx ⟨⟨x6, x7, x8, x9, x10, x11, x12, rfl⟩, ⟨rs', eR, ra', ok', em⟩, sB⟩
      obtain ⟨t, kl, ml, kvs, key, mem, eGi, rfl, et, ek, dk, ko, eml, fk, fm⟩ := gd.get hx
      have li := (List.getElem?_eq_some_iff.mp eGi).1
      have mo1 := (gof _ (List.mem_of_getElem? eGi)).2
      have mo2 : mem.length ≤ 14 := by
        have h3 : mem.length ≤ (G.map fun x => x.2.length).sum := le_sum (List.mem_map_of_mem (f := fun x : List PyData × RowsL => x.2.length) (List.mem_of_getElem? eGi))
        omega
      have lkey : key.length ≤ 8 := by
        obtain ⟨r, _, e⟩ := (gof _ (List.mem_of_getElem? eGi)).1
        have e : key = atJ js r := e
        rw [e]
        unfold atJ
        rw [List.length_map]
        exact lj
      have l' : rs'.length ≤ 1000 := by
        have := congrArg List.length em
        rw [List.length_map, List.length_map, List.length_take] at this
        omega
      have okl : ∀ l ∈ mem.map (fun r => r.2.lin), LinOk l := fun l hl => by
        obtain ⟨r, hr, rfl⟩ := List.mem_map.mp hl
        exact (ok r (mo1 r hr)).2
      have nkF : kl ≠ F := fun z => by rw [z, eF3] at fk; cases fk
      have nmF : ml ≠ F := fun z => by rw [z, eF3] at fm; cases fm
      have st5 : SameT H4 H5 := fun b xs e => sB b _ (ne_of e eF4 nofun) e
      have s05 : Same H H5 := fun b o e => sB b o (ne_of_none e hFH) (s04 b o e)
      have ek5 := sB _ _ nkF ek
      have em5 := sB _ _ nmF eml
      have dk5 : DhAll H5 kvs key := dk.t st5 (noLs_all.mpr fun d hd => (ko d hd).2.2.1)
      have eN5 := sB _ _ nNF (s24 _ _ eN2)
      refine ⟨t, _, rfl, SqT.of (st5 _ _ et), rfl, _, _, rfl, _, _, rfl, rfl, ?_⟩
      dsimp only [gNil]
      refine ⟨_, rfl, kl, kvs, rfl, .inl (SqL.of ek5), fun V0 hV0 => ?_⟩
      have zV := Same.upd (o := .lst kvs) hV0
      have eV6 : L2.upd H5 V0 (.lst kvs) V0 = some (.lst kvs) := upd_same
      have dk6 := dk5.same zV
      generalize L2.upd H5 V0 (.lst kvs) = H6 at zV eV6 dk6 ⊢
      have s06 := s05.trans zV
      have em6 := zV _ _ em5
      have eN6 := zV _ _ eN5
      have nmV : ml ≠ V0 := ne_of_none em5 hV0
      have nNV : N ≠ V0 := ne_of_none eN5 hV0
      have hVH : H V0 = none := Same.gone s05 hV0
      let tots : List PyData := ts.map fun t => totD t.2.1 (mem.map fun r => r.2.vals.getD ((nms ps).idxOf t.2.2) .none)
      have ltot : tots.length = ts.length := List.length_map _
      refine ⟨fun σ H' => (∃ x8 x10 x11 x12 : Option V, σ = [some (.ref Lc), some (.ref a), some (.ref p), some (.ref N), none, some (.ref F), some (.ref kl), some (.ref ml), x8, some (.ref V0), x10, x11, x12, none]) ∧ (∃ vs, H' V0 = some (.lst vs) ∧ DhAll H' vs (key ++ tots)) ∧ SameB V0 H6 H', ?_, ?_⟩
      · have eu6 := s06 _ _ eu
        refine ⟨_, rfl, p, _, _, .ref tq, rfl, rfl, SqT.of (s06 _ _ e1), at_of (j := 2) rfl rfl, tq, rfl, ⟨_, SqT.of eu6⟩, for_tup (K := K) (a := tq) (xs := us) (fun m σ H' => (∃ x8 x10 x11 x12 : Option V, σ = [some (.ref Lc), some (.ref a), some (.ref p), some (.ref N), none, some (.ref F), some (.ref kl), some (.ref ml), x8, some (.ref V0), x10, x11, x12, none]) ∧ (∃ vs, H' V0 = some (.lst vs) ∧ DhAll H' vs (key ++ tots.take m)) ∧ SameB V0 H6 H') ⟨⟨_, _, _, _, rfl⟩, ⟨kvs, eV6, by rw [List.take_zero, List.append_nil]; exact dk6⟩, SameB.refl _ _⟩ (fun m σ H' _ pr => SqT.of (pr.2.2 _ _ (ne_of eu6 eV6 nofun) eu6)) ?_ ?_⟩
        · rintro m x σ H7 hx2 ⟨⟨x8, x10, x11, x12, rfl⟩, ⟨vs, eV, dvs⟩, sV⟩
          obtain ⟨d, ed, dd⟩ := hu.get m x hx2
          rw [List.getElem?_map] at ed
          obtain ⟨t0, et0, rfl⟩ := Option.map_eq_some_iff.mp ed
          have htm := List.mem_of_getElem? et0
          obtain ⟨_, hc, hn⟩ := ht t0 htm
          obtain ⟨q, rfl, eq⟩ := totS3_dh dd
          have s07 : Same H H7 := fun b o e => sV b o (ne_of_none e hVH) (s06 b o e)
          have eN7 := sV _ _ nNV eN6
          have em7 := sV _ _ nmV em6
          have lvs := dvs.len
          rw [List.length_append, List.length_take] at lvs
          have lj0 : (nms ps).idxOf t0.2.2 < ps.length := by
            have := List.idxOf_lt_length_of_mem hc
            rw [List.length_map] at this
            exact this
          refine ⟨q, _, rfl, SqT.of (s07 _ _ eq), rfl, _, _, rfl, _, _, rfl, _, _, rfl, rfl, ?_⟩
          dsimp only [gNil]
          refine ⟨_, rfl, _, rfl, ml, rfl, ⟨_, SqL.of em7⟩, fun Y hY => lc_list (K := K) (a := ml) (xs := mem.map (·.1)) (fun m2 H' => (∃ ys, H' Y = some (.lst ys) ∧ DhAll H' ys ((mem.take m2).map fun r => r.2.vals.getD ((nms ps).idxOf t0.2.2) .none)) ∧ Same H7 H') ⟨⟨[], upd_same, .nil⟩, Same.upd hY⟩ (fun m2 H' _ pr => SqL.of (pr.2 _ _ em7)) ?_ ?_⟩
          · rintro m2 x2 H8 hx3 ⟨⟨ys, eY, dys⟩, s8⟩
            rw [List.getElem?_map] at hx3
            obtain ⟨r, er, rfl⟩ := Option.map_eq_some_iff.mp hx3
            have rm := List.mem_of_getElem? er
            have lm := (List.getElem?_eq_some_iff.mp er).1
            obtain ⟨rr, va, lb, ev, e2, dvals, _⟩ := row_at ((ra r (mo1 r rm)).same (s07.trans s8))
            obtain ⟨vk, _⟩ := rw_ r.2 (List.mem_map_of_mem (mo1 r rm))
            have lv := vk.len
            rw [List.length_map] at lv
            cases dvals with
            | @tup _ us2 _ eu2 hu2 =>
            have lu2 := hu2.len
            have ly := dys.len
            rw [List.length_map, List.length_take] at ly
            generalize hjj : (nms ps).idxOf t0.2.2 = j at lj0 dys ⊢
            obtain ⟨d, ed⟩ : ∃ d, r.2.vals[j]? = some d := ⟨_, List.getElem?_eq_getElem (by omega)⟩
            obtain ⟨w, ew⟩ : ∃ w, us2[j]? = some w := ⟨_, List.getElem?_eq_getElem (by omega)⟩
            obtain ⟨d', ed', dw⟩ := hu2.get j w ew
            rw [ed] at ed'
            obtain rfl := Option.some.inj ed'
            have eN8 := s8 _ _ eN7
            refine ⟨rfl, ?_⟩
            dsimp only [tYes]
            refine iteT ?_
            change teP3 K _ _ _
            refine ⟨_, rfl, rr, _, _, .ref va, ev, rfl, SqT.of e2, at_of (j := 0) rfl rfl, _, rfl, .inl ⟨rfl, _, SqL.of eN8⟩, _, rfl, N, vS (nms ps), .str t0.2.2, j, .str t0.2.2, rfl, rfl, SqL.of eN8, rfl, fl, by rw [List.getElem?_map, ← hjj, idx_at hc]; rfl, by simp [eqV], fun m z' lt ez => ?_, va, us2, (j : Int), w, rfl, rfl, SqT.of eu2, at_of (j := j) (by omega) ew, ys, eY, lt_size (by omega), ⟨ys ++ [w], upd_same, ?_⟩, fun b' o e => by rw [upd_ne (ne_of_none e hY)]; exact s8 b' o e⟩
            · rw [List.getElem?_map] at ez
              obtain ⟨z, ez2, rfl⟩ := Option.map_eq_some_iff.mp ez
              rw [← hjj] at lt
              have := idx_no lt ez2
              simp [eqV, this]
            · rw [List.take_add_one, er, List.map_append]
              refine DhAll.append (DhAll.t (SameT.lst eY) dys (noLs_all.mpr fun x hx => ?_)) ?_
              · obtain ⟨q2, hq2, rfl⟩ := List.mem_map.mp hx
                obtain ⟨vq, _⟩ := rw_ q2.2 (List.mem_map_of_mem (mo1 q2 (List.mem_of_mem_take hq2)))
                have lq := vq.len
                rw [List.length_map] at lq
                refine vq.noL _ ?_
                rw [List.getD_eq_getElem?_getD, List.getElem?_eq_getElem (show j < q2.2.vals.length by omega)]
                exact List.getElem_mem _
              · show DhAll _ [w] [r.2.vals.getD j .none]
                rw [List.getD_eq_getElem?_getD, ed]
                exact .cons (dw.t (SameT.lst eY) (vk.noL d (List.mem_of_getElem? ed))) .nil
          rintro H8 ⟨⟨ys, eY, dys⟩, s8⟩
          rw [List.length_map, List.take_length] at dys
          have tok := tot_ok cp (t := t0) (g.t t0 htm).2.1 hc hn (ds := mem.map (·.2)) (fun r hr => by
            obtain ⟨q2, hq2, rfl⟩ := List.mem_map.mp hr
            exact rw_ q2.2 (List.mem_map_of_mem (mo1 q2 hq2))) (by rw [List.length_map]; exact mo2)
          rw [List.map_map] at tok
          refine ⟨Y, ys, _, t0.2.1, rfl, eY, dys, tok, fun w H9 s9 dw => ?_⟩
          have s79 := s8.trans s9
          have eV9 := s79 _ _ eV
          have dvs9 := dvs.same s79
          have et2 : tots[m]? = some (totD t0.2.1 (mem.map fun r => r.2.vals.getD ((nms ps).idxOf t0.2.2) .none)) := by
            show (ts.map _)[m]? = _
            rw [List.getElem?_map, et0]
            rfl
          have nol : noLs (key ++ tots.take m) = true := noLs_all.mpr fun d hd => by
            rcases List.mem_append.mp hd with hd | hd
            · exact (ko d hd).2.2.1
            · obtain ⟨t', _, rfl⟩ := List.mem_map.mp (List.mem_of_mem_take hd)
              exact totD_noL _ _
          have fin2 : ∀ (y : V) (x8 x10 x11 x12 : Option V), Dh H9 y (totD t0.2.1 (mem.map fun r => r.2.vals.getD ((nms ps).idxOf t0.2.2) .none)) → (∃ x8' x10' x11' x12' : Option V, [some (V.ref Lc), some (.ref a), some (.ref p), some (.ref N), none, some (.ref F), some (.ref kl), some (.ref ml), x8, some (.ref V0), x10, x11, x12, none] = [some (V.ref Lc), some (.ref a), some (.ref p), some (.ref N), none, some (.ref F), some (.ref kl), some (.ref ml), x8', some (.ref V0), x10', x11', x12', none]) ∧ (∃ vs2, L2.upd H9 V0 (.lst (vs ++ [y])) V0 = some (.lst vs2) ∧ DhAll (L2.upd H9 V0 (.lst (vs ++ [y]))) vs2 (key ++ tots.take (m + 1))) ∧ SameB V0 H6 (L2.upd H9 V0 (.lst (vs ++ [y]))) := fun y x8 x10 x11 x12 dy => by
            refine ⟨⟨_, _, _, _, rfl⟩, ⟨vs ++ [y], upd_same, ?_⟩, fun b o n e => by rw [upd_ne n]; exact s79 _ _ (sV b o n e)⟩
            rw [List.take_add_one, et2, ← List.append_assoc]
            exact DhAll.append (DhAll.t (SameT.lst eV9) dvs9 nol) (.cons (dy.t (SameT.lst eV9) (totD_noL _ _)) .nil)
          have lv1 : vs.length ≤ 1000 := by omega
          refine ⟨_, rfl, .inl ⟨rfl, _, SqL.of eV9⟩, ?_⟩
          have cases2 : (∃ o : Qn, totT t0.2.1 (mem.map fun r => r.2.vals.getD ((nms ps).idxOf t0.2.2) .none) = pairQ o ∧ totD t0.2.1 (mem.map fun r => r.2.vals.getD ((nms ps).idxOf t0.2.2) .none) = limD o.1 o.2) ∨ (totT t0.2.1 (mem.map fun r => r.2.vals.getD ((nms ps).idxOf t0.2.2) .none) = .none ∧ totD t0.2.1 (mem.map fun r => r.2.vals.getD ((nms ps).idxOf t0.2.2) .none) = .none) := tot_cases _ _
          rcases cases2 with ⟨o, q1, q2⟩ | ⟨q1, q2⟩
          · rw [q1] at dw
            rw [q2] at fin2
            obtain ⟨a9, rfl, ea9⟩ := pair_at dw
            exact ⟨_, rfl, rfl, _, rfl, iteF ⟨_, rfl, a9, o.1, o.2, rfl, ea9, fun dl => ⟨V0, _, _, rfl, rfl, eV9, lt_size lv1, fin2 _ _ _ _ _ dl⟩⟩⟩
          · rw [q1] at dw
            rw [q2] at fin2
            cases dw
            exact ⟨_, rfl, rfl, _, rfl, iteT ⟨V0, _, _, rfl, rfl, eV9, lt_size lv1, fin2 _ _ _ _ _ .non⟩⟩
        · rintro σ H7 ⟨⟨x8, x10, x11, x12, rfl⟩, ⟨vs, eV, dvs⟩, sV⟩
          rw [lu, ← ltot, List.take_length] at dvs
          exact ⟨⟨_, _, _, _, rfl⟩, ⟨vs, eV, dvs⟩, sV⟩
      · rintro σ H7 ⟨⟨x8, x10, x11, x12, rfl⟩, ⟨vs, eV, dvs⟩, sV⟩
        have s07 : Same H H7 := fun b o e => sV b o (ne_of_none e hVH) (s06 b o e)
        have stV : SameT H6 H7 := fun b xs e => sV b _ (ne_of e eV6 nofun) e
        have nFV : F ≠ V0 := ne_of_none eR hV0
        have eR7 := sV _ _ nFV (zV _ _ eR)
        have em7 := sV _ _ nmV em6
        have ra7 : RowsAt H7 rs' := fun y hy => ((ra' y hy).same zV).t stV (row_noL (ok' y hy).1)
        refine ⟨_, rfl, .inl ⟨rfl, _, SqL.of eR7⟩, _, rfl, V0, vs, rfl, .inl ⟨SqL.of eV, fun kt hkt => ?_⟩⟩
        have zk := Same.upd (o := .tup vs) hkt
        have dkt : Dh (L2.upd H7 kt (.tup vs)) (.ref kt) (.tuple (key ++ tots)) := .tup upd_same (dvs.same zk)
        generalize L2.upd H7 kt (.tup vs) = H8 at zk dkt ⊢
        have s08 := s07.trans zk
        have em8 := zk _ _ em7
        refine ⟨_, rfl, ml, rfl, ⟨_, SqL.of em8⟩, fun Y hY => lc_list (K := K) (a := ml) (xs := mem.map (·.1)) (fun m H' => (∃ ys, H' Y = some (.lst ys) ∧ LinsAt H' ys ((mem.take m).map fun r => r.2.lin)) ∧ Same H8 H') ⟨⟨[], upd_same, .nil⟩, Same.upd hY⟩ (fun m H' _ pr => SqL.of (pr.2 _ _ em8)) ?_ ?_⟩
        · rintro m x H9 hx ⟨⟨ys, eY, ly⟩, s9⟩
          rw [List.getElem?_map] at hx
          obtain ⟨r, er, rfl⟩ := Option.map_eq_some_iff.mp hx
          obtain ⟨rr, va, lb, ev, e2, _, dl⟩ := row_at ((ra r (mo1 r (List.mem_of_getElem? er))).same (s08.trans s9))
          have li := (List.getElem?_eq_some_iff.mp er).1
          have lly := ly.len
          rw [List.length_map, List.length_take] at lly
          refine ⟨rfl, ?_⟩
          dsimp only [tYes]
          refine iteT ?_
          change teP4 K _ _ _
          rw [List.take_add_one, er, List.map_append]
          exact ⟨_, rfl, rr, _, _, .ref lb, ev, rfl, SqT.of e2, at_of (j := 1) rfl rfl, lins_turn hY eY ly (by omega) dl s9⟩
        rintro H9 ⟨⟨ys, eY, ly⟩, s9⟩
        rw [List.length_map, List.take_length] at ly
        refine ⟨Y, ys, _, rfl, eY, ly, okl, fun w H10 s10 dw => ⟨two, fun t2 ht2 => ?_⟩⟩
        have zt := Same.upd (o := .tup [.ref kt, w]) ht2
        have s8t := s9.trans (s10.trans zt)
        have s7t := zk.trans s8t
        have eR' := s7t _ _ eR7
        have lo : LinOk (outG ps ts (key, mem.map (·.2))).lin := by
          show LinOk (unL ((mem.map (·.2)).map (·.lin)))
          rw [List.map_map]
          exact unL_ok okl
        have ev : (outG ps ts (key, mem.map (·.2))).vals = key ++ tots := by
          show key ++ ts.map _ = key ++ tots
          congr 1
          refine List.map_congr_left fun t _ => ?_
          rw [List.map_map]
          rfl
        have newd : Dh (L2.upd H10 t2 (.tup [.ref kt, w])) (.ref t2) (outG ps ts (key, mem.map (·.2))).d := by
          unfold RowD.d
          rw [ev]
          exact .tup upd_same (.cons (dkt.same s8t) (.cons (by
            have := dw.same zt
            show Dh _ w (linD (unL ((mem.map (·.2)).map (·.lin))))
            rw [List.map_map]
            exact this) .nil))
        have nol : noLs (outG ps ts (key, mem.map (·.2))).vals = true := by
          rw [ev]
          refine noLs_all.mpr fun d hd => ?_
          rcases List.mem_append.mp hd with hd | hd
          · exact (ko d hd).2.2.1
          · obtain ⟨t', _, rfl⟩ := List.mem_map.mp hd
            exact totD_noL _ _
        refine ⟨F, _, _, rfl, rfl, eR', lt_size (by rw [List.length_map]; exact l'), ⟨_, _, _, _, _, _, _, rfl⟩, ⟨rs' ++ [(.ref t2, outG ps ts (key, mem.map (·.2)))], by rw [upd_same, List.map_append]; rfl, fun y hy => ?_, fun y hy => ?_, by rw [List.map_append, em, List.take_add_one, eGi, List.map_append]; rfl⟩, fun b' o n e => by rw [upd_ne n]; exact s7t _ _ (sV _ _ (ne_of_none (sB b' o n e) hV0) (zV _ _ (sB b' o n e)))⟩
        · rcases List.mem_append.mp hy with hy | hy
          · exact ((ra7 y hy).same s7t).t (SameT.lst eR') (row_noL (ok' y hy).1)
          · rw [List.mem_singleton.mp hy]
            exact newd.t (SameT.lst eR') (row_noL nol)
        · rcases List.mem_append.mp hy with hy | hy
          · exact ok' y hy
          · rw [List.mem_singleton.mp hy]
            exact ⟨nol, lo⟩
    · rintro σ H5 ⟨⟨x6, x7, x8, x9, x10, x11, x12, rfl⟩, ⟨rs', eR, ra', ok', em⟩, sB⟩
      rw [lG, List.take_length] at em
      exact ⟨_, rfl, fin F H5 rs' (fun b o e => sB b o (ne_of_none e hFH) (s04 b o e)) eR ra' em⟩
end
end
end K20
set_option Elab.async false
set_option linter.all false
set_option maxRecDepth 100000
set_option maxHeartbeats 4000000
namespace K20
open PySem PySem.Spec PyProof.Rows L2 Lc
/-! ## rows whose values are taken in part from others -/
def spAlk : Sp := fun vs H Q _ => ∃ (t c R : Addr) (ps : CsL) (rs0 : RowsL), vs = [.ref t, .ref R] ∧ TapeL c H t ∧ ColP ps ∧ H R = some (.lst (rs0.map (·.1))) ∧ R ≠ t ∧ RowsAt (dl t H) rs0 ∧ RowW ps (rs0.map (·.2)) ∧ rs0.length ≤ 14 ∧
  ∀ (N : Addr) (rs : RowsL) (H' : Hp), H' N = some (.lst (rs.map (·.1))) → N ≠ t → RowsAt (dl t H') rs → RowW ps (rs.map (·.2)) → rs.length ≤ 14 → TapeL c H' t → SameB t H H' → Q (.ref N) H'
theorem Vks.mixN : ∀ {ks : List Str} {a b : List PyData} (n : Nat), Vks ks a → Vks ks b → Vks ks (a.take n ++ b.drop n)
  | _, _, _, 0, _, h => by rw [List.take_zero, List.drop_zero]; exact h
  | _, _, _, n + 1, .nil, .nil => .nil
  | _, _, _, n + 1, .cons h r, .cons _ r' => .cons h (Vks.mixN n r r')
theorem cutD_len (ds : List PyData) (lo hi : Option Int) : (cutD ds lo hi).length ≤ ds.length := by
  unfold cutD
  rw [List.length_take, List.length_drop]
  omega
section
variable {P : Program} {w : World} {K : PySem.W.Frag} {mg : Str → Option Value} {base : Heap} {f : Addr} {fd : FuncData}
abbrev sAlk : Stmt := top 144
abbrev nAlk : List Str := ["_law_tape_here", "_law_rows_here", "_law_found", "_law_values_here", "_law_lineage_here", "_law_other", "_law_cut"]
abbrev pAlk : List Str := ["_law_tape_here", "_law_rows_here"]
theorem scAlk : FnScope nAlk pAlk (defScope sAlk) := ⟨rfl, rfl, rfl, by decide +kernel, rfl, by decide +kernel, by decide +kernel⟩
section
variable {fA_ : Addr} {fdA_ : FuncData}
theorem ok_Alk (F : Fun K "_law_alike" "_law_alike" sAlk f fd) (T : Bt mg)
    (GA_ : FnOk P w K mg base CX0 1 fA_ fdA_ ["_law_tape_here", "_law_many"] (spDrawL)) (mA_ : mg "_law_draw" = some (.ref fA_)) (kA_ : PySem.W.keepIn K (.ref fA_) = true) (bA_ : Binds K fdA_ ["_law_tape_here", "_law_many"] []) : FnOk P w K mg base CX0 2 f fd pAlk (spAlk) := by
  refine F.ok scAlk (fun vs H Q E h => ?_) (fun cdv A outer s H vs Q E hr h => ?_)
  · obtain ⟨t, c, R, ps, rs0, rfl, _⟩ := h
    rfl
  · obtain ⟨t, c, R, ps, rs0, rfl, hT, cp, hR, nR, ra0, rw0, l14, k⟩ := h
    have hrA_ : Room (1) _ := hr.mono (by first | decide | omega)
    refine ⟨_, (pss_cons (ps_set (i := 2) scAlk.nd rfl (Or.inl rfl) (pe_lst pa_nil))
      (pss_cons (ps_for PassesOwn.never rfl (pi_list (pv 1)) (pg_tup rfl (pgs_cons (pg_name (i := 3) scAlk.nd rfl (.inl rfl)) (pgs_cons (pg_name (i := 4) scAlk.nd rfl (.inl rfl)) pgs_nil))) (Evl.pss_cut (ps_if (PW.pt (pw_and (pt_truth (pv 2) (fun _ => rfl)) (pw_and1 (pt_cmpR op_eq (pe_call GA_ hrA_ (by rfl) mA_ kA_ bA_ .nil pass0 (pa_cons (pv 0) (pa_cons pe_int pa_nil))) pe_int (nomark _))))) (pss_cons (ps_set (i := 5) scAlk.nd rfl (Or.inl rfl) (pe_ix ix_tup (pe_ix ix_list (pv 2) (pe_call GA_ hrA_ (by rfl) mA_ kA_ bA_ .nil pass0 (pa_cons (pv 0) (pa_cons (pe_callB call_len_seq (by rfl) T.len PySem.boot_len (pa_cons (pv 2) pa_nil)) pa_nil))) (fun _ _ => rfl)) pe_int (fun _ _ => rfl)))
      (pss_cons (ps_set (i := 6) scAlk.nd rfl (Or.inl rfl) (pe_call GA_ hrA_ (by rfl) mA_ kA_ bA_ .nil pass0 (pa_cons (pv 0) (pa_cons (pe_op op_add (pe_callB call_len_seq (by rfl) T.len PySem.boot_len (pa_cons (pv 3) pa_nil)) pe_int) pa_nil))))
      (pss_one (ps_set (i := 3) scAlk.nd rfl (Or.inl rfl) (pe_op op_catA (pe_slice sl_tupA (pv 5) po_none (po_some (pv 6))) (pe_slice sl_tupA (pv 3) (po_some (pv 6)) po_none)))))) pss_nil)
      (pss_one (ps_expr (pe_bm PySem.F.plainAttrs_list PySem.F.slot_list_append PySem.F.type_list_append mt_append (pv 2) (pa_cons (pe_tup (pa_cons (pv 3) (pa_cons (pv 4) pa_nil))) pa_nil))))))
      (pss_one (ps_ret (pv 2))))), ?_⟩
    have two : 2 ≤ sizeLine := by decide
    refine ⟨by show 0 ≤ sizeLine; decide, fun N hN => ?_⟩
    have zN := Same.upd (o := .lst []) hN
    have nN := hT.tape.ne hN
    have nNc : N ≠ c := by
      obtain ⟨zs, e⟩ := hT.list
      exact (ne_of_none e hN).symm
    have nRN : N ≠ R := (ne_of_none hR hN).symm
    have T1 := hT.same zN
    have eN1 : L2.upd H N (.lst []) N = some (.lst []) := upd_same
    have eR1 := zN _ _ hR
    have ra1 : RowsAt (dl t (L2.upd H N (.lst []))) rs0 := fun q hq => (ra0 q hq).same (dl_same (Same.b t zN))
    have S1 := Same.b t zN
    generalize L2.upd H N (.lst []) = H1 at T1 eN1 eR1 ra1 S1 ⊢
    refine ⟨_, rfl, R, rfl, ⟨_, SqL.of eR1⟩, for_list (K := K) (a := R) (xs := rs0.map (·.1)) (fun i σ H' => (∃ (rs : RowsL) (x3 x4 x5 x6 : Option V), σ = [some (.ref t), some (.ref R), some (.ref N), x3, x4, x5, x6] ∧ H' N = some (.lst (rs.map (·.1))) ∧ RowsAt (dl t H') rs ∧ RowW ps (rs.map (·.2)) ∧ rs.length ≤ i) ∧ H' R = some (.lst (rs0.map (·.1))) ∧ RowsAt (dl t H') rs0 ∧ TapeL c H' t ∧ SameB t H H') ⟨⟨[], _, _, _, _, rfl, eN1, nofun, nofun, Nat.le_refl _⟩, eR1, ra1, T1, S1⟩ (fun i σ H' _ pr => SqL.of pr.2.1) ?_ ?_⟩
    · rintro i y σ H6 hy ⟨⟨rs, x3, x4, x5, x6, rfl, eN, ra, rv, lr⟩, eR, ra0', T6, S6⟩
      rw [List.getElem?_map] at hy
      obtain ⟨r, er, rfl⟩ := Option.map_eq_some_iff.mp hy
      have rm := List.mem_of_getElem? er
      have li := (List.getElem?_eq_some_iff.mp er).1
      obtain ⟨vk, lo⟩ := rw0 r.2 (List.mem_map_of_mem rm)
      obtain ⟨rr, va, la, ev, e2, dva, dla⟩ := row_at (ra0' r rm)
      refine ⟨rr, _, ev, SqT.of (dl_of e2).2, rfl, _, _, rfl, _, _, rfl, rfl, ?_⟩
      dsimp only [gNil]
      refine ⟨fun σ H' => ∃ (v : V) (es : List PyData) (x5 x6 : Option V), σ = [some (.ref t), some (.ref R), some (.ref N), some v, some (.ref la), x5, x6] ∧ DhT t H' v (.tuple es) ∧ Vks (ps.map (·.2)) es ∧ TapeL c H' t ∧ SameB t H6 H', ?_, ?_⟩
      · refine ⟨_, rfl, _, .inl ⟨_, SqL.of eN, rfl⟩, ?_⟩
        cases rs with
        | nil => exact iteF ⟨.ref va, r.2.vals, _, _, rfl, dva, vk, T6, SameB.refl _ _⟩
        | cons r1 rest =>
        refine iteT ⟨_, rfl, t, c, _, rfl, T6, by decide, big1000 (by decide) (by decide), fun j8 H8 a8 b8 T8 S8 => ⟨rfl, _, rfl, ite2 (fun q => ?_) (fun q => ?_)⟩⟩
        · have eN8 := S8 _ _ nN eN
          refine ⟨_, rfl, _, rfl, _, rfl, N, _, rfl, .inl (SqL.of eN8), t, c, _, rfl, T8, by simp <;> omega, big1000 (by simp <;> omega) (by rw [List.length_map]; omega), fun j9 H9 a9 b9 T9 S9 => ?_⟩
          have hj : j9.toNat < (r1 :: rest).length := by rw [List.length_map] at b9; omega
          obtain ⟨y, ey⟩ : ∃ y, (r1 :: rest)[j9.toNat]? = some y := ⟨_, List.getElem?_eq_getElem hj⟩
          have ym := List.mem_of_getElem? ey
          have S69 := S8.trans S9
          obtain ⟨r', va2, la2, e1, e3, hv, _⟩ := row_at ((ra y ym).same (dl_same S69))
          have yv := (rv y.2 (List.mem_map_of_mem ym)).1
          refine ⟨N, _, _, y.1, rfl, rfl, SqL.of (S9 _ _ nN eN8), at_of (j := j9.toNat) (by omega) (by rw [List.getElem?_map, ey]; rfl), ?_⟩
          rw [e1]
          have dva9 := dtb dva S69
          have lv := vk.len
          rw [List.length_map] at lv
          obtain ⟨us, eva, lus⟩ : ∃ us : List V, H9 va = some (.tup us) ∧ us.length = r.2.vals.length := by
            cases dva9 with
            | tup e hs => exact ⟨_, (dl_of e).2, hs.len⟩
          refine ⟨r', _, _, .ref va2, rfl, rfl, SqT.of (dl_of e3).2, at_of (j := 0) rfl rfl, _, rfl, _, rfl, va, us, rfl, .inr (SqT.of eva), _, _, rfl, rfl, t, c, _, rfl, T9, by omega, big1000 (by omega) (by have := cp.l8; omega), fun j10 H10 a10 b10 T10 S10 => ?_⟩
          obtain ⟨n, rfl⟩ : ∃ n : Nat, j10 = n := ⟨j10.toNat, by omega⟩
          have hv10 := dtb hv S10
          have dva10 := dtb dva9 S10
          have nl : n ≤ y.2.vals.length := by
            have := yv.len
            rw [List.length_map] at this
            omega
          refine ⟨_, rfl, _, rfl, _, rfl, slH (lo := none) (hi := some ((n : Nat) : Int)) (hv10.same dl_here) fun u1 H11 d1 s11 => ⟨_, rfl, _, rfl, _, rfl, slH (lo := some ((n : Nat) : Int)) (hi := none) ((dts dva10 s11).same dl_here) fun u2 H12 d2 s12 => catH (d1.same s12) d2 ?_ fun u3 H13 d3 s13 => ?_⟩⟩
          · have h1 := yv.len
            rw [List.length_map] at h1
            have := cutD_len y.2.vals none (some ((n : Nat) : Int))
            have := cutD_len r.2.vals (some ((n : Nat) : Int)) none
            have := cp.l8
            omega
          · have s := (s11.trans s12).trans s13
            have vm : Vks (ps.map (·.2)) (cutD y.2.vals none (some ((n : Nat) : Int)) ++ cutD r.2.vals (some ((n : Nat) : Int)) none) := by
              rw [cutD_to nl, cutD_from]
              exact yv.mixN n vk
            have T13 := T10.same s
            obtain ⟨_, _, _, _, _, tq, _⟩ := id T13.tape
            exact ⟨u3, _, _, _, rfl, dh_dl ⟨_, tq⟩ d3 (by rw [noL]; exact noLs_all.mpr vm.noL), vm, T13, (S69.trans S10).trans (Same.b t s)⟩
        · exact ⟨.ref va, r.2.vals, _, _, rfl, dtb dva S8, vk, T8, S8⟩
      · rintro σ H8 ⟨v, es, x5, x6, rfl, dv, ve, T8, S8⟩
        have eN8 := S8 _ _ nN eN
        have S28 := S6.trans S8
        have ra8 : RowsAt (dl t H8) rs := fun q hq => (ra q hq).same (dl_same S8)
        have ra08 : RowsAt (dl t H8) rs0 := fun q hq => (ra0' q hq).same (dl_same S8)
        have eR8 := S8 _ _ nR eR
        have dl8 : DhT t H8 (.ref la) (linD r.2.lin) := dtb dla S8
        refine ⟨_, rfl, .inl ⟨rfl, _, SqL.of eN8⟩, _, rfl, _, rfl, two, fun q3 hq3 => ?_⟩
        have z3 := Same.upd (o := .tup [v, .ref la]) hq3
        have T9 := T8.same z3
        have d3 : DhT t _ (.ref q3) (RowD.d ⟨es, r.2.lin⟩) := dh_tupT T8.tape (.cons dv (.cons dl8 .nil)) hq3
        have eN9 := z3 _ _ eN8
        have nol : noLs es = true := noLs_all.mpr ve.noL
        refine ⟨N, _, _, rfl, rfl, eN9, lt_size (by rw [List.length_map]; omega), ⟨rs ++ [(.ref q3, ⟨es, r.2.lin⟩)], _, _, _, _, rfl, by rw [upd_same, List.map_append]; rfl, fun q hq => ?_, fun q hq => ?_, by rw [List.length_append]; show rs.length + 1 ≤ i + 1; omega⟩, ?_, fun q hq => ?_, T9.upd nN nNc, fun b' o n e => ?_⟩
        · rcases List.mem_append.mp hq with hq | hq
          · exact ((ra8 q hq).same (dl_same (Same.b t z3))).t (dlT eN9) (row_noL (noLs_all.mpr (rv q.2 (List.mem_map_of_mem hq)).1.noL))
          · rw [List.mem_singleton.mp hq]
            exact DhT.upd d3 (row_noL nol) eN9
        · rw [List.map_append] at hq
          rcases List.mem_append.mp hq with hq | hq
          · exact rv q hq
          · rw [List.mem_singleton.mp hq]
            exact ⟨ve, lo⟩
        · rw [upd_ne (Ne.symm nRN)]
          exact z3 _ _ eR8
        · exact ((ra08 q hq).same (dl_same (Same.b t z3))).t (dlT eN9) (row_noL (noLs_all.mpr (rw0 q.2 (List.mem_map_of_mem hq)).1.noL))
        · rw [upd_ne (ne_of_none e hN)]
          exact (S28.trans (Same.b t z3)) b' o n e
    · rintro σ H6 ⟨⟨rs, x3, x4, x5, x6, rfl, eN, ra, rv, lr⟩, _, _, T6, S6⟩
      exact ⟨_, rfl, k N rs H6 eN nN ra rv (by rw [List.length_map] at lr; omega) T6 S6⟩
end
end
end K20
set_option Elab.async false
set_option linter.all false
set_option maxRecDepth 100000
set_option maxHeartbeats 4000000
namespace Lc
open PySem PySem.Spec PyProof.Rows L2 HT
/-! ## a tuple backwards: t[::-1] -/
section
variable {prog : Program} {w : World} {A : Around} {E : Value → Shared → Prop} {s : Shared}
theorem sliceApplied_rev {sl : Addr} {vl vu vs : Value} {n : Nat} {Q : Int × Int × Nat → Shared → Prop} (hs : s.heap.IsSliceOf sl vl vu vs) (pl : IsPart vl none) (pu : IsPart vu none) (ps : IsPart vs (some (-1)))
    (h : Q ((n : Int) - 1, -1, n) s) : wpAny (model prog w) A (Builtin.Slice.sliceApplied (.ref sl) (pure (n : Int))) Q E s := by
  obtain ⟨os, hos, hcs, hds⟩ := id hs
  unfold Builtin.Slice.sliceApplied Builtin.Slice.sliceFields
  refine wpAny_bind (wpAny_bind (wpAny_field hos hds (x := vl) rfl (wpAny_bind (wpAny_field hos hds (x := vu) rfl (wpAny_bind (wpAny_field hos hds (x := vs) rfl (wpAny_pure ?_)))))))
  refine wpAny_bind (slicePart_ ps ?_)
  show wpAny _ _ (if ((-1 : Int) == 0) = true then _ else _) _ _ s
  rw [if_neg (by decide)]
  refine wpAny_bind (slicePart_ pl (wpAny_bind (slicePart_ pu (wpAny_bind (wpAny_pure ?_)))))
  have e : Builtin.Slice.slicePlaces ((n : Int) - 1) (-1) (-1) = n := by
    unfold Builtin.Slice.slicePlaces
    rw [if_neg (by decide)]
    split
    · rw [show (-(-1) : Int) = 1 by decide, Int.ediv_one]
      omega
    · omega
  show wpAny _ _ (pure ((n : Int) - 1, (-1 : Int), Builtin.Slice.slicePlaces ((n : Int) - 1) (-1) (-1))) _ _ s
  rw [e]
  exact wpAny_pure h
theorem rtf_some {α β : Type} (g : α → β) : ∀ l : List α, (l.filterMap fun a => some (g a)) = l.map g
  | [] => rfl
  | a :: l => by rw [List.filterMap_cons, List.map_cons, rtf_some g l]
theorem rtf_congr {α β : Type} {f g : α → Option β} : ∀ {l : List α}, (∀ a ∈ l, f a = g a) → l.filterMap f = l.filterMap g
  | [], _ => rfl
  | a :: l, h => by rw [List.filterMap_cons, List.filterMap_cons, h a List.mem_cons_self, rtf_congr fun b hb => h b (List.mem_cons_of_mem _ hb)]
theorem rev_pick (items : Array Value) : ((List.range items.size).filterMap fun (m : Nat) => items[((items.size : Int) - 1 + (m : Int) * (-1)).toNat]?).toArray = items.toList.reverse.toArray := by
  congr 1
  have e1 : ∀ m ∈ List.range items.size, items[((items.size : Int) - 1 + (m : Int) * (-1)).toNat]? = some (items.toList.getD (items.size - 1 - m) .none) := fun m hm => by
    have hm := List.mem_range.mp hm
    rw [show ((items.size : Int) - 1 + (m : Int) * (-1)).toNat = items.size - 1 - m by omega, List.getD_eq_getElem?_getD, ← Array.getElem?_toList, List.getElem?_eq_getElem (by rw [Array.length_toList]; omega)]
    rfl
  rw [rtf_congr e1, rtf_some]
  refine List.ext_getElem? fun i => ?_
  rw [List.getElem?_map]
  by_cases q : i < items.size
  · rw [List.getElem?_range q, List.getElem?_reverse (by rw [Array.length_toList]; exact q), Array.length_toList, List.getElem?_eq_getElem (by rw [Array.length_toList]; omega)]
    show some (items.toList.getD _ _) = _
    rw [List.getD_eq_getElem?_getD, List.getElem?_eq_getElem (by rw [Array.length_toList]; omega)]
    rfl
  · rw [List.getElem?_eq_none (by rw [List.length_range]; omega), List.getElem?_eq_none (by rw [List.length_reverse, Array.length_toList]; omega)]
    rfl
theorem getItem_tuple_rev {t sl : Addr} {items : Array Value} {vl vu vs : Value} {Q : Value → Shared → Prop} (ht : IsTup s.heap t items) (hs : s.heap.IsSliceOf sl vl vu vs) (pl : IsPart vl none) (pu : IsPart vu none) (ps : IsPart vs (some (-1)))
    (h : Q (.ref s.heap.objs.size) { s with heap := s.heap.push { cls := .type "tuple", data := .seq items.toList.reverse.toArray } })
    (hsz : items.size ≤ sizeLine) : wpAny (model prog w) A (getItem (.ref t) (.ref sl)) Q E s := by
  have htake : sizeOk (.seq items.toList.reverse.toArray) := by
    show items.toList.reverse.toArray.size ≤ sizeLine
    rw [List.size_toArray, List.length_reverse, Array.length_toList]
    exact hsz
  obtain ⟨os, hos, hcs, hds⟩ := id hs
  have hTs : s.TypeIs (.ref sl) "slice" := ⟨os, hos, hcs⟩
  unfold getItem
  try with_reducible refine wpAny_holding ?_
  first | refine wpAny_bind (wpAny_pure ?_) | skip
  refine wpAny_bind (wpAny_sequenceKey ht.typeIs (by decide) ?_)
  refine wpAny_bind (wpAny_callSpecial?_slot (name := Str.ofString "__getitem__") ht.typeIs PyProof.Rows.slot_tuple_getitem
    (wpAny_call_entry PyProof.Rows.slot_tuple_getitem ht.typeIs entry_tuple_getitem ?_ (args_tuple_getitem _ _)))
  show wpAny _ _ (Builtin.Tuple.tupleItemsOf (.ref t) >>= _) _ _ s
  refine wpAny_bind (tupleItemsOf_ ht ?_)
  refine wpAny_bind (wpAny_typeOf hTs ?_)
  rw [if_pos (by decide)]
  refine wpAny_bind (sliceApplied_rev hs pl pu ps ?_)
  have hno : ¬ ((((items.size : Nat) : Int) - 1 == 0 && (-1 : Int) == 1 && items.size == items.size) = true) := by
    intro q
    rw [Bool.and_eq_true, Bool.and_eq_true] at q
    exact absurd q.1.2 (by decide)
  show wpAny _ _ (if (((items.size : Nat) : Int) - 1 == 0 && (-1 : Int) == 1 && items.size == items.size) = true then _ else _) _ _ s
  rw [if_neg hno, rev_pick]
  first
    | exact wpAny_bind (m := Builtin.Tuple.tupleExact _) (wpAny_newObj_type (wpAny_pure ⟨_, rfl, wpAny_pure h⟩) htake)
    | exact wpAny_bind (m := Builtin.Tuple.tupleExact _) (wpAny_newObj_type (wpAny_bind (wpAny_pure (wpAny_pure ⟨_, rfl, wpAny_pure h⟩))) htake)
    | exact wpAny_bind (wpAny_bind (m := Builtin.Tuple.tupleExact _) (wpAny_newObj_type (wpAny_pure (wpAny_pure ⟨_, rfl, wpAny_pure h⟩)) htake))
    | exact wpAny_bind (wpAny_bind (m := Builtin.Tuple.tupleExact _) (wpAny_newObj_type (wpAny_pure ⟨_, rfl, wpAny_pure h⟩) htake))
end
def tRevT (K : PySem.W.Frag) (te : TE) : TE := fun σ H Q => te σ H fun x H1 => ∃ a xs, x = .ref a ∧ SqT K H1 a xs ∧ ∀ p, H1 p = none → Q (.ref p) (upd H1 p (.tup xs.reverse))
section
variable {X : Cx}
theorem pe_revT {e : Expr} {te : TE} {k : Nat} {p1 p2 p3 pos : Pos} (he : PE X e te) : PE X (.Subscript e (.Slice none none (some (.UnaryOp .USub (.Constant (.int 1) k p1) p2)) p3) pos) (tRevT X.K te) := by
  refine ⟨fun pins s σ H Q I h => ?_⟩
  refine Subscript_ (thn (he.run pins s σ H _ I h) fun v s1 ⟨x, H1, I1, r1, q1⟩ => ?_)
  obtain ⟨a, xs, ex, hx, q⟩ := q1
  subst ex
  cases r1
  have hst : PO X (some (.UnaryOp .USub (.Constant (.int 1) k p1) p2)) (tPart (tUn (rU fun i => .int (-i)) (tC (.int 1)))) := po_some (pe_un un_neg pe_int)
  refine wpAny_Slice (thn (po_none.run pins s1 σ H1 (fun o H2 => o = none ∧ H2 = H1) I1 ⟨rfl, rfl⟩) fun vl s2 ⟨l, H2, I2, pl, el, e2⟩ => ?_)
  subst el e2
  refine thn (po_none.run pins s2 σ H2 (fun o H3 => o = none ∧ H3 = H2) I2 ⟨rfl, rfl⟩) fun vu s3 ⟨u, H3, I3, pu, eu, e3⟩ => ?_
  subst eu e3
  refine thn (hst.run pins s3 σ H3 (fun o H4 => o = some (-1) ∧ H4 = H3) I3 ⟨1, rfl, -1, rfl, rfl, rfl⟩) fun vs s4 ⟨o, H4, I4, ps, eo, e4⟩ => ?_
  subst eo e4
  have I5 : Inv X pins σ H4 { s4 with heap := s4.heap.push { cls := .type "slice", data := .fields #[vl, vu, vs] } } := I4.kept (t' := s4.toks) fun b ob q => Heap.get?_push_of_some _ q
  obtain ⟨its, r, ht, hz⟩ := I5.tuple hx
  have hlen := r.length
  show wpAny (model X.prog X.w) X.A (subscriptTail e (.Slice none none (some (.UnaryOp .USub (.Constant (.int 1) k p1) p2)) p3) (.ref a) (.ref s4.heap.objs.size)) (EP X pins σ Q) X.xe { s4 with heap := s4.heap.push { cls := .type "slice", data := .fields #[vl, vu, vs] } }
  refine tail_any (ops := [.ref a, .ref s4.heap.objs.size]) ht.typeIs (PyProof.Rows.slot_tuple_getitem.lookup) ?_ (by with_unfolding_all rfl)
  refine getItem_tuple_rev ht (Heap.IsSliceOf.new _ vl vu vs) pl pu ps ?_ (by rw [List.size_toArray]; omega)
  refine ⟨.ref _, _, I5.laid (t' := s4.toks) (o := .tup xs.reverse) (fun b ob q => Heap.get?_push_of_some _ q) (Nat.le_refl _) ?_, rfl, q _ (I5.hok.fresh (Nat.le_refl _))⟩
  exact ⟨by rw [List.length_reverse]; exact hz, _, r.reverse, ⟨_, Heap.get?_push_size _ rfl, rfl, _, rfl⟩⟩
end
end Lc
set_option Elab.async false
set_option linter.all false
set_option maxRecDepth 100000
set_option maxHeartbeats 4000000
namespace K20
open PySem PySem.Spec PyProof.Rows L2 Lc
theorem tm_int {i : Int} (h : i.natAbs ≤ 10000000000000000000000000000000000000000) : Tm 0 2000 (.int i) := by
  have b : i.natAbs < 2 ^ 1000 := Nat.lt_of_le_of_lt h (Nat.lt_of_lt_of_le (show 10000000000000000000000000000000000000000 < 2 ^ 140 by decide) (Nat.pow_le_pow_right (by decide) (by decide)))
  obtain ⟨h1, h2⟩ := num_len b
  exact ⟨h1, rfl, Nat.le_refl _, Nat.le_trans h2 (by decide)⟩
theorem tm_txt {x : Str} (h : Sh 100 x) : Tm 0 2000 (.str x) := by
  refine ⟨rfl, rfl, Nat.le_refl _, ?_⟩
  show (reprText x).length ≤ 2000
  have := StrLaws.reprText_len x (fun c hc => Nat.lt_trans (h.ok c hc) (by decide))
  have e := lenL x
  have := h.len
  omega
theorem tm_nonB : Tm 0 2000 .none ∧ ∀ b : Bool, Tm 0 2000 (.bool b) := ⟨⟨rfl, rfl, Nat.le_refl _, by decide +kernel⟩, fun b => ⟨rfl, rfl, Nat.le_refl _, by cases b <;> decide +kernel⟩⟩
theorem Vk.tm {k : Str} {d : PyData} (h : Vk k d) : Tm 1 4100 d := by
  cases h with
  | non => exact tm_nonB.1.mono (by decide) (by decide)
  | flag b => exact (tm_nonB.2 b).mono (by decide) (by decide)
  | word h _ => exact (tm_txt (h.mono (by decide))).mono (by decide) (by decide)
  | @num n d _ h1 h2 =>
    exact (tm_tup (k := 0) (n := 2000) (fun x hx => by simp at hx; rcases hx with rfl | rfl; exact tm_int h1; exact tm_int h2)).mono (by decide) (by show 2000 * 2 + 2 * 2 + 4 ≤ 4100; decide)
theorem Vks.tm {ks : List Str} {ds : List PyData} (h : Vks ks ds) (l : ks.length ≤ 8) : Tm 2 33000 (.tuple ds) := by
  have ln := h.len
  have all : ∀ d ∈ ds, Tm 1 4100 d := by
    clear ln l
    induction h with
    | nil => exact nofun
    | cons h r ih =>
      intro d hd
      rcases List.mem_cons.mp hd with rfl | hd
      · exact h.tm
      · exact ih d hd
  exact (tm_tup all).mono (by decide) (by omega)
/-! ## rows that are drawn -/
def RowV (ks : List Str) (rs : RowsL) : Prop := ∀ r ∈ rs, Vks ks r.2.vals ∧ LinOk r.2.lin
theorem part_tm2 {p : Str × Int} (h : PartOk p) : Tm 1 4010 (partD p) := by
  have := h.2
  exact (tm_tup (k := 0) (n := 2000) (ds := [.str p.1, .int p.2]) fun d hd => by
    simp only [List.mem_cons, List.not_mem_nil, or_false] at hd
    rcases hd with rfl | rfl
    · exact tm_txt (h.1.mono (by decide))
    · exact tm_int (by omega)).mono (Nat.le_refl _) (by show 2000 * 2 + 2 * 2 + 4 ≤ 4010; decide)
theorem row_tm {ks : List Str} {r : RowD} (h : Vks ks r.vals) (l8 : ks.length ≤ 8) (o : LinOk r.lin) : Tm 3 386010 r.d := by
  have h1 := h.tm l8
  have h2 : Tm 2 193000 (linD r.lin) := by
    have := tm_tup (k := 1) (n := 4010) (ds := r.lin.map partD) fun d hd => by
      obtain ⟨p, hp, rfl⟩ := List.mem_map.mp hd
      exact part_tm2 (o.2 p hp)
    have l4 := o.len
    rw [List.length_map] at this
    exact this.mono (Nat.le_refl _) (by omega)
  exact (tm_tup (k := 2) (n := 193000) (ds := [.tuple r.vals, linD r.lin]) fun d hd => by
    simp only [List.mem_cons, List.not_mem_nil, or_false] at hd
    rcases hd with rfl | rfl
    · exact h1.mono (Nat.le_refl _) (by decide)
    · exact h2).mono (Nat.le_refl _) (by show 193000 * 2 + 2 * 2 + 4 ≤ 386010; decide)
def rowsD (rs : RowsL) : PyData := .list (rs.map fun r => r.2.d)
theorem rows_tm {ks : List Str} {rs : RowsL} (h : RowV ks rs) (l8 : ks.length ≤ 8) (l : rs.length ≤ 14) : Tm 4 5410000 (rowsD rs) := by
  have := tm_lst (k := 3) (n := 386010) (ds := rs.map fun r => r.2.d) fun d hd => by
    obtain ⟨r, hr, rfl⟩ := List.mem_map.mp hd
    exact row_tm (h r hr).1 l8 (h r hr).2
  rw [List.length_map] at this
  exact this.mono (Nat.le_refl _) (by omega)
theorem rows_dh {H : Hp} : ∀ {rs : RowsL}, RowsAt H rs → DhAll H (rs.map (·.1)) (rs.map fun r => r.2.d)
  | [], _ => .nil
  | r :: rs, h => .cons (h r List.mem_cons_self) (rows_dh fun q hq => h q (List.mem_cons_of_mem _ hq))
theorem colP_tmL {p : Str × Str} (h : Sh 12 p.1) (k : KindS p.2) : Tm 1 4010 (colP p) :=
  (tm_tup (k := 0) (n := 2000) (ds := [.str p.1, .str p.2]) fun d hd => by
    simp only [List.mem_cons, List.not_mem_nil, or_false] at hd
    rcases hd with rfl | rfl
    · exact tm_txt (h.mono (by decide))
    · exact tm_txt k.sh).mono (Nat.le_refl _) (by show 2000 * 2 + 2 * 2 + 4 ≤ 4010; decide)
def colsDL (ps : List (Str × Str)) : PyData := .tuple (ps.map colP)
theorem cols_tmL {ps : List (Str × Str)} (h : ∀ p ∈ ps, Sh 12 p.1 ∧ nameB (.str p.1) = true ∧ KindS p.2) (l8 : ps.length ≤ 8) : Tm 2 33000 (colsDL ps) := by
  have := tm_tup (k := 1) (n := 4010) (ds := ps.map colP) fun d hd => by
    obtain ⟨p, hp, rfl⟩ := List.mem_map.mp hd
    exact colP_tmL (h p hp).1 (h p hp).2.2
  rw [List.length_map] at this
  exact this.mono (Nat.le_refl _) (by omega)
def bothDL (ps : List (Str × Str)) (rs : RowsL) : PyData := .list [colsDL ps, rowsD rs]
theorem both_tm {ps : List (Str × Str)} {rs : RowsL} (h : ∀ p ∈ ps, Sh 12 p.1 ∧ nameB (.str p.1) = true ∧ KindS p.2) (l8 : ps.length ≤ 8) (g : RowV (ps.map (·.2)) rs) (l : rs.length ≤ 14) : Tm 5 10830000 (bothDL ps rs) :=
  (tm_lst (k := 4) (n := 5410000) (ds := [colsDL ps, rowsD rs]) fun d hd => by
    simp only [List.mem_cons, List.not_mem_nil, or_false] at hd
    rcases hd with rfl | rfl
    · exact (cols_tmL h l8).mono (by decide) (by decide)
    · exact rows_tm g (by rw [List.length_map]; exact l8) l).mono (Nat.le_refl _) (by show 5410000 * 2 + 2 * 2 + 4 ≤ 10830000; decide)
theorem both_shw {K : PySem.W.Frag} {H : Hp} {M L R : Addr} {ps : CsL} {rs : RowsL} (cp : ColP ps) (hL : CA H L ps) (eR : H R = some (.lst (rs.map (·.1)))) (ra : RowsAt H rs) (w : RowW ps (rs.map (·.2))) (ln : rs.length ≤ 14) (e : H M = some (.lst [.ref L, .ref R])) : Shw K H (.ref M) (bothDL ps rs).shown := by
  obtain ⟨xs, zL, cc⟩ := hL
  have g : RowV (ps.map (·.2)) rs := fun r hr => w r.2 (List.mem_map_of_mem hr)
  have t := both_tm cp.ok cp.l8 g ln
  have tc := cols_tmL cp.ok cp.l8
  have tr := rows_tm g (by rw [List.length_map]; exact cp.l8) ln
  have dc : Dp K H (.ref L) (colsDL ps) := .tup zL.sq (cc.dh.dp (by simpa [PyData.hasDict, colsDL] using tc.nd))
  have dr : Dp K H (.ref R) (rowsD rs) := (Dh.lst eR (rows_dh ra) : Dh H (.ref R) (rowsD rs)).dp tr.nd
  exact .data (.lst (SqL.of e) (.cons dc (.cons dr .nil))) t.sh t.nd (Nat.le_trans t.dz (by decide)) (Nat.le_trans t.ln (by decide))
theorem rows_shw {K : PySem.W.Frag} {H : Hp} {R : Addr} {ps : CsL} {rs : RowsL} (cp : ColP ps) (eR : H R = some (.lst (rs.map (·.1)))) (ra : RowsAt H rs) (w : RowW ps (rs.map (·.2))) (ln : rs.length ≤ 14) : Shw K H (.ref R) (rowsD rs).shown := by
  have g : RowV (ps.map (·.2)) rs := fun r hr => w r.2 (List.mem_map_of_mem hr)
  have tr := rows_tm g (by rw [List.length_map]; exact cp.l8) ln
  exact .data ((Dh.lst eR (rows_dh ra) : Dh H (.ref R) (rowsD rs)).dp tr.nd) tr.sh tr.nd (Nat.le_trans tr.dz (by decide)) (Nat.le_trans tr.ln (by decide))
theorem rowsF {t : Addr} {H : Hp} {rs : RowsL} (T : Tape H t) (ra : RowsAt H rs) (o : RowsOk rs) : RowsAt (dl t H) rs := fun r hr => by
  obtain ⟨_, _, _, _, _, q, _⟩ := T
  exact dh_dl ⟨_, q⟩ (ra r hr) (row_noL (o r hr).1)
theorem vS_dh {H : Hp} : ∀ ns : List Str, DhAll H (vS ns) (ns.map PyData.str)
  | [] => .nil
  | z :: ns => .cons (.str z) (vS_dh ns)
theorem rowsD_eq {rs rs' : RowsL} (e : rs.map (·.2) = rs'.map (·.2)) : rowsD rs = rowsD rs' := by
  have h : ∀ rs : RowsL, (rs.map fun r => r.2.d) = (rs.map (·.2)).map RowD.d := fun rs => by rw [List.map_map]; rfl
  unfold rowsD
  rw [h, h, e]
theorem bothDL_eq {ps : CsL} {rs rs' : RowsL} (e : rs.map (·.2) = rs'.map (·.2)) : bothDL ps rs = bothDL ps rs' := by
  unfold bothDL
  rw [rowsD_eq e]
theorem catV {K : PySem.W.Frag} {H : Hp} {Q : VK} {b u : Addr} {ys zs : List V} (hb : H b = some (.tup ys)) (hu : H u = some (.tup zs)) (l : ys.length + zs.length ≤ 1000) (nz : zs ≠ []) (k : ∀ r H', Same H H' → H' r = some (.tup (ys ++ zs)) → Q (.ref r) H') : rCatA K (.ref b) (.ref u) H Q := by
  refine ⟨b, u, ys, zs, rfl, rfl, SqT.of hb, SqT.of hu, Nat.le_trans l (by decide), fun e => ?_, fun _ e => absurd e nz, fun _ _ q hq => k q _ (Same.upd hq) upd_same⟩
  subst e
  exact k u H (Same.refl H) hu
/-- columns in any tuple -/
def CZ (H : Hp) (C : Addr) (qs : CsL) : Prop := ∃ xs, (ZT H C xs ∨ H C = some (.tup xs)) ∧ Cols H xs qs
theorem CZ.of {H : Hp} {C : Addr} {qs : CsL} (h : CA H C qs) : CZ H C qs := by
  obtain ⟨xs, z, c⟩ := h
  exact ⟨xs, .inl z, c⟩
theorem CZ.same {H H' : Hp} {C : Addr} {qs : CsL} (s : Same H H') (h : CZ H C qs) : CZ H' C qs := by
  obtain ⟨xs, z, c⟩ := h
  exact ⟨xs, z.imp (fun z => z.same s) (fun z => s _ _ z), c.t (SameT.of s)⟩
theorem CZ.sq {K : PySem.W.Frag} {H : Hp} {C : Addr} {qs : CsL} (h : CZ H C qs) : ∃ xs, SqT K H C xs ∧ Cols H xs qs := by
  obtain ⟨xs, z, c⟩ := h
  exact ⟨xs, z.elim (fun z => z.sq) SqT.of, c⟩
theorem both_shwZ {K : PySem.W.Frag} {H : Hp} {M L R : Addr} {ps : CsL} {rs : RowsL} (cp : ColP ps) (hL : CZ H L ps) (eR : H R = some (.lst (rs.map (·.1)))) (ra : RowsAt H rs) (w : RowW ps (rs.map (·.2))) (ln : rs.length ≤ 14) (e : H M = some (.lst [.ref L, .ref R])) : Shw K H (.ref M) (bothDL ps rs).shown := by
  obtain ⟨xs, zL, cc⟩ := hL.sq (K := K)
  have g : RowV (ps.map (·.2)) rs := fun r hr => w r.2 (List.mem_map_of_mem hr)
  have t := both_tm cp.ok cp.l8 g ln
  have tc := cols_tmL cp.ok cp.l8
  have tr := rows_tm g (by rw [List.length_map]; exact cp.l8) ln
  have dc : Dp K H (.ref L) (colsDL ps) := .tup zL (cc.dh.dp (by simpa [PyData.hasDict, colsDL] using tc.nd))
  have dr : Dp K H (.ref R) (rowsD rs) := (Dh.lst eR (rows_dh ra) : Dh H (.ref R) (rowsD rs)).dp tr.nd
  exact .data (.lst (SqL.of e) (.cons dc (.cons dr .nil))) t.sh t.nd (Nat.le_trans t.dz (by decide)) (Nat.le_trans t.ln (by decide))
theorem grp_lenD (ky : RowD → List PyData) (rs : List RowD) : (grpR ky rs).length ≤ rs.length := by
  induction rs using snoc_ind with
  | h0 => exact Nat.le_refl _
  | h1 rs r ih =>
    rw [grpR_snoc, List.length_append]
    have : ∀ G : Grp RowD, (putG (ky r) r G).length ≤ G.length + 1 := fun G => by
      induction G with
      | nil => exact Nat.le_refl _
      | cons g G ih =>
        unfold putG
        split
        · rw [List.length_cons, List.length_cons]; omega
        · rw [List.length_cons, List.length_cons]; omega
    exact Nat.le_trans (this _) (Nat.succ_le_succ ih)
theorem dhA_rev {H : Hp} : ∀ {vs : List V} {ds : List PyData}, DhAll H vs ds → DhAll H vs.reverse ds.reverse
  | _, _, .nil => .nil
  | _, _, .cons h r => by
    rw [List.reverse_cons, List.reverse_cons]
    exact DhAll.append (dhA_rev r) (.cons h .nil)
theorem Cols.take {H : Hp} : ∀ {xs : List V} {qs : CsL} (n : Nat), Cols H xs qs → Cols H (xs.take n) (qs.take n)
  | _, _, 0, _ => .nil
  | _, _, n + 1, .nil => .nil
  | _, _, n + 1, .cons e r => .cons e (Cols.take n r)
theorem slZ {K : PySem.W.Frag} {H : Hp} {Q : VK} {C : Addr} {qs : CsL} {n : Nat} (h : CZ H C qs) (l : n ≤ qs.length) (k : ∀ r H', Same H H' → CZ H' r (qs.take n) → Q (.ref r) H') : rSlA K (.ref C) none (some (n : Int)) H Q := by
  obtain ⟨xs, z, c⟩ := h
  have lx := c.len
  have e1 : HT.sIx xs.length 0 none = 0 := rfl
  have e2 : HT.sIx xs.length xs.length (some (n : Int)) = n := by
    rw [HT.sIx_nat]
    omega
  refine ⟨C, xs, rfl, z.elim (fun z => z.sq) SqT.of, fun w => ?_, fun _ p hp => ?_⟩
  · refine k C H (Same.refl H) ?_
    have : n = qs.length := by rw [← lx, ← w.2, e2]
    rw [this, List.take_length]
    exact ⟨xs, z, c⟩
  · have ec : cutV xs none (some (n : Int)) = xs.take n := by
      unfold cutV
      rw [e1, e2]
      simp
    rw [ec]
    exact k p _ (Same.upd hp) ⟨_, .inr upd_same, (c.take n).t (SameT.of (Same.upd hp))⟩
theorem catZ {K : PySem.W.Frag} {H : Hp} {Q : VK} {C u m : Addr} {qs : CsL} {x kd : Str} (h : CZ H C qs) (l : qs.length ≤ 100) (eu : H u = some (.tup [.ref m])) (em : H m = some (.tup [.str x, .str kd])) (k : ∀ r H', Same H H' → CZ H' r (qs ++ [(x, kd)]) → Q (.ref r) H') : rCatA K (.ref C) (.ref u) H Q := by
  obtain ⟨xs, z, c⟩ := h
  have lx := c.len
  refine ⟨C, u, xs, [.ref m], rfl, rfl, z.elim (fun z => z.sq) SqT.of, SqT.of eu, Nat.le_trans (show xs.length + 1 ≤ 1000 by omega) (by decide), fun e => ?_, fun _ e => (by cases e), fun _ _ q hq => ?_⟩
  · subst e
    cases c
    exact k u H (Same.refl H) ⟨_, .inr eu, .cons em .nil⟩
  · have zq := Same.upd (o := .tup (xs ++ [.ref m])) hq
    exact k q _ zq ⟨_, .inr upd_same, (c.t (SameT.of zq)).app (.cons (zq _ _ em) .nil)⟩
def spLaw (K : PySem.W.Frag) : Sp := fun vs H Q _ => ∃ (a : Addr) (ns : List Int), vs = [.ref a] ∧ SqL K H a (ns.map V.int) ∧ ∀ H', Q (.bl true) H'
section
variable {P : Program} {w : World} {K : PySem.W.Frag} {mg : Str → Option Value} {base : Heap} {f : Addr} {fd : FuncData}
abbrev sLaw : Stmt := top 145
abbrev nLaw : List Str := ["_law_script", "_law_tape_here", "_law_wide", "_law_columns_here", "_law_rows_here", "_law_table", "_law_before", "_law_k", "_law_step", "_law_after", "_law_name_here", "_law_found", "_law_turned", "_law_empty"]
abbrev pLaw : List Str := ["_law_script"]
theorem scLaw : FnScope nLaw pLaw (defScope sLaw) := ⟨rfl, rfl, rfl, by decide +kernel, rfl, by decide +kernel, by decide +kernel⟩
section
variable {fA_ fB_ fC_ fD_ fE_ fF_ fG_ fH_ : Addr} {fdA_ fdB_ fdC_ fdD_ fdE_ fdF_ fdG_ fdH_ : FuncData}
theorem ok_Law (F : Fun K "law" "law" sLaw f fd) (T : Bt mg) {C : Addr} (M : TbM P w K mg base C) {fU : Addr} {fdU : FuncData} {dsU : List Value} (GU : FnOk P w K mg base CX0 18 fU fdU ["tables", "pipeline", "setting"] (spRun C)) (mU : mg "run" = some (.ref fU)) (kU : PySem.W.keepIn K (.ref fU) = true) (bU : Binds K fdU ["tables", "pipeline", "setting"] dsU) (vU : Vals [V.non] dsU)
    (GA_ : FnOk P w K mg base CX0 1 fA_ fdA_ ["_law_script"] (spTape K)) (mA_ : mg "_law_tape" = some (.ref fA_)) (kA_ : PySem.W.keepIn K (.ref fA_) = true) (bA_ : Binds K fdA_ ["_law_script"] [])
    (GB_ : FnOk P w K mg base CX0 1 fB_ fdB_ ["_law_tape_here", "_law_many"] (spDrawL)) (mB_ : mg "_law_draw" = some (.ref fB_)) (kB_ : PySem.W.keepIn K (.ref fB_) = true) (bB_ : Binds K fdB_ ["_law_tape_here", "_law_many"] [])
    (GC_ : FnOk P w K mg base CX0 4 fC_ fdC_ ["_law_tape_here", "_law_lead", "_law_many", "_law_taken"] (spCls)) (mC_ : mg "_law_columns" = some (.ref fC_)) (kC_ : PySem.W.keepIn K (.ref fC_) = true) (bC_ : Binds K fdC_ ["_law_tape_here", "_law_lead", "_law_many", "_law_taken"] [])
    (GD_ : FnOk P w K mg base CX0 5 fD_ fdD_ ["_law_tape_here", "_law_columns_here", "_law_many", "_law_wide"] (spRws)) (mD_ : mg "_law_rows" = some (.ref fD_)) (kD_ : PySem.W.keepIn K (.ref fD_) = true) (bD_ : Binds K fdD_ ["_law_tape_here", "_law_columns_here", "_law_many", "_law_wide"] [])
    (GE_ : FnOk P w K mg base CX0 2 fE_ fdE_ ["_law_tape_here", "_law_rows_here"] (spAlk)) (mE_ : mg "_law_alike" = some (.ref fE_)) (kE_ : PySem.W.keepIn K (.ref fE_) = true) (bE_ : Binds K fdE_ ["_law_tape_here", "_law_rows_here"] [])
    (GF_ : FnOk P w K mg base CX0 8 fF_ fdF_ ["_law_tape_here", "_law_columns_here"] (spKs)) (mF_ : mg "_law_group_step" = some (.ref fF_)) (kF_ : PySem.W.keepIn K (.ref fF_) = true) (bF_ : Binds K fdF_ ["_law_tape_here", "_law_columns_here"] [])
    (GG_ : FnOk P w K mg base CX0 3 fG_ fdG_ ["_law_tape_here", "_law_taken"] (spFr)) (mG_ : mg "_law_fresh" = some (.ref fG_)) (kG_ : PySem.W.keepIn K (.ref fG_) = true) (bG_ : Binds K fdG_ ["_law_tape_here", "_law_taken"] [])
    (GH_ : FnOk P w K mg base CX0 4 fH_ fdH_ ["_law_columns_here", "_law_rows_here", "_law_step"] (spGd)) (mH_ : mg "_law_group_due" = some (.ref fH_)) (kH_ : PySem.W.keepIn K (.ref fH_) = true) (bH_ : Binds K fdH_ ["_law_columns_here", "_law_rows_here", "_law_step"] []) : FnG P w K mg base 19 f fd pLaw (spLaw K) := by
  refine Lc.Fun.okG F scLaw (fun vs H Q E h => ?_) (fun cdv A outer s H vs Q E hg hr h => ?_)
  · obtain ⟨a0, ns, rfl, _⟩ := h
    rfl
  · obtain ⟨a0, ns, rfl, hS, k⟩ := h
    have hrA_ : Room (1) _ := hr.mono (by first | decide | omega)
    have hrB_ : Room (1) _ := hr.mono (by first | decide | omega)
    have hrC_ : Room (4) _ := hr.mono (by first | decide | omega)
    have hrD_ : Room (5) _ := hr.mono (by first | decide | omega)
    have hrE_ : Room (2) _ := hr.mono (by first | decide | omega)
    have hrF_ : Room (8) _ := hr.mono (by first | decide | omega)
    have hrG_ : Room (3) _ := hr.mono (by first | decide | omega)
    have hrH_ : Room (4) _ := hr.mono (by first | decide | omega)
    obtain ⟨fI, fdI, GI, FI, bI⟩ := M.i
    obtain ⟨fC, fdC, hC, FC, bC⟩ := M.c
    obtain ⟨fR, fdR, hR, FR, bR⟩ := M.r
    have hr1 : Room 1 _ := hr.mono (by omega)
    have hr2 : Room (1 + 1) _ := hr.mono (by decide)
    have hrU : Room 18 _ := hr.mono (by decide)
    refine ⟨_, (pss_cons (ps_set (i := 1) scLaw.nd rfl (Or.inl rfl) (pe_call GA_ hrA_ (by rfl) mA_ kA_ bA_ .nil pass0 (pa_cons (pv 0) pa_nil)))
      (pss_cons (ps_set (i := 2) scLaw.nd rfl (Or.inl rfl) (pe_cmpR op_eq (pe_call GB_ hrB_ (by rfl) mB_ kB_ bB_ .nil pass0 (pa_cons (pv 1) (pa_cons pe_int pa_nil))) pe_int (nomark _)))
      (pss_cons (ps_set (i := 3) scLaw.nd rfl (Or.inl rfl) (pe_call GC_ hrC_ (by rfl) mC_ kC_ bC_ .nil pass0 (pa_cons (pv 1) (pa_cons (pe_lst (pa_cons pe_str (pa_cons pe_str pa_nil))) (pa_cons pe_int (pa_cons (pe_lst pa_nil) pa_nil))))))
      (pss_cons (ps_set (i := 4) scLaw.nd rfl (Or.inl rfl) (pe_call GE_ hrE_ (by rfl) mE_ kE_ bE_ .nil pass0 (pa_cons (pv 1) (pa_cons (pe_call GD_ hrD_ (by rfl) mD_ kD_ bD_ .nil pass0 (pa_cons (pv 1) (pa_cons (pv 3) (pa_cons pe_int (pa_cons (pv 2) pa_nil))))) pa_nil))))
      (pss_cons (ps_set (i := 5) scLaw.nd rfl (Or.inl rfl) (pe_make GI.mkC FI hr2 (by rfl) GI.gC bI .nil pass0 (pa_cons (pv 3) (pa_cons (pe_callTy call_tuple_of (by rfl) T.tuple boot_tuple (pa_cons (pv 4) pa_nil)) pa_nil))))
      (pss_cons (ps_set (i := 6) scLaw.nd rfl (Or.inl rfl) (pe_callB (call_reprV hg hr.units) (by rfl) T.repr boot_repr (pa_cons (pe_lst (pa_cons (pv 3) (pa_cons (pv 4) pa_nil))) pa_nil)))
      (pss_cons (ps_for PassesOwn.never rfl (pi_range1 (by rfl) T.range (pa_cons pe_int pa_nil)) (pg_name (i := 7) scLaw.nd rfl (.inl rfl)) (pss_cons (ps_asg (pe_call GF_ hrF_ (by rfl) mF_ kF_ bF_ .nil pass0 (pa_cons (pv 1) (pa_cons (pv 3) pa_nil))) (pg_tup rfl (pgs_cons (pg_name (i := 8) scLaw.nd rfl (.inl rfl)) (pgs_cons (pg_name (i := 9) scLaw.nd rfl (.inl rfl)) pgs_nil))))
      (Evl.pss_cut (ps_if (pt_cmpR op_eq (pv 7) pe_int (nomark _)) (pss_cons (ps_set (i := 10) scLaw.nd rfl (Or.inl rfl) (pe_call GG_ hrG_ (by rfl) mG_ kG_ bG_ .nil pass0 (pa_cons (pv 1) (pa_cons (pe_callTy call_list_of (by rfl) T.list boot_list (pa_cons (pe_ix ix_tup (pv 8) pe_int (fun _ _ => rfl)) pa_nil)) pa_nil))))
      (pss_cons (ps_set (i := 8) scLaw.nd rfl (Or.inl rfl) (pe_tup (pa_cons pe_str (pa_cons (pe_ix ix_tup (pv 8) pe_int (fun _ _ => rfl)) (pa_cons (pe_tup (pa_cons (pe_tup (pa_cons (pv 10) (pa_cons (pe_ix ix_list (pe_lst (pa_cons pe_str (pa_cons pe_str (pa_cons pe_str pa_nil)))) (pe_call GB_ hrB_ (by rfl) mB_ kB_ bB_ .nil pass0 (pa_cons (pv 1) (pa_cons pe_int pa_nil))) (fun _ _ => rfl)) (pa_cons (pe_ix ix_tup (pe_ix ix_tup (pv 3) pe_int (fun _ _ => rfl)) pe_int (fun _ _ => rfl)) pa_nil)))) pa_nil)) pa_nil)))))
      (pss_one (ps_set (i := 9) scLaw.nd rfl (Or.inl rfl) (pe_op op_catA (pe_slice sl_tupA (pv 9) po_none (po_some (pe_callB call_len_seq (by rfl) T.len PySem.boot_len (pa_cons (pe_ix ix_tup (pv 8) pe_int (fun _ _ => rfl)) pa_nil)))) (pe_tup (pa_cons (pe_tup (pa_cons (pv 10) (pa_cons pe_str pa_nil))) pa_nil))))))) pss_nil)
      (pss_cons (ps_set (i := 11) scLaw.nd rfl (Or.inl rfl) (pe_call GU hrU (by rfl) mU kU bU vU pass0 (pa_cons (pe_disp (pps_cons pe_str (pv 5) pps_nil) (by rfl) (by rfl) (by decide) (by decide)) (pa_cons (pe_tup (pa_cons pe_str (pa_cons (pe_tup (pa_cons (pv 8) pa_nil)) pa_nil))) pa_nil))))
      (pss_cons (ps_if (pt_cmpR op_ne (pe_callB (call_reprV hg hr.units) (by rfl) T.repr boot_repr (pa_cons (pe_lst (pa_cons (pe_meth0 (pv 11) GI.cls hC FC hr1 bC .nil pass0) (pa_cons (pe_meth0 (pv 11) GI.cls hR FR hr1 bR .nil pass0) pa_nil))) pa_nil)) (pe_callB (call_reprV hg hr.units) (by rfl) T.repr boot_repr (pa_cons (pe_lst (pa_cons (pv 9) (pa_cons (pe_call GH_ hrH_ (by rfl) mH_ kH_ bH_ .nil pass0 (pa_cons (pv 3) (pa_cons (pv 4) (pa_cons (pv 8) pa_nil)))) pa_nil))) pa_nil)) (nomark _)) (pss_one (ps_ret pe_bl)) pss_nil)
      (pss_cons (ps_set (i := 12) scLaw.nd rfl (Or.inl rfl) (pe_tup (pa_cons pe_str (pa_cons (pe_ix ix_tup (pv 8) pe_int (fun _ _ => rfl)) (pa_cons (pe_revT (pe_ix ix_tup (pv 8) pe_int (fun _ _ => rfl))) pa_nil)))))
      (pss_one (ps_if (pt_cmpR op_ne (pe_callB (call_reprV hg hr.units) (by rfl) T.repr boot_repr (pa_cons (pe_meth0 (pe_call GU hrU (by rfl) mU kU bU vU pass0 (pa_cons (pe_disp (pps_cons pe_str (pv 5) pps_nil) (by rfl) (by rfl) (by decide) (by decide)) (pa_cons (pe_tup (pa_cons pe_str (pa_cons (pe_tup (pa_cons (pv 12) pa_nil)) pa_nil))) pa_nil))) GI.cls hR FR hr1 bR .nil pass0) pa_nil)) (pe_callB (call_reprV hg hr.units) (by rfl) T.repr boot_repr (pa_cons (pe_call GH_ hrH_ (by rfl) mH_ kH_ bH_ .nil pass0 (pa_cons (pv 3) (pa_cons (pv 4) (pa_cons (pv 12) pa_nil)))) pa_nil)) (nomark _)) (pss_one (ps_ret pe_bl)) pss_nil))))))))
      (pss_cons (ps_set (i := 13) scLaw.nd rfl (Or.inl rfl) (pe_call GU hrU (by rfl) mU kU bU vU pass0 (pa_cons (pe_disp (pps_cons pe_str (pe_make GI.mkC FI hr2 (by rfl) GI.gC bI .nil pass0 (pa_cons (pv 3) (pa_cons (pe_tup pa_nil) pa_nil))) pps_nil) (by rfl) (by rfl) (by decide) (by decide)) (pa_cons (pe_tup (pa_cons pe_str (pa_cons (pe_tup (pa_cons (pe_tup (pa_cons pe_str (pa_cons (pe_tup pa_nil) (pa_cons (pe_tup (pa_cons (pe_tup (pa_cons pe_str (pa_cons pe_str (pa_cons (pe_ix ix_tup (pe_ix ix_tup (pv 3) pe_int (fun _ _ => rfl)) pe_int (fun _ _ => rfl)) pa_nil)))) pa_nil)) pa_nil)))) pa_nil)) pa_nil))) pa_nil))))
      (pss_cons (ps_if (pt_cmpR op_ne (pe_callB (call_reprV hg hr.units) (by rfl) T.repr boot_repr (pa_cons (pe_lst (pa_cons (pe_meth0 (pv 13) GI.cls hC FC hr1 bC .nil pass0) (pa_cons (pe_meth0 (pv 13) GI.cls hR FR hr1 bR .nil pass0) pa_nil))) pa_nil)) (pe_callB (call_reprV hg hr.units) (by rfl) T.repr boot_repr (pa_cons (pe_lst (pa_cons (pe_tup (pa_cons (pe_tup (pa_cons pe_str (pa_cons pe_str pa_nil))) pa_nil)) (pa_cons (pe_lst pa_nil) pa_nil))) pa_nil)) (nomark _)) (pss_one (ps_ret pe_bl)) pss_nil)
      (pss_one (ps_ret (pe_cmpR op_eq (pe_callB (call_reprV hg hr.units) (by rfl) T.repr boot_repr (pa_cons (pe_lst (pa_cons (pe_meth0 (pv 5) GI.cls hC FC hr1 bC .nil pass0) (pa_cons (pe_meth0 (pv 5) GI.cls hR FR hr1 bR .nil pass0) pa_nil))) pa_nil)) (pv 6) (nomark _))))))))))))), ?_⟩
    have two : 2 ≤ sizeLine := by decide
    have one : 1 ≤ sizeLine := by decide
    refine ⟨_, rfl, a0, ns, rfl, hS, fun t H0 s0 ht hT1 => ?_⟩
    obtain ⟨c, hT1⟩ := hT1
    have hT1 : TapeL c H0 t := hT1
    refine ⟨_, rfl, t, c, _, rfl, hT1, by decide, big1000 (by decide) (by decide), fun j H1 j0 j1 T1 S1 => ⟨rfl, ?_⟩⟩
    generalize decide (V.int j = V.int 2) = wide
    refine ⟨_, rfl, two, fun p1 hp1 => ?_⟩
    have z1 := Same.upd (o := .lst [V.str "word", .str "number"]) hp1
    refine ⟨by show 0 ≤ sizeLine; decide, fun p2 hp2 => ?_⟩
    have z2 := Same.upd (o := .lst []) hp2
    have T12 := T1.same (z1.trans z2)
    refine ⟨t, c, p1, p2, 3, ["word", "number"], [], rfl, T12, .inr (z2 _ _ upd_same), .inr upd_same, by decide, by decide, by decide, by decide, fun k hk' => ?_, fun L xs ps H2 hL hc ho nd _ l1' lk l3' T2 _ => ?_⟩
    · simp only [List.mem_cons, List.not_mem_nil, or_false] at hk'
      rcases hk' with rfl | rfl
      · exact .inr (.inl rfl)
      · exact .inl rfl
    have l3' : ps.length ≤ 2 + 3 := l3'
    have l1' : 2 ≤ ps.length := l1'
    have l8 : ps.length ≤ 8 := by omega
    have cp : ColP ps := ⟨ho, nd, by omega, l8⟩
    have cL : CA H2 L ps := ⟨xs, hL, hc⟩
    clear z1 z2 hp1 hp2 T12 T1 S1 hT1 s0 ht j0 j1 hS hL hc
    -- rows
    refine ⟨_, rfl, _, rfl, _, rfl, _, rfl, t, c, L, ps, 14, wide, rfl, T2, cL, cp, by decide, by decide, fun R rs0 H5 eR nR ra0 rw0 lr0 T5 S5 => ?_⟩
    refine ⟨t, c, R, ps, rs0, rfl, T5, cp, eR, nR, ra0, rw0, by omega, fun N rs H6 eN nN ra rw_ ln T6 S6 => ?_⟩
    have ok := rw_.ok
    have ra6 : RowsAt H6 rs := ra.same dl_here
    have cL6 := (cL.b T2.tape S5).b T5.tape S6
    clear ra ra0 rw0 lr0 T5 S5 S6 eR nR cL T2
    refine ⟨_, rfl, _, rfl, N, _, rfl, .inl ⟨SqL.of eN, fun tu htu => ?_⟩⟩
    dsimp only [tNil]
    have ztu := Same.upd (o := .tup (rs.map (·.1))) htu
    refine mk_tb (.inr upd_same) (ra6.same ztu) ok fun a H7 s7 _ hI => ?_
    have s67 := ztu.trans s7
    refine ⟨_, rfl, _, rfl, two, fun M hM => ?_⟩
    have zM := Same.upd (o := .lst [.ref L, .ref N]) hM
    have s6M := s67.trans zM
    refine ⟨.ref M, _, rfl, both_shw cp (cL6.same s6M) (s6M _ _ eN) (RowsAt.same ra6 s6M) rw_ ln upd_same, ?_⟩
    have T10 := T6.same s6M
    have eN10 := s6M _ _ eN
    have cL10 := cL6.same s6M
    have ra10 : RowsAt _ rs := RowsAt.same ra6 s6M
    have hI10 := hI.same zM
    generalize L2.upd H7 M (.lst [.ref L, .ref N]) = H10 at T10 eN10 cL10 ra10 hI10 ⊢
    clear s6M zM hM s67 s7 ztu htu hI cL6 ra6 eN T6
    have tS : nmS "t" ∧ Sh 12 "t" := ⟨by decide +kernel, ⟨by decide +kernel, by decide +kernel⟩⟩
    have wt : ∀ rs : RowsL, WtP [(("t" : Str), ps, rs)] := fun rs => ⟨fun o ho => by rw [List.mem_singleton.mp ho]; exact ⟨tS.1, tS.2, cp⟩, List.nodup_cons.mpr ⟨nofun, List.nodup_nil⟩, by show 1 ≤ 10; decide⟩
    have mem : ∀ rs : RowsL, (("t" : Str), ps, rs) ∈ [(("t" : Str), ps, rs)] := fun _ => List.mem_cons_self
    have lr : ∀ {ks : List Str} {ts : List (Str × Str × Str)}, (stepB [] ps (.group ks ts) (rs.map (·.2))).length ≤ 14 := fun {ks ts} => by
      show (List.map _ _).length ≤ 14
      rw [List.length_map]
      have := grp_lenD (atD (ks.map fun n => (nms ps).idxOf n)) (rs.map (·.2))
      rw [List.length_map] at this
      omega
    refine ⟨3, rfl, by omega, by omega, for_range (lo := 0) (n := 3) (fun i σ H' => (∃ x7 x8 x9 x10 x11 x12 : Option V, σ = [some (.ref a0), some (.ref t), some (.bl wide), some (.ref L), some (.ref N), some (.ref a), some (.str (bothDL ps rs).shown), x7, x8, x9, x10, x11, x12, none]) ∧ TapeL c H' t ∧ IsTb C H' a L rs ∧ CA H' L ps ∧ H' N = some (.lst (rs.map (·.1))) ∧ RowsAt H' rs) ⟨⟨_, _, _, _, _, _, rfl⟩, T10, hI10, cL10, eN10, ra10⟩ ?_ ?_⟩
    · clear T10 hI10 cL10 eN10 ra10
      rintro i σ H1 hi ⟨⟨x7, x8, x9, x10, x11, x12, rfl⟩, T1, hI1, cL1, eN1, ra1⟩
      refine ⟨_, rfl, _, rfl, t, c, L, ps, rfl, T1, cL1, cp, fun r v C2 p qs H2 er dv cC ld T2 S2 => ?_⟩
      refine ⟨r, _, rfl, SqT.of er, rfl, _, _, rfl, _, _, rfl, rfl, ?_⟩
      dsimp only [gNil]
      have hI2 := hI1.b T1.tape S2 ok
      have cL2 := cL1.b T1.tape S2
      have eN2 := S2 _ _ nN eN1
      have ra2 : RowsAt H2 rs := RowsAt.same (fun r hr => (rowsF T1.tape ra1 ok r hr).same (dl_same S2)) dl_here
      obtain ⟨pa, rfl⟩ : ∃ pa, v = .ref pa := by
        cases p with
        | group ks ts => cases dv; exact ⟨_, rfl⟩
      have dp2 : Dh H2 (.ref pa) p.d := dv.same dl_here
      clear T1 hI1 cL1 eN1 ra1 S2 dv er
      cases p with
      | group ks ts =>
      refine ⟨fun σ H' => ∃ (pa C3 : Addr) (qs : CsL) (ks : List Str) (ts : List (Str × Str × Str)) (x10 : Option V), σ = [some (.ref a0), some (.ref t), some (.bl wide), some (.ref L), some (.ref N), some (.ref a), some (.str (bothDL ps rs).shown), some (.int (0 + (i : Nat))), some (.ref pa), some (.ref C3), x10, x11, x12, none] ∧ Dh H' (.ref pa) (Ps.d (.group ks ts)) ∧ CZ H' C3 qs ∧ (∀ os, Lead os ps (.group ks ts) qs) ∧ TapeL c H' t ∧ IsTb C H' a L rs ∧ CA H' L ps ∧ H' N = some (.lst (rs.map (·.1))) ∧ RowsAt H' rs, ?_, ?_⟩
      · refine ⟨_, rfl, rfl, _, rfl, ite2 (fun z => ?_) (fun z => ⟨pa, C2, qs, ks, ts, _, rfl, dp2, CZ.of cC, ld, T2, hI2, cL2, eN2, ra2⟩)⟩
        obtain ⟨v1, u1, e1, dv1, du1⟩ := dh3g dp2
        obtain ⟨b, rfl, eb⟩ := dh_strs dv1
        obtain ⟨hk, g, eqs⟩ : (∀ k ∈ ks, k ∈ nms ps) ∧ GrpOk ks ts ∧ qs.take ks.length = ks.map fun n => (n, kdOf ps n) := by
          cases ld [] with
          | group hk g ht => exact ⟨hk, g, by rw [List.take_append_of_le_length (by rw [List.length_map]; exact Nat.le_refl _), List.take_of_length_le (by rw [List.length_map]; exact Nat.le_refl _)]⟩
        have kl := g.kl
        have lqs : ks.length ≤ qs.length := by
          have := congrArg List.length eqs
          rw [List.length_map, List.length_take] at this
          omega
        refine ⟨_, rfl, _, rfl, pa, _, _, .ref b, rfl, rfl, SqT.of e1, at_of (j := 1) rfl rfl, b, _, rfl, .inr (SqT.of eb), fun nl hnl => ?_⟩
        have znl := Same.upd (o := .lst (vS ks)) hnl
        refine ⟨t, c, nl, ks, rfl, T2.same znl, upd_same, by omega, fun x H3 sx nx hx T3 S3 => ?_⟩
        have S23 := (Same.b t znl).trans S3
        have st := SameT.b T2.tape S23
        have e13 := st _ _ e1
        have eb3 := st _ _ eb
        have hI3 := hI2.b T2.tape S23 ok
        have cL3 := cL2.b T2.tape S23
        have cC3 := cC.b T2.tape S23
        have eN3 := S23 _ _ nN eN2
        have ra3 : RowsAt H3 rs := RowsAt.same (fun r hr => (rowsF T2.tape ra2 ok r hr).same (dl_same S23)) dl_here
        clear hI2 cL2 cC eN2 ra2 st S23 S3 znl hnl dp2 dv1 e1 eb T2
        refine ⟨_, rfl, pa, _, _, .ref b, rfl, rfl, SqT.of e13, at_of (j := 1) rfl rfl, _, rfl, by show 3 ≤ sizeLine; decide, fun q0 hq0 => ?_⟩
        have zq := Same.upd (o := .lst [V.str "sum", .str "mean", .str "median"]) hq0
        have nq0 := T3.tape.ne hq0
        refine ⟨_, rfl, t, c, _, rfl, T3.same zq, by decide, big1000 (by decide) (by decide), fun j H4 j0 j1 T4 S4 => ?_⟩
        obtain ⟨fnm, hfn, mfn⟩ : ∃ fnm : Str, ([V.str "sum", .str "mean", .str "median"] : List V)[j.toNat]? = some (.str fnm) ∧ fnm ∈ fnS := by
          have : j = 0 ∨ j = 1 ∨ j = 2 := by omega
          rcases this with rfl | rfl | rfl
          · exact ⟨_, rfl, .tail _ (.head _)⟩
          · exact ⟨_, rfl, .tail _ (.tail _ (.head _))⟩
          · exact ⟨_, rfl, .tail _ (.tail _ (.tail _ (.head _)))⟩
        have S34 := (Same.b t zq).trans S4
        have st := SameT.b T3.tape S34
        have eb4 := st _ _ eb3
        have hI4 := hI3.b T3.tape S34 ok
        have cL4 := cL3.b T3.tape S34
        have cC4 := cC3.b T3.tape S34
        have eN4 := S34 _ _ nN eN3
        have ra4 : RowsAt H4 rs := RowsAt.same (fun r hr => (rowsF T3.tape ra3 ok r hr).same (dl_same S34)) dl_here
        have eq4 := S4 _ _ nq0 (show L2.upd H3 q0 (.lst [V.str "sum", .str "mean", .str "median"]) q0 = some (.lst [V.str "sum", .str "mean", .str "median"]) from upd_same)
        clear hI3 cL3 cC3 eN3 ra3 st S34 S4 zq hq0 nq0 e13 eb3 T3
        obtain ⟨xs4, zL, cc⟩ := id cL4
        have lx := cc.len
        obtain ⟨x2, hx2⟩ : ∃ x2, xs4[1]? = some x2 := ⟨_, List.getElem?_eq_getElem (by omega)⟩
        obtain ⟨ca, z1, k1, rfl, ea, ep⟩ := cc.get _ _ hx2
        have hk1 : k1 = "number" := by
          have h1 : ((ps.map (·.2)).take 2)[1]? = some k1 := by
            rw [List.getElem?_take_of_lt (by decide), List.getElem?_map, ep]
            rfl
          rw [show (ps.map (·.2)).take 2 = [("word" : Str), "number"] from lk] at h1
          exact (Option.some.inj h1).symm
        subst hk1
        have mz : z1 ∈ nms ps := List.mem_map_of_mem (f := (·.1)) (List.mem_of_getElem? ep)
        refine ⟨q0, _, _, .str fnm, rfl, rfl, SqL.of eq4, at_of (j := j.toNat) (by omega) hfn, _, rfl, L, xs4, _, .ref ca, rfl, rfl, zL.sq, at_of (j := 1) rfl hx2, ca, _, _, .str z1, rfl, rfl, SqT.of ea, at_of (j := 0) rfl rfl, by show 3 ≤ sizeLine; decide, fun g1 hg1 => ⟨one, fun g2 hg2 => ⟨by show 3 ≤ sizeLine; decide, fun g3 hg3 => ?_⟩⟩⟩
        have y1 := Same.upd (o := .tup [V.str x, .str fnm, .str z1]) hg1
        have y2 := Same.upd (o := .tup [V.ref g1]) hg2
        have y3 := Same.upd (o := .tup [V.str "group", .ref b, .ref g2]) hg3
        have E1 := (y2.trans y3) _ _ (show L2.upd H4 g1 (.tup [V.str x, .str fnm, .str z1]) g1 = some (.tup [V.str x, .str fnm, .str z1]) from upd_same)
        have E2 := y3 _ _ (show L2.upd (L2.upd H4 g1 (.tup [V.str x, .str fnm, .str z1])) g2 (.tup [V.ref g1]) g2 = some (.tup [V.ref g1]) from upd_same)
        have E3 : L2.upd (L2.upd (L2.upd H4 g1 (.tup [V.str x, .str fnm, .str z1])) g2 (.tup [V.ref g1])) g3 (.tup [V.str "group", .ref b, .ref g2]) g3 = some (.tup [V.str "group", .ref b, .ref g2]) := upd_same
        have s45 := y1.trans (y2.trans y3)
        generalize L2.upd (L2.upd (L2.upd H4 g1 (.tup [V.str x, .str fnm, .str z1])) g2 (.tup [V.ref g1])) g3 (.tup [V.str "group", .ref b, .ref g2]) = H5 at E1 E2 E3 s45 ⊢
        clear y1 y2 y3 hg1 hg2 hg3
        have eb5 := s45 _ _ eb4
        have lb : (vS ks).length = ks.length := List.length_map _
        refine ⟨_, rfl, _, rfl, g3, _, _, .ref b, rfl, rfl, SqT.of E3, at_of (j := 1) rfl rfl, b, _, rfl, .inr (SqT.of eb5), _, rfl, ?_⟩
        show rSlA _ (.ref C2) none (some (((vS ks).length : Nat) : Int)) H5 _
        rw [lb]
        refine slZ (CZ.of (cC4.same s45)) lqs fun r1 H6 s6 cz => ⟨_, rfl, two, fun m1 hm1 => ⟨one, fun m2 hm2 => ?_⟩⟩
        have w1 := Same.upd (o := .tup [V.str x, .str "number"]) hm1
        have w2 := Same.upd (o := .tup [V.ref m1]) hm2
        have F1 := w2 _ _ (show L2.upd H6 m1 (.tup [V.str x, .str "number"]) m1 = some (.tup [V.str x, .str "number"]) from upd_same)
        refine catZ (cz.same (w1.trans w2)) ?_ upd_same F1 fun r2 H8 s8 cz2 => ?_
        · rw [List.length_take]
          omega
        have s48 := s45.trans (s6.trans ((w1.trans w2).trans s8))
        have s58 := s6.trans ((w1.trans w2).trans s8)
        rw [eqs] at cz2
        have nz := (cp.nm mz).2
        have ndx : (ks ++ [x]).Nodup := List.nodup_append.mpr ⟨(List.nodup_append.mp g.nd).1, List.nodup_cons.mpr ⟨nofun, List.nodup_nil⟩, fun a ha b hb e => hx (by rw [← show b = x from List.mem_singleton.mp hb, ← e]; exact ha)⟩
        have g2' : GrpOk ks [(x, fnm, z1)] := ⟨g.k, fun y hy => by rw [List.mem_singleton.mp hy]; exact ⟨nx, mfn, nz⟩, ndx, kl, ⟨Nat.le_refl _, by show 1 ≤ 6; decide⟩, by show ks.length + 1 ≤ 8; omega⟩
        exact ⟨g3, r2, _, ks, [(x, fnm, z1)], _, rfl, .tup (s58 _ _ E3) (.cons (.str _) (.cons (.tup (s58 _ _ eb5) (vS_dh _)) (.cons (.tup (s58 _ _ E2) (.cons (.tup (s58 _ _ E1) (.cons (.str _) (.cons (.str _) (.cons (.str _) .nil)))) .nil)) .nil))), cz2, fun os => .group hk g2' (fun y hy => by rw [List.mem_singleton.mp hy]; exact ⟨sx, mz, fun _ => kdOf_mem cp.nd (List.mem_of_getElem? ep)⟩), T4.same s48, hI4.same s48, cL4.same s48, s48 _ _ eN4, RowsAt.same ra4 s48⟩
      clear T2 hI2 cL2 eN2 ra2 dp2 cC ld
      rintro σ H3 ⟨pa, C3, qs, ks, ts, x10, rfl, dp, cC, ld, T3, hI3, cL3, eN3, ra3⟩
      obtain ⟨v1, u1, e1, dv1, du1⟩ := dh3g dp
      obtain ⟨b, rfl, eb⟩ := dh_strs dv1
      cases du1 with
      | @tup tq us _ eu hu =>
      obtain ⟨hk, g, ht⟩ : (∀ k ∈ ks, k ∈ nms ps) ∧ GrpOk ks ts ∧ (∀ t ∈ ts, Sh 12 t.1 ∧ t.2.2 ∈ nms ps ∧ (t.2.1 ≠ "count" → kdOf ps t.2.2 = "number")) := by
        cases ld [] with
        | group hk g ht => exact ⟨hk, g, ht⟩
      have dp3 := dp
      intro d3 hd3
      have zd3 := Same.upd (o := .dK []) hd3
      refine ⟨_, rfl, upd_same, [((Sum.inr "t" : Key), .ref a)], rfl, by show 1 ≤ 15; decide, ?_⟩
      have sd3 : Same H3 (L2.upd (L2.upd H3 d3 (.dK [])) d3 (.dK (mergeK [] [((Sum.inr "t" : Key), .ref a)]))) := fun b o e => by
        rw [upd_ne (ne_of_none e hd3)]
        exact zd3 b o e
      have ed3 : L2.upd (L2.upd H3 d3 (.dK [])) d3 (.dK (mergeK [] [((Sum.inr "t" : Key), .ref a)])) d3 = some (.dK [((Sum.inr "t" : Key), .ref a)]) := upd_same
      generalize L2.upd (L2.upd H3 d3 (.dK [])) d3 (.dK (mergeK [] [((Sum.inr "t" : Key), .ref a)])) = X3 at sd3 ed3 ⊢
      refine ⟨_, rfl, one, fun uu3 hu3 => ⟨two, fun pp3 hp3 => ?_⟩⟩
      have zu3 := Same.upd (o := .tup [.ref pa]) hu3
      have zp3 := Same.upd (o := .tup [.str "t", .ref uu3]) hp3
      have eu3 := zp3 _ _ (show L2.upd X3 uu3 (.tup [.ref pa]) uu3 = some (.tup [.ref pa]) from upd_same)
      have ep3 : L2.upd (L2.upd X3 uu3 (.tup [.ref pa])) pp3 (.tup [.str "t", .ref uu3]) pp3 = some (.tup [.str "t", .ref uu3]) := upd_same
      have ed3' := (zu3.trans zp3) _ _ ed3
      have sx3 := sd3.trans (zu3.trans zp3)
      generalize L2.upd (L2.upd X3 uu3 (.tup [.ref pa])) pp3 (.tup [.str "t", .ref uu3]) = Y3 at eu3 ep3 ed3' sx3 ⊢
      refine ⟨d3, pp3, uu3, "t", [((Sum.inr "t" : Key), .ref a)], [("t", ps, rs)], rs, ps, qs, _, [.ref pa], [.group ks ts], rfl, ed3', .cons (hI3.same sx3) (cL3.same sx3) cp rw_ (by omega) .nil, wt rs, mem rs, ep3, eu3, .cons (dp3.same sx3) .nil, Runs.cons (sts := []) (ld _) (by show (rs.map (·.2)).length ≤ 14; rw [List.length_map]; exact ln) (Nat.le_trans (lr (ks := ks) (ts := ts)) (by decide)) .nil, by show 1 ≤ 10; decide, fun a3' cv3 rs3 J3 sj3 hJ3 cj3 cq3 wj3 ej3 => ?_⟩
      have wj3 : RowW qs (rs3.map (·.2)) := by rw [ej3]; exact wj3
      have ej3 : rs3.map (·.2) = stepB [] ps (.group ks ts) (rs.map (·.2)) := ej3
      have lj3 : rs3.length ≤ 14 := by
        have := lr (ks := ks) (ts := ts)
        rw [← ej3, List.length_map] at this
        exact this
      obtain ⟨dx3, bv3, h13, h23, h33⟩ := id hJ3
      have sH3 := sx3.trans sj3
      refine ⟨_, rfl, a3', dx3, _, rfl, h13, rfl, a3', cv3, _, rfl, hJ3, _, rfl, a3', dx3, _, rfl, h13, rfl, a3', cv3, _, rfl, hJ3, fun l5 hl5 => ⟨two, fun M1 hM1 => ?_⟩⟩
      have z5 := Same.upd (o := .lst (rs3.map (·.1))) hl5
      have z6 := Same.upd (o := .lst [.ref cv3, .ref l5]) hM1
      have s18 := z5.trans z6
      have e5 := z6 _ _ (show L2.upd J3 l5 (.lst (rs3.map (·.1))) l5 = some (.lst (rs3.map (·.1))) from upd_same)
      have e6 : L2.upd (L2.upd J3 l5 (.lst (rs3.map (·.1)))) M1 (.lst [.ref cv3, .ref l5]) M1 = some (.lst [.ref cv3, .ref l5]) := upd_same
      generalize L2.upd (L2.upd J3 l5 (.lst (rs3.map (·.1)))) M1 (.lst [.ref cv3, .ref l5]) = J6 at s18 e5 e6 ⊢
      refine ⟨.ref M1, (bothDL qs rs3).shown, rfl, both_shw cq3 (cj3.same s18) e5 (RowsAt.same h33 s18) wj3 lj3 e6, ?_⟩
      have s36 := sH3.trans s18
      refine ⟨_, rfl, _, rfl, _, rfl, _, rfl, L, N, pa, ps, qs, rs, ks, ts, rfl, cL3.same s36, cp, s36 _ _ eN3, RowsAt.same ra3 s36, rw_, ln, dp.same s36, ld [], fun D rsD J7 s7 eD raD eqD => ⟨two, fun M2 hM2 => ?_⟩⟩
      have zM2 := Same.upd (o := .lst [.ref C3, .ref D]) hM2
      have s38 := s36.trans (s7.trans zM2)
      have eqs : rs3.map (·.2) = rsD.map (·.2) := ej3.trans eqD.symm
      have lD : rsD.length ≤ 14 := by
        have : rs3.length = rsD.length := by rw [← List.length_map (as := rs3) (·.2), eqs, List.length_map]
        omega
      refine ⟨.ref M2, (bothDL qs rs3).shown, rfl, by rw [bothDL_eq eqs]; exact both_shwZ cq3 (cC.same s38) (zM2 _ _ eD) (RowsAt.same raD zM2) (by rw [← eqs]; exact wj3) lD upd_same, rfl, _, rfl, ?_⟩
      rw [decide_eq_true rfl]
      refine iteF ?_
      generalize L2.upd J7 M2 (.lst [.ref C3, .ref D]) = H4 at s38 ⊢
      -- the totals backwards
      refine ⟨_, rfl, pa, _, _, .ref b, rfl, rfl, SqT.of (s38 _ _ e1), at_of (j := 1) rfl rfl, _, rfl, pa, _, _, .ref tq, rfl, rfl, SqT.of (s38 _ _ e1), at_of (j := 2) rfl rfl, tq, us, rfl, SqT.of (s38 _ _ eu), fun rv hrv => ⟨by show 3 ≤ sizeLine; decide, fun pb hpb => ?_⟩⟩
      have zr := Same.upd (o := .tup us.reverse) hrv
      have zb := Same.upd (o := .tup [.str "group", .ref b, .ref rv]) hpb
      have er := zb _ _ (show L2.upd H4 rv (.tup us.reverse) rv = some (.tup us.reverse) from upd_same)
      have epb : L2.upd (L2.upd H4 rv (.tup us.reverse)) pb (.tup [.str "group", .ref b, .ref rv]) pb = some (.tup [.str "group", .ref b, .ref rv]) := upd_same
      have s39 := s38.trans (zr.trans zb)
      generalize L2.upd (L2.upd H4 rv (.tup us.reverse)) pb (.tup [.str "group", .ref b, .ref rv]) = H5 at er epb s39 ⊢
      have dp5 : Dh H5 (.ref pb) (Ps.d (.group ks ts.reverse)) := .tup epb (.cons (.str _) (.cons (dv1.same s39) (.cons (.tup er (by rw [List.map_reverse]; exact dhA_rev (hu.same s39))) .nil)))
      have pr := List.reverse_perm ts
      have g2 : GrpOk ks ts.reverse := ⟨g.k, fun x hx => g.t x (pr.mem_iff.mp hx), (((pr.map (·.1)).append_left ks).nodup_iff).mpr g.nd, g.kl, by rw [List.length_reverse]; exact g.tl, by rw [List.length_reverse]; exact g.al⟩
      have ld2 : ∀ os, Lead os ps (.group ks ts.reverse) (ks.map (fun n => (n, kdOf ps n)) ++ ts.reverse.map fun t => (t.1, ("number" : Str))) := fun os => .group hk g2 fun t h => ht t (pr.mem_iff.mp h)
      have hI5 := hI3.same s39
      have cL5 := cL3.same s39
      generalize ks.map (fun n => (n, kdOf ps n)) ++ ts.reverse.map (fun t => (t.1, ("number" : Str))) = qs2 at ld2
      intro d5 hd5
      have zd5 := Same.upd (o := .dK []) hd5
      refine ⟨_, rfl, upd_same, [((Sum.inr "t" : Key), .ref a)], rfl, by show 1 ≤ 15; decide, ?_⟩
      have sd5 : Same H5 (L2.upd (L2.upd H5 d5 (.dK [])) d5 (.dK (mergeK [] [((Sum.inr "t" : Key), .ref a)]))) := fun b o e => by
        rw [upd_ne (ne_of_none e hd5)]
        exact zd5 b o e
      have ed5 : L2.upd (L2.upd H5 d5 (.dK [])) d5 (.dK (mergeK [] [((Sum.inr "t" : Key), .ref a)])) d5 = some (.dK [((Sum.inr "t" : Key), .ref a)]) := upd_same
      generalize L2.upd (L2.upd H5 d5 (.dK [])) d5 (.dK (mergeK [] [((Sum.inr "t" : Key), .ref a)])) = X5 at sd5 ed5 ⊢
      refine ⟨_, rfl, one, fun uu5 hu5 => ⟨two, fun pp5 hp5 => ?_⟩⟩
      have zu5 := Same.upd (o := .tup [.ref pb]) hu5
      have zp5 := Same.upd (o := .tup [.str "t", .ref uu5]) hp5
      have eu5 := zp5 _ _ (show L2.upd X5 uu5 (.tup [.ref pb]) uu5 = some (.tup [.ref pb]) from upd_same)
      have ep5 : L2.upd (L2.upd X5 uu5 (.tup [.ref pb])) pp5 (.tup [.str "t", .ref uu5]) pp5 = some (.tup [.str "t", .ref uu5]) := upd_same
      have ed5' := (zu5.trans zp5) _ _ ed5
      have sx5 := sd5.trans (zu5.trans zp5)
      generalize L2.upd (L2.upd X5 uu5 (.tup [.ref pb])) pp5 (.tup [.str "t", .ref uu5]) = Y5 at eu5 ep5 ed5' sx5 ⊢
      refine ⟨d5, pp5, uu5, "t", [((Sum.inr "t" : Key), .ref a)], [("t", ps, rs)], rs, ps, qs2, _, [.ref pb], [.group ks ts.reverse], rfl, ed5', .cons (hI5.same sx5) (cL5.same sx5) cp rw_ (by omega) .nil, wt rs, mem rs, ep5, eu5, .cons (dp5.same sx5) .nil, Runs.cons (sts := []) (ld2 _) (by show (rs.map (·.2)).length ≤ 14; rw [List.length_map]; exact ln) (Nat.le_trans (lr (ks := ks) (ts := ts.reverse)) (by decide)) .nil, by show 1 ≤ 10; decide, fun a5' cv5 rs5 J5 sj5 hJ5 cj5 cq5 wj5 ej5 => ?_⟩
      have wj5 : RowW qs2 (rs5.map (·.2)) := by rw [ej5]; exact wj5
      have ej5 : rs5.map (·.2) = stepB [] ps (.group ks ts.reverse) (rs.map (·.2)) := ej5
      have lj5 : rs5.length ≤ 14 := by
        have := lr (ks := ks) (ts := ts.reverse)
        rw [← ej5, List.length_map] at this
        exact this
      obtain ⟨dx5, bv5, h15, h25, h35⟩ := id hJ5
      have sH5 := sx5.trans sj5
      refine ⟨a5', dx5, _, rfl, h15, rfl, a5', cv5, _, rfl, hJ5, fun l7 hl7 => ?_⟩
      have z7 := Same.upd (o := .lst (rs5.map (·.1))) hl7
      refine ⟨.ref l7, (rowsD rs5).shown, rfl, rows_shw cq5 upd_same (RowsAt.same h35 z7) wj5 lj5, ?_⟩
      have s3a := s39.trans (sH5.trans z7)
      have s57 := sH5.trans z7
      generalize L2.upd J5 l7 (.lst (rs5.map (·.1))) = H7 at s3a s57 ⊢
      refine ⟨_, rfl, _, rfl, _, rfl, L, N, pb, ps, qs2, rs, ks, ts.reverse, rfl, cL3.same s3a, cp, s3a _ _ eN3, RowsAt.same ra3 s3a, rw_, ln, dp5.same s57, ld2 [], fun D2 rsE J9 s9 eD2 raE eqE => ?_⟩
      have s3b := s3a.trans s9
      have eqs2 : rs5.map (·.2) = rsE.map (·.2) := ej5.trans eqE.symm
      have lE : rsE.length ≤ 14 := by
        have : rs5.length = rsE.length := by rw [← List.length_map (as := rs5) (·.2), eqs2, List.length_map]
        omega
      refine ⟨.ref D2, (rowsD rs5).shown, rfl, by rw [rowsD_eq eqs2]; exact rows_shw cq5 eD2 raE (by rw [← eqs2]; exact wj5) lE, rfl, _, rfl, ?_⟩
      rw [decide_eq_true rfl]
      exact iteF ⟨⟨_, _, _, _, _, _, rfl⟩, T3.same s3b, hI3.same s3b, cL3.same s3b, s3b _ _ eN3, RowsAt.same ra3 s3b⟩
    · clear T10 hI10 cL10 eN10 ra10
      rintro σ H1 ⟨⟨x7, x8, x9, x10, x11, x12, rfl⟩, T1, hI1, cL1, eN1, ra1⟩
      -- the empty table
      intro d hd
      have zd := Same.upd (o := .dK []) hd
      refine ⟨_, rfl, by show 0 ≤ sizeLine; decide, fun e0 he0 => ?_⟩
      dsimp only [tNil]
      have ze := Same.upd (o := .tup []) he0
      have z12 := zd.trans ze
      refine mk_tb (rs := []) (.inr upd_same) nofun nofun fun ae H2 s2 _ hE => ?_
      have ed2 : H2 d = some (.dK []) := s2 _ _ (ze _ _ (show L2.upd H1 d (.dK []) d = some (.dK []) from upd_same))
      refine ⟨ed2, [((Sum.inr "t" : Key), .ref ae)], rfl, by show 1 ≤ 15; decide, ?_⟩
      have s13 : Same H1 (L2.upd H2 d (.dK (mergeK [] [((Sum.inr "t" : Key), .ref ae)]))) := fun b o e => by
        rw [upd_ne (ne_of_none e hd)]
        exact (z12.trans s2) b o e
      have ed : L2.upd H2 d (.dK (mergeK [] [((Sum.inr "t" : Key), .ref ae)])) d = some (.dK [((Sum.inr "t" : Key), .ref ae)]) := upd_same
      have hE3 : IsTb C (L2.upd H2 d (.dK (mergeK [] [((Sum.inr "t" : Key), .ref ae)]))) ae L [] := hE.upd ed2 ⟨nofun, nofun⟩ nofun
      generalize L2.upd H2 d (.dK (mergeK [] [((Sum.inr "t" : Key), .ref ae)])) = H3 at s13 ed hE3 ⊢
      clear hE ed2 z12 ze zd hd he0
      obtain ⟨xs4, zL, cc⟩ := (id cL1).same s13
      have lx := cc.len
      obtain ⟨x2, hx2⟩ : ∃ x2, xs4[0]? = some x2 := ⟨_, List.getElem?_eq_getElem (by omega)⟩
      obtain ⟨ca, z1, k1, rfl, ea, ep⟩ := cc.get _ _ hx2
      have mz : z1 ∈ nms ps := List.mem_map_of_mem (f := (·.1)) (List.mem_of_getElem? ep)
      refine ⟨by show 0 ≤ sizeLine; decide, fun q1 hq1 => ?_⟩
      have y0 := Same.upd (o := .tup []) hq1
      have Eq1 : L2.upd H3 q1 (.tup []) q1 = some (.tup []) := upd_same
      have ed4 := y0 _ _ ed
      have hE4 := hE3.same y0
      have zL4 := zL.same y0
      have ea4 := y0 _ _ ea
      have cL4 := (cL1.same s13).same y0
      have s14 := s13.trans y0
      generalize L2.upd H3 q1 (.tup []) = H4 at Eq1 ed4 hE4 zL4 ea4 cL4 s14 ⊢
      clear y0 hq1 ed hE3 zL ea
      refine ⟨_, rfl, L, xs4, _, .ref ca, rfl, rfl, zL4.sq, at_of (j := 0) rfl hx2, ca, _, _, .str z1, rfl, rfl, SqT.of ea4, at_of (j := 0) rfl rfl, by show 3 ≤ sizeLine; decide, fun g1 hg1 => ⟨one, fun g2 hg2 => ⟨by show 3 ≤ sizeLine; decide, fun g3 hg3 => ⟨one, fun g4 hg4 => ⟨two, fun pp hpp => ?_⟩⟩⟩⟩⟩
      have y1 := Same.upd (o := .tup [V.str "n", .str "count", .str z1]) hg1
      have y2 := Same.upd (o := .tup [V.ref g1]) hg2
      have y3 := Same.upd (o := .tup [V.str "group", .ref q1, .ref g2]) hg3
      have y4 := Same.upd (o := .tup [V.ref g3]) hg4
      have y5 := Same.upd (o := .tup [V.str "t", .ref g4]) hpp
      have E1 : ((((L2.upd H4 g1 (.tup [V.str "n", .str "count", .str z1])) g1)) = some (.tup [V.str "n", .str "count", .str z1])) := upd_same
      have E1 := (y2.trans (y3.trans (y4.trans y5))) _ _ E1
      have E2 : L2.upd (L2.upd H4 g1 (.tup [V.str "n", .str "count", .str z1])) g2 (.tup [V.ref g1]) g2 = some (.tup [V.ref g1]) := upd_same
      have E2 := (y3.trans (y4.trans y5)) _ _ E2
      have E3 := (y4.trans y5) _ _ (show L2.upd (L2.upd (L2.upd H4 g1 (.tup [V.str "n", .str "count", .str z1])) g2 (.tup [V.ref g1])) g3 (.tup [V.str "group", .ref q1, .ref g2]) g3 = some (.tup [V.str "group", .ref q1, .ref g2]) from upd_same)
      have E4 := y5 _ _ (show L2.upd (L2.upd (L2.upd (L2.upd H4 g1 (.tup [V.str "n", .str "count", .str z1])) g2 (.tup [V.ref g1])) g3 (.tup [V.str "group", .ref q1, .ref g2])) g4 (.tup [V.ref g3]) g4 = some (.tup [V.ref g3]) from upd_same)
      have E5 : L2.upd (L2.upd (L2.upd (L2.upd (L2.upd H4 g1 (.tup [V.str "n", .str "count", .str z1])) g2 (.tup [V.ref g1])) g3 (.tup [V.str "group", .ref q1, .ref g2])) g4 (.tup [V.ref g3])) pp (.tup [V.str "t", .ref g4]) pp = some (.tup [V.str "t", .ref g4]) := upd_same
      have s45 := y1.trans (y2.trans (y3.trans (y4.trans y5)))
      generalize L2.upd (L2.upd (L2.upd (L2.upd (L2.upd H4 g1 (.tup [V.str "n", .str "count", .str z1])) g2 (.tup [V.ref g1])) g3 (.tup [V.str "group", .ref q1, .ref g2])) g4 (.tup [V.ref g3])) pp (.tup [V.str "t", .ref g4]) = H5 at E1 E2 E3 E4 E5 s45 ⊢
      clear y1 y2 y3 y4 y5 hg1 hg2 hg3 hg4 hpp
      have s15 := s14.trans s45
      have nN2 : nmS "n" ∧ Sh 12 "n" := ⟨by decide +kernel, ⟨by decide +kernel, by decide +kernel⟩⟩
      have ge : GrpOk [] [("n", "count", z1)] := ⟨nofun, fun y hy => by rw [List.mem_singleton.mp hy]; exact ⟨nN2.1, .head _, (cp.nm mz).2⟩, List.nodup_cons.mpr ⟨nofun, List.nodup_nil⟩, by show 0 ≤ 3; decide, ⟨Nat.le_refl _, by show 1 ≤ 6; decide⟩, by show 1 ≤ 8; decide⟩
      have dg : Dh H5 (.ref g3) (Ps.d (.group [] [("n", "count", z1)])) := .tup E3 (.cons (.str _) (.cons (.tup (s45 _ _ Eq1) .nil) (.cons (.tup E2 (.cons (.tup E1 (.cons (.str _) (.cons (.str _) (.cons (.str _) .nil)))) .nil)) .nil)))
      have lde : ∀ os, Lead os ps (.group [] [("n", "count", z1)]) [(("n" : Str), ("number" : Str))] := fun os => .group nofun ge fun y hy => by
        rw [List.mem_singleton.mp hy]
        exact ⟨nN2.2, mz, fun h => absurd rfl h⟩
      refine ⟨d, pp, g4, "t", [((Sum.inr "t" : Key), .ref ae)], [("t", ps, [])], [], ps, [(("n" : Str), ("number" : Str))], _, [.ref g3], [.group [] [("n", "count", z1)]], rfl, s45 _ _ ed4, .cons (hE4.same s45) (cL4.same s45) cp nofun (by show 0 ≤ 1000; decide) .nil, wt [], mem [], E5, E4, .cons dg .nil, Runs.cons (sts := []) (lde _) (by show 0 ≤ 14; decide) (by show 0 ≤ 1000; decide) .nil, by show 1 ≤ 10; decide, fun a' cv' rs' J5 s5 hI' ca' cq wj ej => ?_⟩
      obtain rfl : rs' = [] := List.map_eq_nil_iff.mp ej
      obtain ⟨dx, bv, h1, h2, h3⟩ := id hI'
      refine ⟨_, rfl, a', dx, _, rfl, h1, rfl, a', cv', _, rfl, hI', _, rfl, a', dx, _, rfl, h1, rfl, a', cv', _, rfl, hI', fun l5 hl5 => ⟨two, fun M1 hM1 => ?_⟩⟩
      have z5 := Same.upd (o := .lst ((([] : RowsL)).map (·.1))) hl5
      have z6 := Same.upd (o := .lst [.ref cv', .ref l5]) hM1
      have s18 := z5.trans z6
      have e5 := z6 _ _ (show L2.upd J5 l5 (.lst (([] : RowsL).map (·.1))) l5 = some (.lst (([] : RowsL).map (·.1))) from upd_same)
      refine ⟨.ref M1, (bothDL [(("n" : Str), ("number" : Str))] []).shown, rfl, both_shw cq (ca'.same s18) e5 nofun nofun (by show 0 ≤ 14; decide) upd_same, ?_⟩
      have s1A := s15.trans (s5.trans s18)
      generalize L2.upd (L2.upd J5 l5 (.lst (([] : RowsL).map (·.1)))) M1 (.lst [.ref cv', .ref l5]) = J6 at s1A ⊢
      refine ⟨two, fun n1 hn1 => ⟨one, fun n2 hn2 => ⟨by show 0 ≤ sizeLine; decide, fun n3 hn3 => ⟨two, fun n4 hn4 => ?_⟩⟩⟩⟩
      have w1 := Same.upd (o := .tup [V.str "n", .str "number"]) hn1
      have w2 := Same.upd (o := .tup [V.ref n1]) hn2
      have w3 := Same.upd (o := .lst []) hn3
      have w4 := Same.upd (o := .lst [.ref n2, .ref n3]) hn4
      have F1 := (w2.trans (w3.trans w4)) _ _ (show L2.upd J6 n1 (.tup [V.str "n", .str "number"]) n1 = some (.tup [V.str "n", .str "number"]) from upd_same)
      have F2 := (w3.trans w4) _ _ (show L2.upd (L2.upd J6 n1 (.tup [V.str "n", .str "number"])) n2 (.tup [V.ref n1]) n2 = some (.tup [V.ref n1]) from upd_same)
      have F3 := w4 _ _ (show L2.upd (L2.upd (L2.upd J6 n1 (.tup [V.str "n", .str "number"])) n2 (.tup [V.ref n1])) n3 (.lst []) n3 = some (.lst (([] : RowsL).map (·.1))) from upd_same)
      refine ⟨.ref n4, (bothDL [(("n" : Str), ("number" : Str))] []).shown, rfl, both_shwZ cq ⟨_, .inr F2, .cons F1 .nil⟩ F3 nofun nofun (by show 0 ≤ 14; decide) upd_same, rfl, _, rfl, ?_⟩
      rw [decide_eq_true rfl]
      refine iteF ?_
      have s1B := s1A.trans (w1.trans (w2.trans (w3.trans w4)))
      generalize L2.upd (L2.upd (L2.upd (L2.upd J6 n1 (.tup [V.str "n", .str "number"])) n2 (.tup [V.ref n1])) n3 (.lst [])) n4 (.lst [.ref n2, .ref n3]) = J7 at s1B ⊢
      -- the table as it was
      have hI7 := hI1.same s1B
      obtain ⟨dx7, bv7, k1', k2', k3'⟩ := id hI7
      refine ⟨_, rfl, a, dx7, _, rfl, k1', rfl, a, L, _, rfl, hI7, _, rfl, a, dx7, _, rfl, k1', rfl, a, L, _, rfl, hI7, fun l8 hl8 => ⟨two, fun M8 hM8 => ?_⟩⟩
      have z8 := Same.upd (o := .lst (rs.map (·.1))) hl8
      have z9 := Same.upd (o := .lst [.ref L, .ref l8]) hM8
      have e8 := z9 _ _ (show L2.upd J7 l8 (.lst (rs.map (·.1))) l8 = some (.lst (rs.map (·.1))) from upd_same)
      refine ⟨.ref M8, (bothDL ps rs).shown, rfl, both_shw cp ((cL1.same s1B).same (z8.trans z9)) e8 (RowsAt.same k3' (z8.trans z9)) rw_ ln upd_same, _, rfl, rfl, ?_⟩
      rw [decide_eq_true rfl]
      exact k _
end
end
end K20
set_option Elab.async false
set_option linter.all false
set_option maxRecDepth 100000
set_option maxHeartbeats 4000000
namespace K20
open PySem PySem.Spec PyProof.Rows L2 Lc
section
variable {P : Program} {w : World} {K : PySem.W.Frag} {mg : Str → Option Value} {base : Heap} {f : Addr} {fd : FuncData} {u1 : Tok} {fR fW fN fD fL fA fQ fX fY : Addr} {fdR fdW fdN fdD fdL fdA fdQ fdX fdY : FuncData}
theorem scWithin : FnScope ["number"] ["number"] (defScope sWithin) := ⟨rfl, rfl, rfl, by decide +kernel, rfl, by decide +kernel, by decide +kernel⟩
theorem ok_within (F : Fun K "within_limit" "within_limit" sWithin f fd) (T : Bt mg) (m1 : mg "LIMIT" = some (.int lim u1)) : FnOk P w K mg base CX0 1 f fd ["number"] spWithin := by
  refine F.ok scWithin (fun vs H Q E h => ?_) (fun cdv A outer s H vs Q E hr h => ?_)
  · obtain ⟨a, n, d, rfl, _⟩ := h
    rfl
  · obtain ⟨a, n, d, rfl, ha, k⟩ := h
    refine ⟨_, pss_one (ps_ret (pe_and (pe_cmpR op_le (pe_callB call_abs (by rfl) T.abs boot_abs (pa_cons (pe_ix ix_tup (pv 0) pe_int (fun _ _ => rfl)) pa_nil)) (pe_glob (v := .int lim) (by rfl) m1 ⟨_, rfl⟩) (nomark _))
      (pe_one (pe_cmpR op_le (pe_ix ix_tup (pv 0) pe_int (fun _ _ => rfl)) (pe_glob (v := .int lim) (by rfl) m1 ⟨_, rfl⟩) (nomark _))))), ?_⟩
    refine ⟨_, rfl, a, _, _, _, rfl, rfl, SqT.of ha, rfl, n, rfl, _, _, rfl, rfl, _, rfl, ?_⟩
    have e : limB (.int n) (.int d) = (decide ((if n < 0 then -n else n) ≤ lim) && decide (d ≤ lim)) := rfl
    rw [e] at k
    by_cases z : (if n < 0 then -n else n) ≤ lim
    · rw [decide_eq_true z] at k ⊢
      exact iteT ⟨_, rfl, a, _, _, _, rfl, rfl, SqT.of ha, rfl, _, _, rfl, rfl, k⟩
    · rw [decide_eq_false z] at k ⊢
      exact iteF k
end
end K20
set_option Elab.async false
set_option linter.all false
set_option maxRecDepth 100000
set_option maxHeartbeats 8000000
namespace K20
open PySem PySem.Spec PyProof.Rows L2 Lc He
theorem facts {P : Program} {w : World} {K : PySem.W.Frag} {h : Heap} {mg : Str → Option Value} {f : Addr} (X : K.In h) (G : h.Ns mainGlobals mg) (hfa : mg ("law" : Str) = some (.ref f)) (c : SaysD fa fn K) (e : ex K = true) (tb : TabsOk ts w K) :
    ∃ fd : FuncData, (∀ (s : Shared) (v : Value), BindsTo s fd ⟨[v], []⟩ [("_law_script", v)]) ∧ ∀ base : Heap, K.In base → base.Ns mainGlobals mg → FnG P w K mg base 19 f fd ["_law_script"] (spLaw K) := by
  obtain ⟨fd0, D0⟩ := c.def_ 0 (d := dMt "Table" "__init__" "Table.__init__" sTI) rfl
  obtain ⟨fd1, D1⟩ := c.def_ 1 (d := dMt "Table" "columns" "Table.columns" sTC) rfl
  obtain ⟨fd2, D2⟩ := c.def_ 2 (d := dMt "Table" "rows" "Table.rows" sTR) rfl
  obtain ⟨fd3, D3⟩ := c.def_ 3 (d := dOf "common_divisor" sCd) rfl
  obtain ⟨fd4, D4⟩ := c.def_ 4 (d := dOf "lowest_terms" sLow) rfl
  obtain ⟨fd5, D5⟩ := c.def_ 5 (d := dOf "is_name" sName) rfl
  obtain ⟨fd6, D6⟩ := c.def_ 6 (d := dOf "within_limit" sWithin) rfl
  obtain ⟨fd7, D7⟩ := c.def_ 7 (d := dOf "limited" sLim) rfl
  obtain ⟨fd8, D8⟩ := c.def_ 8 (d := dOf "total" sTl) rfl
  obtain ⟨fd9, D9⟩ := c.def_ 9 (d := dOf "by_size" sBz) rfl
  obtain ⟨fd10, D10⟩ := c.def_ 10 (d := dOf "common_scale" sCs) rfl
  obtain ⟨fd11, D11⟩ := c.def_ 11 (d := dOf "scaled" sSd) rfl
  obtain ⟨fd12, D12⟩ := c.def_ 12 (d := dOf "sum_of" sSo) rfl
  obtain ⟨fd13, D13⟩ := c.def_ 13 (d := dOf "mean_of" sMe) rfl
  obtain ⟨fd14, D14⟩ := c.def_ 14 (d := dOf "median_of" sMd) rfl
  obtain ⟨fd15, D15⟩ := c.def_ 15 (d := dOf "least_of" sLe) rfl
  obtain ⟨fd16, D16⟩ := c.def_ 16 (d := dOf "greatest_of" sGe) rfl
  obtain ⟨fd17, D17⟩ := c.def_ 17 (d := dOf "names_of" sNo) rfl
  obtain ⟨fd18, D18⟩ := c.def_ 18 (d := dOf "is_tuple_of" sTo) rfl
  obtain ⟨fd19, D19⟩ := c.def_ 19 (d := dOf "kind_in" sKi) rfl
  obtain ⟨fd20, D20⟩ := c.def_ 20 (d := dOf "are_columns" sAc) rfl
  obtain ⟨fd21, D21⟩ := c.def_ 21 (d := dOf "bounded" sBd) rfl
  obtain ⟨fd22, D22⟩ := c.def_ 22 (d := dOf "is_total" sTt) rfl
  obtain ⟨fd23, D23⟩ := c.def_ 23 (d := dOf "behind_group" sGo) rfl
  obtain ⟨fd24, D24⟩ := c.def_ 24 (d := dOf "word_of" sWd) rfl
  obtain ⟨fd25, D25⟩ := c.def_ 25 (d := dOf "columns_behind" sCb) rfl
  obtain ⟨fd26, D26⟩ := c.def_ 26 (d := dOf "resolved" sRes) rfl
  obtain ⟨fd27, D27⟩ := c.def_ 27 (d := dOf "places_of" sPo) rfl
  obtain ⟨fd28, D28⟩ := c.def_ 28 (d := dOf "picked" sPc) rfl
  obtain ⟨fd29, D29⟩ := c.def_ 29 (d := dOf "grouped" sGr) rfl
  obtain ⟨fd30, D30⟩ := c.def_ 30 (d := dOf "union_of" sUn) rfl
  obtain ⟨fd31, D31⟩ := c.def_ 31 (d := dOf "limited_total" sLt) rfl
  obtain ⟨fd32, D32⟩ := c.def_ 32 (d := dOf "group_rows" sGw) rfl
  obtain ⟨fd33, D33⟩ := c.def_ 33 (d := dKw "run" sRun [("setting", .non)]) rfl
  obtain ⟨fd34, D34⟩ := c.def_ 34 (d := dOf "_law_tape" sTape) rfl
  obtain ⟨fd35, D35⟩ := c.def_ 35 (d := dOf "_law_draw" sDraw) rfl
  obtain ⟨fd36, D36⟩ := c.def_ 36 (d := dOf "_law_lowest" sLst) rfl
  obtain ⟨fd37, D37⟩ := c.def_ 37 (d := dOf "_law_rational" sRat) rfl
  obtain ⟨fd38, D38⟩ := c.def_ 38 (d := dOf "_law_name" sLnm) rfl
  obtain ⟨fd39, D39⟩ := c.def_ 39 (d := dOf "_law_fresh" sFr) rfl
  obtain ⟨fd40, D40⟩ := c.def_ 40 (d := dOf "_law_columns" sCls) rfl
  obtain ⟨fd41, D41⟩ := c.def_ 41 (d := dOf "_law_value" sLv) rfl
  obtain ⟨fd42, D42⟩ := c.def_ 42 (d := dOf "_law_values" sLvs) rfl
  obtain ⟨fd43, D43⟩ := c.def_ 43 (d := dOf "_law_pick" sPk) rfl
  obtain ⟨fd44, D44⟩ := c.def_ 44 (d := dOf "_law_group_step" sGrs) rfl
  obtain ⟨fd45, D45⟩ := c.def_ 45 (d := dOf "_law_lineage" sFar) rfl
  obtain ⟨fd46, D46⟩ := c.def_ 46 (d := dOf "_law_union" sLu) rfl
  obtain ⟨fd47, D47⟩ := c.def_ 47 (d := dOf "_law_limited" sLli) rfl
  obtain ⟨fd48, D48⟩ := c.def_ 48 (d := dOf "_law_rows" sRws) rfl
  obtain ⟨fd49, D49⟩ := c.def_ 49 (d := dOf "_law_ordered" sLo) rfl
  obtain ⟨fd50, D50⟩ := c.def_ 50 (d := dOf "_law_sum" sLs) rfl
  obtain ⟨fd51, D51⟩ := c.def_ 51 (d := dOf "_law_measure" sMs) rfl
  obtain ⟨fd52, D52⟩ := c.def_ 52 (d := dOf "_law_grouped" sLg) rfl
  obtain ⟨fd53, D53⟩ := c.def_ 53 (d := dOf "_law_group_due" sGd) rfl
  obtain ⟨fd54, D54⟩ := c.def_ 54 (d := dOf "_law_alike" sAlk) rfl
  obtain ⟨fd55, D55⟩ := c.def_ 55 (d := dOf "law" sLaw) rfl
  have ef := hfa.symm.trans (glo_ok X G (c.fact 0 (f := .glo "law") rfl))
  cases ef
  have g : ∀ (i : Nat) (x : Str), fa[i]? = some (.glo x) → mg x = some (.ref (ga K x)) := fun i x z => glo_ok X G (c.fact i (f := .glo x) z)
  have z : ∀ (i : Nat) (x : Str), fa[i]? = some (.free x) → mg x = none := fun i x z => free_ok X G (c.fact i (f := .free x) z)
  have T : Bt mg := ⟨z 59 _ rfl, z 60 _ rfl, z 61 _ rfl, z 62 _ rfl, z 63 _ rfl, z 64 _ rfl, z 65 _ rfl, z 66 _ rfl, z 67 _ rfl, z 68 _ rfl, z 69 _ rfl, z 70 _ rfl, z 71 _ rfl, z 72 _ rfl, z 73 _ rfl, z 74 _ rfl, z 75 _ rfl, z 76 _ rfl⟩
  obtain ⟨uc0, mc0⟩ := str_ok X G (c.fact 82 (f := .str "LETTERS" letters) rfl)
  obtain ⟨uc1, mc1⟩ := str_ok X G (c.fact 83 (f := .str "NAME_SIGNS" signs) rfl)
  obtain ⟨uc2, mc2⟩ := int_ok X G (c.fact 84 (f := .int "LONGEST_NAME" 12) rfl)
  obtain ⟨uc3, mc3⟩ := int_ok X G (c.fact 85 (f := .int "LIMIT" lim) rfl)
  obtain ⟨uc4, mc4⟩ := int_ok X G (c.fact 86 (f := .int "MOST_COLUMNS" 8) rfl)
  obtain ⟨uc5, mc5⟩ := int_ok X G (c.fact 87 (f := .int "MOST_KEYS" 3) rfl)
  obtain ⟨uc6, mc6⟩ := int_ok X G (c.fact 88 (f := .int "MOST_TOTALS" 6) rfl)
  have a : ∀ (i : Nat) {b : Bool}, (exL K)[i]? = some b → b = true := fun i _ z => all_at e i z
  have b0 : Binds K fd0 ["self", "columns", "rows"] [] := D0.bindsN fun _ _ _ _ _ _ us hl => match us, hl with | [_, _, _], _ => rfl
  have b1 : Binds K fd1 ["self"] [] := D1.bindsN fun _ _ _ _ _ _ us hl => match us, hl with | [_], _ => rfl
  have b2 : Binds K fd2 ["self"] [] := D2.bindsN fun _ _ _ _ _ _ us hl => match us, hl with | [_], _ => rfl
  have b3 : Binds K fd3 ["a", "b"] [] := D3.bindsN fun _ _ _ _ _ _ us hl => match us, hl with | [_, _], _ => rfl
  have b4 : Binds K fd4 ["n", "d"] [] := D4.bindsN fun _ _ _ _ _ _ us hl => match us, hl with | [_, _], _ => rfl
  have b5 : Binds K fd5 ["value"] [] := D5.bindsN fun _ _ _ _ _ _ us hl => match us, hl with | [_], _ => rfl
  have b6 : Binds K fd6 ["number"] [] := D6.bindsN fun _ _ _ _ _ _ us hl => match us, hl with | [_], _ => rfl
  have b7 : Binds K fd7 ["number"] [] := D7.bindsN fun _ _ _ _ _ _ us hl => match us, hl with | [_], _ => rfl
  have b8 : Binds K fd8 ["function", "values"] [] := D8.bindsN fun _ _ _ _ _ _ us hl => match us, hl with | [_, _], _ => rfl
  have b9 : Binds K fd9 ["value"] [] := D9.bindsN fun _ _ _ _ _ _ us hl => match us, hl with | [_], _ => rfl
  have b10 : Binds K fd10 ["values"] [] := D10.bindsN fun _ _ _ _ _ _ us hl => match us, hl with | [_], _ => rfl
  have b11 : Binds K fd11 ["value", "scale"] [] := D11.bindsN fun _ _ _ _ _ _ us hl => match us, hl with | [_, _], _ => rfl
  have b12 : Binds K fd12 ["values"] [] := D12.bindsN fun _ _ _ _ _ _ us hl => match us, hl with | [_], _ => rfl
  have b13 : Binds K fd13 ["values"] [] := D13.bindsN fun _ _ _ _ _ _ us hl => match us, hl with | [_], _ => rfl
  have b14 : Binds K fd14 ["values"] [] := D14.bindsN fun _ _ _ _ _ _ us hl => match us, hl with | [_], _ => rfl
  have b15 : Binds K fd15 ["values"] [] := D15.bindsN fun _ _ _ _ _ _ us hl => match us, hl with | [_], _ => rfl
  have b16 : Binds K fd16 ["values"] [] := D16.bindsN fun _ _ _ _ _ _ us hl => match us, hl with | [_], _ => rfl
  have b17 : Binds K fd17 ["columns"] [] := D17.bindsN fun _ _ _ _ _ _ us hl => match us, hl with | [_], _ => rfl
  have b18 : Binds K fd18 ["value", "low", "high"] [] := D18.bindsN fun _ _ _ _ _ _ us hl => match us, hl with | [_, _, _], _ => rfl
  have b19 : Binds K fd19 ["columns", "name"] [] := D19.bindsN fun _ _ _ _ _ _ us hl => match us, hl with | [_, _], _ => rfl
  have b20 : Binds K fd20 ["columns", "names"] [] := D20.bindsN fun _ _ _ _ _ _ us hl => match us, hl with | [_, _], _ => rfl
  have b21 : Binds K fd21 ["columns"] [] := D21.bindsN fun _ _ _ _ _ _ us hl => match us, hl with | [_], _ => rfl
  have b22 : Binds K fd22 ["columns", "thing"] [] := D22.bindsN fun _ _ _ _ _ _ us hl => match us, hl with | [_, _], _ => rfl
  have b23 : Binds K fd23 ["tables", "columns", "step"] [] := D23.bindsN fun _ _ _ _ _ _ us hl => match us, hl with | [_, _, _], _ => rfl
  have b24 : Binds K fd24 ["step"] [] := D24.bindsN fun _ _ _ _ _ _ us hl => match us, hl with | [_], _ => rfl
  have b25 : Binds K fd25 ["tables", "columns", "step"] [] := D25.bindsN fun _ _ _ _ _ _ us hl => match us, hl with | [_, _, _], _ => rfl
  have b26 : Binds K fd26 ["pipeline", "setting"] [] := D26.bindsN fun _ _ _ _ _ _ us hl => match us, hl with | [_, _], _ => rfl
  have b27 : Binds K fd27 ["columns", "names"] [] := D27.bindsN fun _ _ _ _ _ _ us hl => match us, hl with | [_, _], _ => rfl
  have b28 : Binds K fd28 ["values", "places"] [] := D28.bindsN fun _ _ _ _ _ _ us hl => match us, hl with | [_, _], _ => rfl
  have b29 : Binds K fd29 ["rows", "places"] [] := D29.bindsN fun _ _ _ _ _ _ us hl => match us, hl with | [_, _], _ => rfl
  have b30 : Binds K fd30 ["lineages"] [] := D30.bindsN fun _ _ _ _ _ _ us hl => match us, hl with | [_], _ => rfl
  have b31 : Binds K fd31 ["function", "values"] [] := D31.bindsN fun _ _ _ _ _ _ us hl => match us, hl with | [_, _], _ => rfl
  have b32 : Binds K fd32 ["tables", "table", "step"] [] := D32.bindsN fun _ _ _ _ _ _ us hl => match us, hl with | [_, _, _], _ => rfl
  obtain ⟨ds33, v33, b33⟩ := FunD.binds0 (ps := ["tables", "pipeline", "setting"]) D33 2 (List.cons_ne_nil _ _) rfl (fun D doc pm an cdv ct us ks hl hk => match us, ks, hl, hk with | [_, _], [_], _, _ => ⟨_, _, _, _, _, _, rfl, rfl, rfl⟩)
  have b34 : Binds K fd34 ["_law_script"] [] := D34.bindsN fun _ _ _ _ _ _ us hl => match us, hl with | [_], _ => rfl
  have b35 : Binds K fd35 ["_law_tape_here", "_law_many"] [] := D35.bindsN fun _ _ _ _ _ _ us hl => match us, hl with | [_, _], _ => rfl
  have b36 : Binds K fd36 ["_law_n", "_law_d"] [] := D36.bindsN fun _ _ _ _ _ _ us hl => match us, hl with | [_, _], _ => rfl
  have b37 : Binds K fd37 ["_law_tape_here", "_law_wide"] [] := D37.bindsN fun _ _ _ _ _ _ us hl => match us, hl with | [_, _], _ => rfl
  have b38 : Binds K fd38 ["_law_tape_here"] [] := D38.bindsN fun _ _ _ _ _ _ us hl => match us, hl with | [_], _ => rfl
  have b39 : Binds K fd39 ["_law_tape_here", "_law_taken"] [] := D39.bindsN fun _ _ _ _ _ _ us hl => match us, hl with | [_, _], _ => rfl
  have b40 : Binds K fd40 ["_law_tape_here", "_law_lead", "_law_many", "_law_taken"] [] := D40.bindsN fun _ _ _ _ _ _ us hl => match us, hl with | [_, _, _, _], _ => rfl
  have b41 : Binds K fd41 ["_law_tape_here", "_law_kind", "_law_wide"] [] := D41.bindsN fun _ _ _ _ _ _ us hl => match us, hl with | [_, _, _], _ => rfl
  have b42 : Binds K fd42 ["_law_tape_here", "_law_columns_here", "_law_wide"] [] := D42.bindsN fun _ _ _ _ _ _ us hl => match us, hl with | [_, _, _], _ => rfl
  have b43 : Binds K fd43 ["_law_tape_here", "_law_items", "_law_many"] [] := D43.bindsN fun _ _ _ _ _ _ us hl => match us, hl with | [_, _, _], _ => rfl
  have b44 : Binds K fd44 ["_law_tape_here", "_law_columns_here"] [] := D44.bindsN fun _ _ _ _ _ _ us hl => match us, hl with | [_, _], _ => rfl
  have b45 : Binds K fd45 ["_law_tape_here"] [] := D45.bindsN fun _ _ _ _ _ _ us hl => match us, hl with | [_], _ => rfl
  have b46 : Binds K fd46 ["_law_lineages"] [] := D46.bindsN fun _ _ _ _ _ _ us hl => match us, hl with | [_], _ => rfl
  have b47 : Binds K fd47 ["_law_number"] [] := D47.bindsN fun _ _ _ _ _ _ us hl => match us, hl with | [_], _ => rfl
  have b48 : Binds K fd48 ["_law_tape_here", "_law_columns_here", "_law_many", "_law_wide"] [] := D48.bindsN fun _ _ _ _ _ _ us hl => match us, hl with | [_, _, _, _], _ => rfl
  have b49 : Binds K fd49 ["_law_numbers"] [] := D49.bindsN fun _ _ _ _ _ _ us hl => match us, hl with | [_], _ => rfl
  have b50 : Binds K fd50 ["_law_numbers"] [] := D50.bindsN fun _ _ _ _ _ _ us hl => match us, hl with | [_], _ => rfl
  have b51 : Binds K fd51 ["_law_function", "_law_values_here"] [] := D51.bindsN fun _ _ _ _ _ _ us hl => match us, hl with | [_, _], _ => rfl
  have b52 : Binds K fd52 ["_law_rows_here", "_law_places"] [] := D52.bindsN fun _ _ _ _ _ _ us hl => match us, hl with | [_, _], _ => rfl
  have b53 : Binds K fd53 ["_law_columns_here", "_law_rows_here", "_law_step"] [] := D53.bindsN fun _ _ _ _ _ _ us hl => match us, hl with | [_, _, _], _ => rfl
  have b54 : Binds K fd54 ["_law_tape_here", "_law_rows_here"] [] := D54.bindsN fun _ _ _ _ _ _ us hl => match us, hl with | [_, _], _ => rfl
  have bl := FunD.bindsA (ps := ["_law_script"]) D55 fun _ _ _ _ _ _ us hl => match us, hl with | [_], _ => rfl
  refine ⟨fd55, fun s v => bl s [v] rfl, fun base _ _ => ?_⟩
  have m_Table : mg "Table" = some (.ref (ga K "Table")) := g 1 _ rfl
  have m_LENGTHS : mg "LENGTHS" = some (.ref (ga K "LENGTHS")) := g 2 _ rfl
  have m_BEHIND : mg "BEHIND" = some (.ref (ga K "BEHIND")) := g 3 _ rfl
  have m_ROWS_BEHIND : mg "ROWS_BEHIND" = some (.ref (ga K "ROWS_BEHIND")) := g 4 _ rfl
  have m_OF_SOME : mg "OF_SOME" = some (.ref (ga K "OF_SOME")) := g 5 _ rfl
  have m_FUNCTIONS : mg "FUNCTIONS" = some (.ref (ga K "FUNCTIONS")) := g 6 _ rfl
  have m_common_divisor : mg "common_divisor" = some (.ref (ga K "common_divisor")) := g 7 _ rfl
  have m_lowest_terms : mg "lowest_terms" = some (.ref (ga K "lowest_terms")) := g 8 _ rfl
  have m_is_name : mg "is_name" = some (.ref (ga K "is_name")) := g 9 _ rfl
  have m_within_limit : mg "within_limit" = some (.ref (ga K "within_limit")) := g 10 _ rfl
  have m_limited : mg "limited" = some (.ref (ga K "limited")) := g 11 _ rfl
  have m_total : mg "total" = some (.ref (ga K "total")) := g 12 _ rfl
  have m_by_size : mg "by_size" = some (.ref (ga K "by_size")) := g 13 _ rfl
  have m_common_scale : mg "common_scale" = some (.ref (ga K "common_scale")) := g 14 _ rfl
  have m_scaled : mg "scaled" = some (.ref (ga K "scaled")) := g 15 _ rfl
  have m_sum_of : mg "sum_of" = some (.ref (ga K "sum_of")) := g 16 _ rfl
  have m_mean_of : mg "mean_of" = some (.ref (ga K "mean_of")) := g 17 _ rfl
  have m_median_of : mg "median_of" = some (.ref (ga K "median_of")) := g 18 _ rfl
  have m_least_of : mg "least_of" = some (.ref (ga K "least_of")) := g 19 _ rfl
  have m_greatest_of : mg "greatest_of" = some (.ref (ga K "greatest_of")) := g 20 _ rfl
  have m_names_of : mg "names_of" = some (.ref (ga K "names_of")) := g 21 _ rfl
  have m_is_tuple_of : mg "is_tuple_of" = some (.ref (ga K "is_tuple_of")) := g 22 _ rfl
  have m_kind_in : mg "kind_in" = some (.ref (ga K "kind_in")) := g 23 _ rfl
  have m_are_columns : mg "are_columns" = some (.ref (ga K "are_columns")) := g 24 _ rfl
  have m_bounded : mg "bounded" = some (.ref (ga K "bounded")) := g 25 _ rfl
  have m_is_total : mg "is_total" = some (.ref (ga K "is_total")) := g 26 _ rfl
  have m_behind_group : mg "behind_group" = some (.ref (ga K "behind_group")) := g 27 _ rfl
  have m_word_of : mg "word_of" = some (.ref (ga K "word_of")) := g 28 _ rfl
  have m_columns_behind : mg "columns_behind" = some (.ref (ga K "columns_behind")) := g 29 _ rfl
  have m_resolved : mg "resolved" = some (.ref (ga K "resolved")) := g 30 _ rfl
  have m_places_of : mg "places_of" = some (.ref (ga K "places_of")) := g 31 _ rfl
  have m_picked : mg "picked" = some (.ref (ga K "picked")) := g 32 _ rfl
  have m_grouped : mg "grouped" = some (.ref (ga K "grouped")) := g 33 _ rfl
  have m_union_of : mg "union_of" = some (.ref (ga K "union_of")) := g 34 _ rfl
  have m_limited_total : mg "limited_total" = some (.ref (ga K "limited_total")) := g 35 _ rfl
  have m_group_rows : mg "group_rows" = some (.ref (ga K "group_rows")) := g 36 _ rfl
  have m_run : mg "run" = some (.ref (ga K "run")) := g 37 _ rfl
  have m__law_tape : mg "_law_tape" = some (.ref (ga K "_law_tape")) := g 38 _ rfl
  have m__law_draw : mg "_law_draw" = some (.ref (ga K "_law_draw")) := g 39 _ rfl
  have m__law_lowest : mg "_law_lowest" = some (.ref (ga K "_law_lowest")) := g 40 _ rfl
  have m__law_rational : mg "_law_rational" = some (.ref (ga K "_law_rational")) := g 41 _ rfl
  have m__law_name : mg "_law_name" = some (.ref (ga K "_law_name")) := g 42 _ rfl
  have m__law_fresh : mg "_law_fresh" = some (.ref (ga K "_law_fresh")) := g 43 _ rfl
  have m__law_columns : mg "_law_columns" = some (.ref (ga K "_law_columns")) := g 44 _ rfl
  have m__law_value : mg "_law_value" = some (.ref (ga K "_law_value")) := g 45 _ rfl
  have m__law_values : mg "_law_values" = some (.ref (ga K "_law_values")) := g 46 _ rfl
  have m__law_pick : mg "_law_pick" = some (.ref (ga K "_law_pick")) := g 47 _ rfl
  have m__law_group_step : mg "_law_group_step" = some (.ref (ga K "_law_group_step")) := g 48 _ rfl
  have m__law_lineage : mg "_law_lineage" = some (.ref (ga K "_law_lineage")) := g 49 _ rfl
  have m__law_union : mg "_law_union" = some (.ref (ga K "_law_union")) := g 50 _ rfl
  have m__law_limited : mg "_law_limited" = some (.ref (ga K "_law_limited")) := g 51 _ rfl
  have m__law_rows : mg "_law_rows" = some (.ref (ga K "_law_rows")) := g 52 _ rfl
  have m__law_ordered : mg "_law_ordered" = some (.ref (ga K "_law_ordered")) := g 53 _ rfl
  have m__law_sum : mg "_law_sum" = some (.ref (ga K "_law_sum")) := g 54 _ rfl
  have m__law_measure : mg "_law_measure" = some (.ref (ga K "_law_measure")) := g 55 _ rfl
  have m__law_grouped : mg "_law_grouped" = some (.ref (ga K "_law_grouped")) := g 56 _ rfl
  have m__law_group_due : mg "_law_group_due" = some (.ref (ga K "_law_group_due")) := g 57 _ rfl
  have m__law_alike : mg "_law_alike" = some (.ref (ga K "_law_alike")) := g 58 _ rfl
  have mf_sorted : mg "sorted" = none := z 77 _ rfl
  have mf_set : mg "set" = none := z 78 _ rfl
  have mf_zip : mg "zip" = none := z 79 _ rfl
  have mf_sum : mg "sum" = none := z 80 _ rfl
  have mf_max : mg "max" = none := z 81 _ rfl
  have Tb : TbF K mg (ga K "Table") _ := ⟨mkr_ok (a 0 rfl), cls_ok (a 1 rfl), noat_ok (a 2 rfl), noat_ok (a 3 rfl), m_Table⟩
  have G0 : FnOk P w K mg base CX0 (1) _ fd0 ["self", "columns", "rows"] (spTI (ga K "Table")) := ok_ti (fun_of D0) T Tb
  have G1 : FnOk P w K mg base CX0 (1) _ fd1 ["self"] (spTC (ga K "Table")) := ok_tc (fun_of D1) Tb
  have G2 : FnOk P w K mg base CX0 (1) _ fd2 ["self"] (spTR (ga K "Table")) := ok_tr (fun_of D2) T Tb
  have M : TbM P w K mg base (ga K "Table") := ⟨⟨_, _, Tb, G0, b0⟩, ⟨_, _, meth_ok (a 4 rfl), G1, b1⟩, ⟨_, _, meth_ok (a 5 rfl), G2, b2⟩⟩
  have t0 : ∃ es n, KDict K w (ga K "LENGTHS") es n := tb 0 _ rfl
  have t1 : ∃ es n, KDict K w (ga K "BEHIND") es n := tb 1 _ rfl
  have t2 : ∃ es n, KDict K w (ga K "ROWS_BEHIND") es n := tb 2 _ rfl
  have t3 : ∃ es n, KDict K w (ga K "OF_SOME") es n := tb 3 _ rfl
  have G3 : FnOk P w K mg base CX0 (1) _ fd3 ["a", "b"] (spCd) := ok_cd (fun_of D3)
  have G4 : FnOk P w K mg base CX0 (2) _ fd4 ["n", "d"] (spLow) := ok_low (fun_of D4) T G3 m_common_divisor D3.kp b3
  have G5 : FnOk P w K mg base CX0 (1) _ fd5 ["value"] (spName) := ok_name (fun_of D5) T mc0 mc1 mc2
  have G6 : FnOk P w K mg base CX0 (1) _ fd6 ["number"] (spWithin) := ok_within (fun_of D6) T mc3
  have G7 : FnOk P w K mg base CX0 (2) _ fd7 ["number"] (spLim) := ok_lim (fun_of D7) G6 m_within_limit D6.kp b6
  have G9 : FnOk P w K mg base CX0 (1) _ fd9 ["value"] (spBz) := ok_Bz (fun_of D9) T mc3
  have G10 : FnOk P w K mg base CX0 (2) _ fd10 ["values"] (spCsc) := ok_Cs (fun_of D10) T G3 m_common_divisor D3.kp b3
  have G11 : FnOk P w K mg base CX0 (1) _ fd11 ["value", "scale"] (spScd) := ok_Sd (fun_of D11) T
  have G12 : FnOk P w K mg base CX0 (3) _ fd12 ["values"] (spSmo) := ok_So (fun_of D12) T mf_sum G10 m_common_scale D10.kp b10 G11 m_scaled D11.kp b11 G4 m_lowest_terms D4.kp b4
  have G13 : FnOk P w K mg base CX0 (4) _ fd13 ["values"] (spWk "mean") := ok_Me (fun_of D13) T G12 m_sum_of D12.kp b12 G4 m_lowest_terms D4.kp b4
  have G14 : FnOk P w K mg base CX0 (6) _ fd14 ["values"] (spWk "median") := ok_Md (fun_of D14) T mf_sorted G9 m_by_size D9.kp b9 G13 m_mean_of D13.kp b13
  have G15 : FnOk P w K mg base CX0 (4) _ fd15 ["values"] (spWk "least") := ok_Le (fun_of D15) T G9 m_by_size D9.kp b9
  have G16 : FnOk P w K mg base CX0 (4) _ fd16 ["values"] (spWk "greatest") := ok_Ge (fun_of D16) T mf_max G9 m_by_size D9.kp b9
  have OA : OfA P w K mg base (ga K "OF_SOME") := by
    refine ⟨m_OF_SOME, fun x hx => ?_⟩
    simp only [ofW, List.mem_cons, List.not_mem_nil, or_false] at hx
    rcases hx with rfl | rfl | rfl | rfl
    · exact ⟨_, kdct_of t3 (eqO_ok (a 7 rfl)), ⟨⟨_, _, G13.mono (by decide), D13.kp, b13⟩⟩⟩
    · exact ⟨_, kdct_of t3 (eqO_ok (a 8 rfl)), ⟨⟨_, _, G14.mono (by decide), D14.kp, b14⟩⟩⟩
    · exact ⟨_, kdct_of t3 (eqO_ok (a 9 rfl)), ⟨⟨_, _, G15.mono (by decide), D15.kp, b15⟩⟩⟩
    · exact ⟨_, kdct_of t3 (eqO_ok (a 10 rfl)), ⟨⟨_, _, G16.mono (by decide), D16.kp, b16⟩⟩⟩
  have G8 : FnOk P w K mg base CX0 (7) _ fd8 ["function", "values"] (spTot) := ok_Tl (fun_of D8) T OA G12 m_sum_of D12.kp b12
  have G31 : FnOk P w K mg base CX0 (8) _ fd31 ["function", "values"] (spLt) := ok_Lt (fun_of D31) T G8 m_total D8.kp b8 G7 m_limited D7.kp b7
  have G17 : FnOk P w K mg base CX0 (1) _ fd17 ["columns"] (spNo) := ok_No (fun_of D17) T
  have G18 : FnOk P w K mg base CX0 (1) _ fd18 ["value", "low", "high"] (spTo) := ok_To (fun_of D18) T
  have G19 : FnOk P w K mg base CX0 (1) _ fd19 ["columns", "name"] (spKi) := ok_Ki (fun_of D19) T
  have G20 : FnOk P w K mg base CX0 (2) _ fd20 ["columns", "names"] (spAc) := ok_Ac (fun_of D20) T G19 m_kind_in D19.kp b19
  have G21 : FnOk P w K mg base CX0 (1) _ fd21 ["columns"] (spBd) := ok_Bd (fun_of D21) T mc4
  have G22 : FnOk P w K mg base CX0 (2) _ fd22 ["columns", "thing"] (spTt) := ok_Tt (fun_of D22) T m_FUNCTIONS (fun H => tupB_ok (a 6 rfl) H) G18 m_is_tuple_of D18.kp b18 G5 m_is_name D5.kp b5 G19 m_kind_in D19.kp b19
  have G23 : FnOk P w K mg base CX0 (3) _ fd23 ["tables", "columns", "step"] (spBeh "group") := ok_Go (fun_of D23) T mf_set mc5 mc6 G18 m_is_tuple_of D18.kp b18 G20 m_are_columns D20.kp b20 G22 m_is_total D22.kp b22 G19 m_kind_in D19.kp b19 G17 m_names_of D17.kp b17 G21 m_bounded D21.kp b21
  have G24 : FnOk P w K mg base CX0 (1) _ fd24 ["step"] (spWd) := ok_Wd (fun_of D24) T
  have A2 : CbA P w K mg base (ga K "LENGTHS") (ga K "BEHIND") := by
    refine ⟨m_LENGTHS, m_BEHIND, t0, fun st => ?_, fun st => ?_⟩
    · cases st with
      | group ks ts => exact di_ok t0 (a 11 rfl)
    · cases st with
      | group ks ts => exact ⟨_, kdct_of t1 (eqO_ok (a 12 rfl)), ⟨⟨_, _, G23.mono (by decide), D23.kp, b23⟩⟩⟩
  have G25 : FnOk P w K mg base CX0 (17) _ fd25 ["tables", "columns", "step"] (spCb) := ok_Cb (fun_of D25) T A2 G24 m_word_of D24.kp b24
  have G26 : FnOk P w K mg base CX0 (1) _ fd26 ["pipeline", "setting"] (spRes) := ok_Res (fun_of D26) T
  have G27 : FnOk P w K mg base CX0 (2) _ fd27 ["columns", "names"] (spPo) := ok_Po (fun_of D27) T G17 m_names_of D17.kp b17
  have G27L : FnOk P w K mg base CX0 (2) _ fd27 ["columns", "names"] (spPoL) := ok_Pl (fun_of D27) T G17 m_names_of D17.kp b17
  have G28 : FnOk P w K mg base CX0 (1) _ fd28 ["values", "places"] (spPc) := ok_Pc (fun_of D28) T
  have G29 : FnOk P w K mg base CX0 (2) _ fd29 ["rows", "places"] (spGr P w) := ok_Gr (fun_of D29) T G28 m_picked D28.kp b28
  have G30 : FnOk P w K mg base CX0 (1) _ fd30 ["lineages"] (spUn) := ok_Un (fun_of D30) T mf_sorted
  have G32 : FnOk P w K mg base CX0 (9) _ fd32 ["tables", "table", "step"] (spRb (ga K "Table") "group") := ok_Gw (fun_of D32) T M mf_zip G27L G31 m_limited_total D31.kp b31 G27 m_places_of D27.kp b27 G29 m_grouped D29.kp b29 G30 m_union_of D30.kp b30
  have A3 : RbA P w K mg base (ga K "Table") (ga K "ROWS_BEHIND") (fun _ => ga K "group_rows") := by
    refine ⟨m_ROWS_BEHIND, fun x hx => ?_, fun x hx => ?_, fun a ha b hb _ => ?_⟩
    · obtain rfl := List.mem_singleton.mp hx
      exact kdct_of t2 (eqO_ok (a 13 rfl))
    · obtain rfl := List.mem_singleton.mp hx
      exact ⟨⟨_, _, G32.mono (by decide), D32.kp, b32⟩⟩
    · rw [List.mem_singleton.mp ha, List.mem_singleton.mp hb]
  have G33 : FnOk P w K mg base CX0 (18) _ fd33 ["tables", "pipeline", "setting"] (spRun (ga K "Table")) := ok_Run (He5.fun_of D33) T M A3 G26 m_resolved D26.kp b26 G25 m_columns_behind D25.kp b25
  have G34 : FnOk P w K mg base CX0 (1) _ fd34 ["_law_script"] (spTape K) := ok_tape (fun_of D34) T
  have G35 : FnOk P w K mg base CX0 (1) _ fd35 ["_law_tape_here", "_law_many"] (spDrawL) := ok_draw (fun_of D35) T
  have G36 : FnOk P w K mg base CX0 (1) _ fd36 ["_law_n", "_law_d"] (spLowest) := ok_lst (fun_of D36) T
  have G37 : FnOk P w K mg base CX0 (2) _ fd37 ["_law_tape_here", "_law_wide"] (spRatL) := ok_rat (fun_of D37) T G35 m__law_draw D35.kp b35 G36 m__law_lowest D36.kp b36
  have G38 : FnOk P w K mg base CX0 (2) _ fd38 ["_law_tape_here"] (spLNm) := ok_lnm (fun_of D38) T G35 m__law_draw D35.kp b35
  have G39 : FnOk P w K mg base CX0 (3) _ fd39 ["_law_tape_here", "_law_taken"] (spFr) := ok_fr (fun_of D39) G38 m__law_name D38.kp b38
  have G40 : FnOk P w K mg base CX0 (4) _ fd40 ["_law_tape_here", "_law_lead", "_law_many", "_law_taken"] (spCls) := ok_cls (fun_of D40) T G35 m__law_draw D35.kp b35 G39 m__law_fresh D39.kp b39
  have G41 : FnOk P w K mg base CX0 (3) _ fd41 ["_law_tape_here", "_law_kind", "_law_wide"] (spVal) := ok_lv (fun_of D41) G35 m__law_draw D35.kp b35 G37 m__law_rational D37.kp b37 G38 m__law_name D38.kp b38
  have G42 : FnOk P w K mg base CX0 (4) _ fd42 ["_law_tape_here", "_law_columns_here", "_law_wide"] (spVals) := ok_lvs (fun_of D42) T G41 m__law_value D41.kp b41
  have G43 : FnOk P w K mg base CX0 (2) _ fd43 ["_law_tape_here", "_law_items", "_law_many"] (spPk) := ok_Pk (fun_of D43) T G35 m__law_draw D35.kp b35
  have G44 : FnOk P w K mg base CX0 (8) _ fd44 ["_law_tape_here", "_law_columns_here"] (spKs) := ok_Grs (fun_of D44) T G35 m__law_draw D35.kp b35 G43 m__law_pick D43.kp b43 G39 m__law_fresh D39.kp b39
  have G45 : FnOk P w K mg base CX0 (2) _ fd45 ["_law_tape_here"] (spFar) := ok_Far (fun_of D45) T mf_sorted G35 m__law_draw D35.kp b35
  have G46 : FnOk P w K mg base CX0 (1) _ fd46 ["_law_lineages"] (spUn) := ok_Lu (fun_of D46) T mf_sorted
  have G47 : FnOk P w K mg base CX0 (1) _ fd47 ["_law_number"] (spLlm) := ok_Lli (fun_of D47) T
  have G48 : FnOk P w K mg base CX0 (5) _ fd48 ["_law_tape_here", "_law_columns_here", "_law_many", "_law_wide"] (spRws) := ok_Rws (fun_of D48) T G42 m__law_values D42.kp b42 G45 m__law_lineage D45.kp b45 G35 m__law_draw D35.kp b35
  have G49 : FnOk P w K mg base CX0 (1) _ fd49 ["_law_numbers"] (spLor) := ok_Lo (fun_of D49) T
  have G50 : FnOk P w K mg base CX0 (2) _ fd50 ["_law_numbers"] (spLsm) := ok_Ls (fun_of D50) T G36 m__law_lowest D36.kp b36
  have G51 : FnOk P w K mg base CX0 (3) _ fd51 ["_law_function", "_law_values_here"] (spMea) := ok_Ms (fun_of D51) T G50 m__law_sum D50.kp b50 G49 m__law_ordered D49.kp b49 G36 m__law_lowest D36.kp b36
  have G52 : FnOk P w K mg base CX0 (1) _ fd52 ["_law_rows_here", "_law_places"] (spLg) := ok_Lg (fun_of D52) T
  have G53 : FnOk P w K mg base CX0 (4) _ fd53 ["_law_columns_here", "_law_rows_here", "_law_step"] (spGd) := ok_Gd (fun_of D53) T G52 m__law_grouped D52.kp b52 G51 m__law_measure D51.kp b51 G47 m__law_limited D47.kp b47 G46 m__law_union D46.kp b46
  have G54 : FnOk P w K mg base CX0 (2) _ fd54 ["_law_tape_here", "_law_rows_here"] (spAlk) := ok_Alk (fun_of D54) T G35 m__law_draw D35.kp b35
  exact ok_Law (fun_of D55) T M G33 m_run D33.kp b33 v33 G34 m__law_tape D34.kp b34 G35 m__law_draw D35.kp b35 G40 m__law_columns D40.kp b40 G48 m__law_rows D48.kp b48 G54 m__law_alike D54.kp b54 G44 m__law_group_step D44.kp b44 G39 m__law_fresh D39.kp b39 G53 m__law_group_due D53.kp b53
end K20
open PySem PySem.W PySem.Calls PyProof.Rows
theorem PySem.Challenge.cw_liveclaims_k20_group_totals_holds : PySem.Challenge.rw_liveclaims_k20_group_totals.Holds := by
  w_on; o_law
  refine HandSHeadRun.head_any (r := OpenLaw.row PySem.Challenge.rw_liveclaims_k20_group_totals) (q := view (OpenLaw.row PySem.Challenge.rw_liveclaims_k20_group_totals).prog [145]) (H := K20.hk) (ob := K20.ob) (M := 20000) (loose := K20.loose) (d := HandSHeadRun.topDef (OpenLaw.row PySem.Challenge.rw_liveclaims_k20_group_totals).prog 145) (kwd := []) K20.ob_eq
    (by kernel_rfl) (fun s => by kernel_rfl) K20.run (by kernel_rfl) (by kernel_rfl) (by kernel_rfl) (by rfl) (by first | assumption | decide +kernel) (by decide +kernel) ⟨rfl, rfl, rfl, rfl, rfl, by decide +kernel⟩ ?hw ?hc
  case hw => w_witness2
  case hc =>
    refine Lc.walk_GE (l := PySem.Challenge.rw_liveclaims_k20_group_totals) (n := 63) (k := 19) (x := "_law_script") rfl (by decide) (by kernel_rfl) ⟨rfl, by decide, by decide⟩ ?F
    intro w mg fa h Y G hmg0
    obtain ⟨K, KX, c, e, tb⟩ := Y
    have hmg : mg ("law" : PySem.Str) = some (.ref fa) := by
      have e : (HandSHeadRun.topDef (OpenLaw.row PySem.Challenge.rw_liveclaims_k20_group_totals).prog 145).name = ("law" : PySem.Str) := by kernel_rfl
      rw [← e]
      exact hmg0
    obtain ⟨fd, hb, hF⟩ := K20.facts (P := (PySem.Challenge.rw_liveclaims_k20_group_totals).prog) (w := w) KX G hmg c e tb
    exact ⟨K, fd, K20.spLaw K, KX, hb, fun H a ns hl hS => ⟨a, ns, rfl, hS, fun _ => rfl⟩, hF⟩
