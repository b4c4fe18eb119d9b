import PyProof.Rows.All
import Wide.All
import OpenK.AllK
import Wide.FinOn
import HandS.ForMost
import HandS.ForExc
import HandS.Wide
import HandS.Flow
import HandS.IsInst
import HandS.ExcInit
import HandS.ExcField
import HandS.ExcIs
import HandS.TryMany
import HandS.CallLocal
import HandS.RaiseMore
import HandS.CallSlots
import KE.KExcIs
import PyProof.ReprRoads
import PyProof.ReprText
import HandS.Evl
import HandS.Walk
import HandS.Style
import PyProof.StrBlock2
import PyProof.StrLawsRepr
import PyProof.ReprLen
import KE.GoesEnum
import HandS.Iter
import HandS.TupMul
import HandS.ListItems
import HandS.OwnIter
import HandS.More
import PyProof.InstSpecial
import HandS.Defaults
import HandS.DictComp
import HandS.Zip
import KE.KIntText
import PyProof.StrLawsTight
import PyProof.StrLawsChain
import HandS.StrMore
import HandS.Replace
import HandS.Head0
import HandS.Head1
import HandS.Head2
import HandS.HeadHook1
import HandS.HeadHook2
import KE.KStateDown
import HandS.HeadHook3
import HandS.Lambda
import HandS.HeadNt
import HandS.MakeKwOnly
import HandS.Dict
import KE.KDictPairs
import HandS.Sort
import KE.SortCalls
import KE.SortKeyed
import PyProof.Rows.RowHeap
import HandS.Deep
import OpenK.KMore
import HandS.ExcOwn
import HandS.Nested
import HandS.SortKw
import KE.SortKeyHeap
import HandS.Steps
import KE.DataCmp
import HandS.TupAny
import PySem.Challenge.RW_liveclaims_k17_sorted_rows
set_option Elab.async false
set_option linter.all false
set_option maxRecDepth 100000
set_option maxHeartbeats 4000000
namespace Lc
open PySem PySem.Spec PyProof.Rows L2
/-! ## A try with clauses of both forms, «except X:» and «except X as n:» -/
structure Cl where
  c : Value
  slot : Option Nat
  ts : Addr → Value → Option Addr → TS
def putS : Option Nat → Option V → L2.St → L2.St
  | none, _, σ => σ
  | some i, v, σ => σ.set i v
def endS (q : Option Nat) (D : Ends) : Ends := ⟨fun σ H => D.nx (putS q none σ) H, D.rt, fun σ H => D.bk (putS q none σ) H, fun σ H => D.ct (putS q none σ) H⟩
def wCl (K : PySem.W.Frag) (Wout : WX) (D : Ends) : List Cl → WX
  | [] => Wout
  | q :: r => fun cls d σ H => ∃ b, PySem.W.exmOne K cls q.c = some b ∧ (b = true → ∀ a, H a = none → q.ts a cls d (endS q.slot D) (putS q.slot (some (.ref a)) σ) H) ∧
      (b = false → wCl K Wout D r cls d σ H)
abbrev SuiteOk (X : Cx) (st : List Stmt) (ts : Addr → Value → Option Addr → TS) : Prop :=
  ∀ (a : Addr) (ob : Obj) (cls : Value) (d : Option Addr) (pn : List (Addr × Obj)), Zc cls d ob → (∃ vs, ob.data = .fields vs) → PSs (X.suite a ((a, ob) :: pn)) st (ts a cls d)
inductive ClsOk (X : Cx) : List ExceptHandler → List Cl → Prop
  | nil : ClsOk X [] []
  | bare {x : Str} {q : Cl} {st : Stmt} {sts : List Stmt} {p1 p2 : Pos} {hds : List ExceptHandler} {l : List Cl} (hc : Names X x q.c) (hq : q.slot = none) (su : SuiteOk X (st :: sts) q.ts) (r : ClsOk X hds l) :
      ClsOk X (.ExceptHandler (some (.Name x p1)) none (st :: sts) p2 :: hds) (q :: l)
  | named {x n : Str} {q : Cl} {i : Nat} {st : Stmt} {sts : List Stmt} {p1 p2 : Pos} {hds : List ExceptHandler} {l : List Cl} (hc : Names X x q.c) (hq : q.slot = some i) (hN : X.N.Nodup) (hi : X.N[i]? = some n) (hn : X.env.kindOf n = some .local)
      (su : SuiteOk X (st :: sts) q.ts) (r : ClsOk X hds l) : ClsOk X (.ExceptHandler (some (.Name x p1)) (some n) (st :: sts) p2 :: hds) (q :: l)
section
variable {X : Cx}
theorem clauses_go {Wout : WX} {D : Ends} {pins : List (Addr × Obj)} {σ : L2.St} {H : Hp} {cls : Value} {d : Option Addr} {a : Addr} {B : Heap} {sI s' : Shared} {h3 : Heap}
    (hs : X.stack = X.env :: X.outer) (hf : X.env.frame = some X.env.locals) (tk : Takes X Wout) (J : Inv X pins σ H sI)
    (nb : ∀ b o, sI.heap.get? b = some o → b ∉ frs X.stack → B.get? b = some o) (na : H a = none) (os : s'.os = sI.os) (ag : AllBare s'.gens)
    (up : sI.heap.UpToSlots h3) (fl : HandSPX.FlyingZ B (X.env :: X.outer) a (Zc cls d) h3) :
    ∀ {hds : List ExceptHandler} {l : List Cl}, ClsOk X hds l → wCl X.K Wout D l cls d σ H → wpAny (model X.prog X.w) X.A (handleBy (.ref a) X.env hds) (SP X pins D) X.xe { s' with heap := h3 } := by
  have ok := J.ok
  have land : ∀ {h4 : Heap}, HandSPX.FlyingZ B (X.env :: X.outer) a (Zc cls d) h4 → sI.heap.UpToSlots h4 → Inv X pins σ H { s' with heap := h4 } ∧ ∃ ob vs, Zc cls d ob ∧ ob.data = .fields vs ∧ h4.get? a = some ob ∧
      Inv (X.suite a ((a, ob) :: (X.pn ++ pins))) [] σ H { s' with heap := h4 } := by
    intro h4 f4 u4
    have J4 : Inv X pins σ H { s' with heap := h4 } := J.landed nb f4.1 u4 os ag
    obtain ⟨ob, vs, hob, hz, hd⟩ := f4.there
    have nfr : a ∉ frs (X.env :: X.outer) := fun hm => by
      obtain ⟨_, ox, ex, nf⟩ := f4.2.2.1.mem hm
      rw [hob] at ex
      cases ex
      exact nf _ hd
    have nL : a ≠ X.env.locals := fun z => nfr (List.mem_filterMap.mpr ⟨X.env, List.mem_cons_self, by rw [hf, z]⟩)
    have nF : a ∉ X.fs := fun hm => by
      obtain ⟨en, hen, qq⟩ := List.mem_filterMap.mp hm
      exact nfr (List.mem_filterMap.mpr ⟨en, List.mem_cons_of_mem _ hen, qq⟩)
    exact ⟨J4, ob, vs, hz, hd, hob, J4.suite hob hd na nL nF⟩
  obtain ⟨J3, o3, vs3, hz3, hd3, ho3, S3⟩ := land fl up
  have ty : PySem.W.Looks (model X.prog X.w) h3 (typeOf (.ref a)) cls := fun _ _ _ _ kk qq => wpAny_typeOf_ref (kk _ _ ho3) (by rw [hz3.1]; exact qq)
  have tst : ∀ {x : Str} {c : Value} {p1 : Pos} {Q : Value → Shared → Prop} {E : Value → Shared → Prop}, Names X x c → Q c { s' with heap := h3 } →
      wpAny (model X.prog X.w) (X.A.mark (some (.ref a))) (eval (.Name x p1) X.env) Q E { s' with heap := h3 } := by
    intro x c p1 Q E hc hq
    rcases hc with ⟨hg, hdb, hm | ⟨hm, hv, hne⟩⟩
    · exact ld_glob (X := X.suite a ((a, o3) :: (X.pn ++ pins))) S3 hg hm hq hdb
    · exact ld_blt (X := X.suite a ((a, o3) :: (X.pn ++ pins))) S3 hg hm hv hq hne hdb
  intro hds l hk
  induction hk with
  | nil =>
    intro wi
    refine wpAny_handleBy_nil ?_
    obtain ⟨_, _, _, ox, vx, T, _, _, hox, _, hdx, h1, _⟩ := id fl
    have out : wpAny (model X.prog X.w) X.A (setFlight (.ref a) X.env.frame) (fun _ s4 => wpAny (model X.prog X.w) X.A (throw (.ref a) : Sem Flow) (SP X pins D) X.xe s4) X.xe { s' with heap := h3 } := by
      rw [hf]
      exact HandSPX.setFlight_upZ fl fun h4 f4 u4 => wpAny_throw (tk _ _ ⟨a, B, sI, pins, σ, H, cls, d, rfl, J, nb, up.trans u4, .inr (.inr (by rw [hs]; exact f4)), na, os, ag, wi⟩)
    unfold PySem.passOn
    refine wpAny_bind (wpAny_field hox hdx h1 ?_)
    rw [if_neg (by simp : ¬ ((Value.ref T == Value.none) = true))]
    first
      | exact wpAny_bind out
      | exact wpAny_bind (wpAny_pure (wpAny_bind out))
  | @bare x q st sts p1 p2 hds2 l2 hc hq su r ih =>
    intro wi
    obtain ⟨b, hb, yes, no⟩ := wi
    refine wpAny_handleBy_cons (codeAny_handlers_test (tst hc ((PySem.W.exm_one (M := model X.prog X.w) J3.kIn ty hb).here ?_))) (by intro z; cases z)
    cases b with
    | false => exact ih (no rfl)
    | true =>
      refine codeAny_handlers_suite (HandSPX.lands_againZ fl fun h4 f4 u4 => ?_)
      obtain ⟨J4, o4, vs4, hz4, hd4, ho4, S4⟩ := land f4 (up.trans u4)
      have yy := yes rfl a na
      rw [hq] at yy
      refine wpAny_mono ((su a o4 cls d (X.pn ++ pins) hz4 ⟨_, hd4⟩).run [] _ _ H _ S4 yy) (fun f s6 hsp => ?_) (fun _ _ z => z.elim)
      cases f with
      | ret u =>
        obtain ⟨v6, σ6, H6, S6, r6, q6⟩ := hsp
        exact ⟨v6, σ6, H6, S6.unsuite ok, r6, q6⟩
      | next => obtain ⟨σ6, H6, S6, q6⟩ := hsp; exact ⟨σ6, H6, S6.unsuite ok, q6⟩
      | brk => obtain ⟨σ6, H6, S6, q6⟩ := hsp; exact ⟨σ6, H6, S6.unsuite ok, q6⟩
      | cont => obtain ⟨σ6, H6, S6, q6⟩ := hsp; exact ⟨σ6, H6, S6.unsuite ok, q6⟩
  | @named x n q i st sts p1 p2 hds2 l2 hc hq hN hi hn su r ih =>
    intro wi
    obtain ⟨b, hb, yes, no⟩ := wi
    refine wpAny_handleBy_cons (codeAny_handlers_test (tst hc ((PySem.W.exm_one (M := model X.prog X.w) J3.kIn ty hb).here ?_))) (by intro z; cases z)
    cases b with
    | false => exact ih (no rfl)
    | true =>
      refine codeAny_handlers_suite_as (HandSPX.lands_againZ fl fun h4 f4 u4 => ?_)
      obtain ⟨J4, o4, vs4, hz4, hd4, ho4, S4⟩ := land f4 (up.trans u4)
      have yy := yes rfl a na
      rw [hq] at yy
      refine store_ok (X := X.suite a ((a, o4) :: (X.pn ++ pins))) (v := .ref a) S4 hN hi (.inl hn) rfl (fun s5 S5 => ?_) (.inr hn)
      refine wpAny_mono ((su a o4 cls d (X.pn ++ pins) hz4 ⟨_, hd4⟩).run [] s5 _ H _ S5 yy) (fun f s6 hsp => ?_) (fun _ _ z => z.elim)
      have fin : ∀ {σ6 : L2.St} {H6 : Hp} {Q : Shared → Prop}, Inv (X.suite a ((a, o4) :: (X.pn ++ pins))) [] σ6 H6 s6 → (∀ s7, Inv X pins (σ6.set i none) H6 s7 → Q s7) →
          wpAny (model X.prog X.w) X.A (do bindName X.env n .none; unbindBehindTheSuite X.env n p2) (fun _ s7 => Q s7) X.xe s6 := fun S6 k => gone_ok (S6.unsuite ok) hN hi hn k
      cases f with
      | ret u =>
        obtain ⟨v6, σ6, H6, S6, r6, q6⟩ := hsp
        exact fin S6 fun s7 J7 => ⟨_, _, _, J7, r6, q6⟩
      | next => obtain ⟨σ6, H6, S6, q6⟩ := hsp; exact fin S6 fun s7 J7 => ⟨_, _, J7, q6⟩
      | brk => obtain ⟨σ6, H6, S6, q6⟩ := hsp; exact fin S6 fun s7 J7 => ⟨_, _, J7, q6⟩
      | cont => obtain ⟨σ6, H6, S6, q6⟩ := hsp; exact fin S6 fun s7 J7 => ⟨_, _, J7, q6⟩
theorem ps_tryL {body : List Stmt} {h₀ : ExceptHandler} {hds : List ExceptHandler} {l : List Cl} {pos : Pos} {tb : WX → TS} {Wout : WX} (hs : X.stack = X.env :: X.outer) (hf : X.env.frame = some X.env.locals) (tk : Takes X Wout)
    (hb : ∀ (W : WX) (pn : List (Addr × Obj)) (xe : Value → Shared → Prop), Takes (X.tr pn xe) W → PassesOwn (model X.prog X.w) X.A X.env xe → PSs (X.tr pn xe) body (tb W)) (hh : ClsOk X (h₀ :: hds) l) :
    PS X (.Try body (h₀ :: hds) [] [] pos) (fun D σ H => tb (wCl X.K Wout D l) D σ H) := by
  refine ⟨fun pins s σ H D I h => ?_⟩
  have ok := I.ok
  have fr : X.A.frames = some (X.env :: X.outer) := ok.frames.trans (congrArg some hs)
  refine wpAny_Try_except (wpAny_mono ((hb (wCl X.K Wout D l) (X.pn ++ pins) (fun e s₁ => wpAny (model X.prog X.w) X.A (noteFrame e X.env) (fun _ s₂ => wpAny (model X.prog X.w) X.A (setFlight e none)
    (fun _ s₃ => wpAny (model X.prog X.w) X.A (handleBy e X.env (h₀ :: hds)) (SP X pins D) X.xe s₃) X.xe s₂) X.xe s₁) (fun u s' xx => ?_) PassesOwn.looking).run [] s σ H D (I.toTry _) h) (fun f s1 hsp => ?_) (fun _ _ he => he))
  · obtain ⟨a, B, sI, _, σ1, H1, cls, d, rfl, J', nb, up, sky, na, os, ag, wi⟩ := xx
    rw [hs] at sky
    exact Sky.land Zc.steady fr hf sky fun h3 f3 u3 => clauses_go hs hf tk (J'.ofTry ok) nb na os ag (up.trans u3) f3 hh wi
  · cases f with
    | ret u =>
      obtain ⟨v1, σ1, H1, J1, r1, q1⟩ := hsp
      exact ⟨v1, σ1, H1, J1.ofTry ok, r1, q1⟩
    | next => obtain ⟨σ1, H1, J1, q1⟩ := hsp; exact wpAny_execs_nil ⟨σ1, H1, J1.ofTry ok, q1⟩
    | brk => obtain ⟨σ1, H1, J1, q1⟩ := hsp; exact ⟨σ1, H1, J1.ofTry ok, q1⟩
    | cont => obtain ⟨σ1, H1, J1, q1⟩ := hsp; exact ⟨σ1, H1, J1.ofTry ok, q1⟩
end
/-! ## isinstance of the caught error, whether it has a dict or not -/
structure XisC (K : PySem.W.Frag) (C : Addr) : Prop where
  hc : (PySem.W.clsIn K C).isSome = true
  ga : PySem.W.findIn K (.ref C) "__getattribute__" = some (some (.builtin "BaseException.__getattribute__"))
  gt : PySem.W.findIn K (.ref C) "__getattr__" = some none
  sb : PySem.W.subIn K (.ref C) (.type "BaseException") = some true
  cl : PySem.W.findIn K (.ref C) "__class__" = some (some (.builtin "object.__class__"))
  sp : PySem.W.specialIn K (.builtin "object.__class__") "__get__" = some (some (.builtin "getset_descriptor.__get__"))
  tk : PySem.W.takesIn K (.builtin "object.__class__") = some true
  mo : PySem.W.mroIn K C (.type "object") = some true
def rIsX (K : PySem.W.Frag) (cls : Value) (d : Option Addr) (C a : Addr) : List V → Hp → VK → Prop := fun xs H Q => cls = .ref C ∧ ∃ (c : V) (cv : Value) (b : Bool), xs = [.ref a, c] ∧ ClsV c cv ∧ (∀ dd, d = some dd → ∃ fs, H dd = some (.xd fs)) ∧
  PySem.W.kitOne K (.ref C) cv = some b ∧ Q (.bl b) H
section
variable {X : Cx}
theorem call_isX {a C : Addr} {ob : Obj} {cls : Value} {d : Option Addr} {pn : List (Addr × Obj)} (T : XisC X.K C) (hz : Zc cls d ob) (hf : ∃ vs, ob.data = .fields vs) : CallR (X.suite a ((a, ob) :: pn)) (.builtin "isinstance") (rIsX X.K cls d C a) := by
  intro pins s σ H xs us Q I r h
  obtain ⟨ec, c, cv, b, rfl, hcv, hd, e, q⟩ := h
  obtain ⟨u1, u2, rfl, r1, r2⟩ := vals2 r
  have e2 := hcv.eq r2
  subst e2 ec
  obtain rfl : u1 = Value.ref a := r1
  obtain ⟨vs, hv⟩ := hf
  obtain ⟨hget, _⟩ := I.pin (a, ob) (List.mem_append_left _ List.mem_cons_self)
  have nc : PySem.W.notCls ob = true := by unfold PySem.W.notCls; rw [hv]
  have key : ∃ od, PySem.W.InstAt s.heap a ob C od := by
    cases d with
    | none => exact ⟨none, hget, hz.1, nc, by rw [hz.2]; trivial⟩
    | some dd =>
      obtain ⟨fs, hfs⟩ := hd dd rfl
      obtain ⟨mA, ⟨o, _, _, ho, _⟩, _⟩ := (show ObjOk X.prog X.w H s.heap dd (.xd fs) from I.hok dd _ hfs)
      exact ⟨some o, hget, hz.1, nc, by rw [hz.2]; exact ho⟩
  obtain ⟨od, J⟩ := key
  exact PySem.W.kia_one (PySem.W.kitx_exc T.hc T.ga T.gt T.sb T.cl T.sp T.tk T.mo) I.kIn J e (fun z => nomatch z) fun tk => ⟨.bl b, H, I.kept (t' := tk) fun _ _ z => z, rfl, q⟩
/-! ## f(e, ..), f a local name that holds a def which may raise -/
def tCallLS (i : Nat) (f : Addr) (sp : Sp) (E : L2.St → XK) (t : TA) : TE := fun σ H Q => σ[i]? = some (some (.ref f)) ∧ t σ H fun vs H1 => sp vs H1 Q (E σ)
theorem pe_callLS {CX : CXT} {k i : Nat} {f : Addr} {fd : FuncData} {ps : List Str} {sp : Sp} {E : L2.St → XK} {x : Str} {p pos : Pos} {e : Expr} {es : List Expr} {t : TA}
    (F : FnOk X.prog X.w X.K X.mg X.base CX k f fd ps sp) (hr : Room k X.A) (hN : X.N[i]? = some x) (hv : Vis X.env.scope x) (hk : PySem.W.keepIn X.K (.ref f) = true) (hb : Binds X.K fd ps []) (hx : ∀ σ, PassesAt CX X σ (E σ)) (ha : PA X (e :: es) t)
    (hdb : (x == ("__debug__" : Str)) = false := by decide) (hcd : (x == ("__classdict__" : Str)) = false := by decide)
    (he : starEach (e :: es) X.env = (false, eval e X.env) :: starEach es X.env := by rfl) (hpl : (backTo pos (starEach es X.env)).any (·.1) = false := by rfl) : PE X (.Call (.Name x p) (e :: es) [] pos) (tCallLS i f sp E t) := by
  refine ⟨fun pins s σ H Q I ⟨hs, ht⟩ => wpAny_Call_Name_kw (thn ((pe_var (pos := p) hN hv hdb hcd).run pins s σ H (fun v H1 => v = .ref f ∧ H1 = H) I ⟨.ref f, hs, rfl, rfl⟩) fun u s1 ⟨v, H1, I1, r1, e1, e2⟩ => ?_)⟩
  subst e1 e2
  obtain rfl : u = Value.ref f := r1
  exact PySem.W.callWith_K (h₀ := X.base) I.ok.mod.kin hk (thn (ha.run pos pins s1 σ _ _ I1 ht) fun us s2 ⟨vs, H2, I2, r, q⟩ => ⟨I2.kIn, run_fnS F hr hb (hx σ) I2 r q⟩) he hpl
/-! ## C(), an own error class without an __init__ -/
theorem pmk_own0 {C : Addr} {bmB : List Value} {B newId initId : String} {x : Str} {p pos : Pos} (F : ExcBaseFacts B newId initId bmB) (q : PySem.W.excIn X.K C bmB newId = true) (gC : X.mg x = some (.ref C)) (kC : PySem.W.keepIn X.K (.ref C) = true)
    (r : Raises X (.ref C)) (hg : Gl X x) (hdb : (x == ("__debug__" : Str)) = false := by decide) : PMk X (.Call (.Name x p) [] [] pos) (fun _ H Q => Q (.ref C) none H) := by
  intro pins s σ H Q I h
  refine wpAny_Call_Name_kw (ld_glob I hg gC (PySem.W.callWith_K0 I.kIn kC ?_) hdb)
  obtain ⟨_, _, _, _, _, _, _, _, _, _, _, _, _, _, _, _, _, hC, hN, hni, T⟩ := exc_obj I.kIn q
  exact wpAny_call_exc_subT F T hC hN hni (fun h' e hm => mk_of I hm r h (I.hok.gone hm.new)) (by show 0 ≤ sizeLine; omega)
/-! ## // by any great number but 0 -/
theorem op_fdivZ : OpR X (binaryOp .FloorDiv) (rI (fun _ j => j ≠ 0 ∧ j.natAbs.log2 < 9000) fun i j => .int (i.fdiv j)) := opI fun _ _ _ _ _ _ _ hc q => floordiv_int hc.1 q (.inl (PyProof.noPylong_of_log2 hc.2))
/-! ## repr of data -/
def rReprD (K : PySem.W.Frag) : List V → Hp → VK → Prop := fun xs H Q => ∃ (a : Addr) (d : PyData), xs = [.ref a] ∧ Dp K H (.ref a) d ∧ d.showable = true ∧ d.hasDict = false ∧ d.depth ≤ 60 ∧ d.shown.length ≤ sizeLine ∧ Q (.str d.shown) H
theorem call_reprD (hu : X.A.units + 64 < cLine) (hg : X.A.guards = some []) : CallR X (.builtin "repr") (rReprD X.K) := by
  intro pins s σ H xs us Q I r h
  obtain ⟨a, d, rfl, hd, hs, hn, hde, hl, q⟩ := h
  obtain ⟨u, rfl, ru⟩ := vals1 r
  obtain rfl : u = Value.ref a := ru
  obtain ⟨as, rd⟩ := Dp.reads I d _ _ hd rfl
  exact repr_of_reads' rd hs (fun z => by rw [hn] at z; cases z) hg (by omega) (fun _ _ e => e) (fun h' u tk hk => ⟨.str d.shown, H, I.kept (t' := tk) hk, ⟨u, rfl⟩, q⟩) hl
end
end Lc
set_option Elab.async false
set_option linter.all false
set_option maxRecDepth 100000
set_option maxHeartbeats 4000000
namespace Lc
open PySem PySem.Spec PyProof.Rows L2
/-! ## Promises of defs that are called where no repr is under way -/
structure FnG (P : Program) (w : World) (K : PySem.W.Frag) (mg : Str → Option Value) (base : Heap) (k : Nat) (f : Addr) (fd : FuncData) (ps : List Str) (sp : Sp) : Prop where
  len : ∀ vs H Q E, sp vs H Q E → vs.length = ps.length
  run : ∀ (A : Around) (outer : List Env) (s : Shared) (H : Hp) (args : Args) (us : List Value) (vs : List V) (Q : VK) (E : XK), A.guards = some [] → Room k A → Env0 P w K mg base A outer s H → BindsTo s fd args (ps.zip us) → Vals vs us → sp vs H Q E →
    codeAny (model P w) A (.call (.ref f) args) (CR CX0 outer P w H s Q E) s
section
variable {P : Program} {w : World} {K : PySem.W.Frag} {mg : Str → Option Value} {base : Heap}
theorem Fun.okG {x qual : Str} {st : Stmt} {f : Addr} {fd : FuncData} {N ps : List Str} {k : Nat} {sp : Sp} (F : Fun K x qual st f fd) (S : FnScope N ps (defScope st)) (len : ∀ vs H Q E, sp vs H Q E → vs.length = ps.length)
    (go : ∀ (cdv : Value) (A : Around) (outer : List Env) (s : Shared) (H : Hp) (vs : List V) (Q : VK) (E : XK), A.guards = some [] → Room k (A.deeper (envOfC qual (defScope st) s.heap.objs.size f cdv)) → sp vs H Q E →
      ∃ t, PSs (cxOf CX0 P w K mg base N qual (defScope st) f cdv A outer s H E).nox (defBody st) t ∧ t { nx := fun _ H' => Q .non H', rt := Q } (start N vs) H) : FnG P w K mg base (k + 1) f fd ps sp := by
  obtain ⟨oc, od, kV, doc, pm, an, cdv, ct, osl, rfl, lk, hcd⟩ := F.ex
  refine ⟨len, fun A outer s H args us vs Q E hg hr e0 hb r hsp => ?_⟩
  have up : ∀ b o, base.get? b = some o → s.heap.get? b = some o := fun b o z => (e0.bs b o z).1
  have KX := e0.mod.kin.keeps up
  refine codeAny_call_function hr.depth (KX _ _ lk) rfl S.co S.gen rfl (PySem.W.codeRec_of KX hcd) (hb _ _ _ _ ?_)
  refine wpAny_newFunctionEnv_cells S.kind (fun y hy => ?_) fun env he s1 x => ?_
  · rcases S.par y.1 (List.of_mem_zip (a := y.1) (b := y.2) hy).1 with z | z
    · exact .inl z
    · exact .inr ⟨z, PySem.W.cellsFrom_some _ _ _ (.inl z)⟩
  subst he
  obtain ⟨t, ht, hq⟩ := go cdv A outer s H vs Q E hg (hr.deeper _) hsp
  have I : Inv (cxOf CX0 P w K mg base N qual (defScope st) f cdv A outer s H E) [] (start N vs) H s1 := inv_start S hr.hd e0 (len _ _ _ _ hsp) r x
  refine ⟨(e0.mod.nolimit.keeps up).keeps x.toInCall.keep, codeAny_func (wpAny_mono (ht.nox.run [] s1 (start N vs) H _ I hq) (fun fl s' hs => ?_) fun _ _ z => z)⟩
  cases fl with
  | ret u => obtain ⟨v, _, H', J, rv, q⟩ := hs; exact ⟨v, H', J.os, J.bare, J.base, J.hok, rv, q⟩
  | next => obtain ⟨_, H', J, q⟩ := hs; exact ⟨V.non, H', J.os, J.bare, J.base, J.hok, rfl, q⟩
  | brk => obtain ⟨_, _, _, q⟩ := hs; exact q.elim
  | cont => obtain ⟨_, _, _, q⟩ := hs; exact q.elim
end
section
variable {X : Cx} {k : Nat} {f : Addr} {fd : FuncData} {ps : List Str} {sp : Sp} {x : Str} {p pos : Pos} {e : Expr} {es : List Expr} {t : TA}
/-- f(e, ..), f kept under FnG -/
theorem pe_callG (F : FnG X.prog X.w X.K X.mg X.base k f fd ps sp) (gg : X.A.guards = some []) (hr : Room k X.A) (hg : Gl X x) (hm : X.mg x = some (.ref f)) (hk : PySem.W.keepIn X.K (.ref f) = true) (hb : Binds X.K fd ps [])
    (ha : PA X (e :: es) t) (hdb : (x == ("__debug__" : Str)) = false := by decide) (he : starEach (e :: es) X.env = (false, eval e X.env) :: starEach es X.env := by rfl) (hpl : (backTo pos (starEach es X.env)).any (·.1) = false := by rfl) :
    PE X (.Call (.Name x p) (e :: es) [] pos) (tCall sp [] E0 t) := by
  refine ⟨fun pins s σ H Q I h => wpAny_Call_Name_kw (ld_glob I hg hm ?_ hdb)⟩
  refine PySem.W.callWith_K (h₀ := X.base) I.ok.mod.kin hk (thn (ha.run pos pins s σ H _ I h) fun us s1 ⟨vs, H1, I1, r, q⟩ => ⟨I1.kIn, ?_⟩) he hpl
  replace q : sp vs H1 Q E0 := by
    have z : sp (vs ++ []) H1 Q E0 := q
    rw [List.append_nil] at z
    exact z
  have hl : us.length = ps.length := by rw [← r.length]; exact F.len _ _ _ _ q
  have b := hb s1 us I1.kIn (by rw [List.append_nil]; exact hl)
  rw [List.append_nil] at b
  refine wpAny_call (codeAny_mono (F.run X.A X.stack s1 H1 ⟨us, []⟩ us vs Q E0 gg hr I1.env0 b r q) fun rr s' hq => ?_)
  cases rr with
  | error er => exact False.elim hq
  | ok fl =>
    cases fl with
    | ret u => exact I1.after hq
    | next => exact False.elim hq
    | brk => exact False.elim hq
    | cont => exact False.elim hq
end
/-! ## The law itself -/
section
variable {P : Program} {w : World} {K : PySem.W.Frag} {mg mb : Str → Option Value} {k : Nat} {fa a : Addr} {fd : FuncData} {x : Str} {sp : Sp} {s : Shared} {vs : List Value} {ns : List Int}
theorem env_of {H : Hp} (KX : K.In s.heap) (hns : s.heap.Ns mainGlobals mg) (hb : s.heap.Ns builtinsNs mb) (hbb : ∀ x : Str, x ≠ "__name__" → mb x = bootBuiltins x) (hlim : s.heap.NoLimit) (hg : s.gens = #[])
    (ha : s.heap.get? a = some { cls := .type "list", data := .seq vs.toArray }) (hok : HOk P w H s.heap) (one : ∀ b, b ≠ a → H b = none) (nk : H a = none ∨ K.lookup a = none) :
    K.In (hidT s.heap H) ∧ (hidT s.heap H).Ns mainGlobals mg ∧ Env0 P w K mg (hidT s.heap H) callerA [] s H := by
  have keepN : ∀ {b : Addr} {m : Str → Option Value}, s.heap.Ns b m → (hidT s.heap H).Ns b m := by
    rintro b m ⟨o, es, ep, e, d, r⟩
    have nb : b ≠ a := fun z => by
      rw [z, ha] at e
      cases e
      exact nomatch (show Data.seq vs.toArray _ = Data.dict es ep from d)
    exact ⟨o, es, ep, hidT_get e (one b nb), d, r⟩
  have kin : K.In (hidT s.heap H) := fun b o e => hidT_get (KX b o e) (by
    by_cases z : b = a
    · rcases nk with q | q
      · rw [z]; exact q
      · rw [z, q] at e; cases e
    · exact one b z)
  obtain ⟨mc, l1, l2⟩ := hlim
  exact ⟨kin, keepN hns, rfl, ⟨kin, keepN hns, ⟨mb, keepN hb, hbb⟩, ⟨mc, keepN l1, l2⟩⟩, fun b o e => of_hidT e, Nat.le_of_eq (hidT_size _ _), trivial, fun b z => absurd (show b ∈ ([] : List Addr) from z) (by simp), hok, .of_eq hg⟩
theorem law_callG (KX : K.In s.heap) (hns : s.heap.Ns mainGlobals mg) (hb : s.heap.Ns builtinsNs mb) (hbb : ∀ x : Str, x ≠ "__name__" → mb x = bootBuiltins x) (hlim : s.heap.NoLimit) (hg : s.gens = #[])
    (ha : s.heap.get? a = some { cls := .type "list", data := .seq vs.toArray }) (hi : IntsAre vs ns) (hl : ns.length ≤ sizeLine) (hr : Room k callerA)
    (F : ∀ base : Heap, K.In base → base.Ns mainGlobals mg → FnG P w K mg base k fa fd [x] sp) (hbind : ∀ (s : Shared) (u : Value), BindsTo s fd ⟨[u], []⟩ [(x, u)])
    (hsp : ∀ H : Hp, SqL K H a (ns.map V.int) → sp [.ref a] H (fun v _ => v = .bl true) fun _ _ _ => False) :
    codeAny (model P w) callerA (.call (.ref fa) ⟨[.ref a], []⟩) (fun r s' => r = .ok (.ret (.bool true)) ∧ OldK s.heap s'.heap ∧ s'.os = s.os ∧ AllBare s'.gens) s := by
  have rv := vals_ints hi
  have go : ∀ H : Hp, SqL K H a (ns.map V.int) → HOk P w H s.heap → (∀ b, b ≠ a → H b = none) → (H a = none ∨ K.lookup a = none) → (∀ o, H a = some o → ∃ ob u, o = .frz ob u) →
      codeAny (model P w) callerA (.call (.ref fa) ⟨[.ref a], []⟩) (fun r s' => r = .ok (.ret (.bool true)) ∧ OldK s.heap s'.heap ∧ s'.os = s.os ∧ AllBare s'.gens) s := by
    intro H hS hok one nk fz
    obtain ⟨k1, k2, e0⟩ := env_of KX hns hb hbb hlim hg ha hok one nk
    refine codeAny_mono ((F _ k1 k2).run callerA [] s H ⟨[.ref a], []⟩ [.ref a] [.ref a] _ _ rfl hr e0 (hbind s (.ref a)) (.cons rfl .nil) (hsp H hS)) fun r s' h => ?_
    cases r with
    | error _ => exact False.elim h
    | ok fl =>
      cases fl with
      | next => exact False.elim h
      | brk => exact False.elim h
      | cont => exact False.elim h
      | ret u =>
        obtain ⟨v, H', os, bare, un, hok', ru, ev⟩ := h
        subst ev
        obtain rfl : u = Value.bool true := ru
        refine ⟨rfl, OldK.of_keep fun b o e => ?_, os, bare⟩
        cases q : H b with
        | none => exact un.keep b o e q (fun z => absurd (show b ∈ ([] : List Addr) from z) (by simp)) (by simp)
        | some oo =>
          have zb : b = a := Classical.byContradiction fun z => by rw [one b z] at q; cases q
          subst zb
          obtain ⟨ob, u, rfl⟩ := fz oo q
          obtain ⟨e1, _⟩ := hok b _ q
          obtain ⟨e2, _⟩ := hok' b _ (un.frzs b ob u q)
          rw [e] at e1
          cases e1
          exact e2
  cases hk : K.lookup a with
  | some o =>
    have e := KX a o hk
    rw [ha] at e
    cases e
    exact go (fun _ => none) (.inr ⟨_, vs.toArray, _, hk, rfl, rfl, rfl, by rw [List.size_toArray, hi.length]; exact hl, by simpa using rv⟩) (fun b u z => nomatch z) (fun _ _ => rfl) (.inl rfl) (fun o z => nomatch z)
  | none =>
    let ob : Obj := { cls := .type "list", data := .seq vs.toArray }
    refine go (upd (fun _ => none) a (.frz ob (.lst (ns.map V.int)))) (.inl (.inr ⟨ob, upd_same⟩)) (fun b u z => ?_) (fun b z => upd_ne z) (.inr hk) (fun o z => ?_)
    · by_cases q : b = a
      · subst q
        rw [upd_same] at z
        cases z
        exact ⟨ha, by rw [List.length_map]; exact hl, vs, _, rv, ha⟩
      · rw [upd_ne q] at z
        cases z
    · rw [upd_same] at z
      cases z
      exact ⟨_, _, rfl⟩
end
theorem walk_G {l : PySem.W.OpenLaw} {n k : Nat} {q : Program} {loose : List Str} {XP : (Str → Option Value) → Heap → Prop} {YP : World → Heap → Prop} {d : DefRec} {K : Params → PySem.W.Frag} {sp : PySem.W.Frag → Sp} {x : Str}
    (hn : l.most = some n) (hn2 : n ≤ sizeLine) (hdf : d.params.defaults = []) (hr : Room k callerA) (hY : ∀ (w : World) (h : Heap), YP w h → (K w.params).In h)
    (F : ∀ (w : World) (mg : Str → Option Value) (fa : Addr) (h : Heap), (K w.params).In h → h.Ns mainGlobals mg → mg d.name = some (.ref fa) →
      ∃ fd : FuncData, (∀ (s : Shared) (u : Value), BindsTo s fd ⟨[u], []⟩ [(x, u)]) ∧ ∀ base : Heap, (K w.params).In base → base.Ns mainGlobals mg → FnG l.prog w (K w.params) mg base k fa fd [x] (sp (K w.params)))
    (hsp : ∀ (K : PySem.W.Frag) (H : Hp) (a : Addr) (ns : List Int), ns.length ≤ n → SqL K H a (ns.map V.int) → sp K [.ref a] H (fun v _ => v = .bl true) fun _ _ _ => False) :
    PySem.W.WalkO q loose XP YP l.row.toRowW d [] (fun f vs => PySem.call f vs) := by
  refine Att.attach_call hn hdf fun w _ s mg mb fa _ _ _ _ a vs ns G Y _ _ _ hmg hobj hints hlen hg => ?_
  obtain ⟨fd, hb, hF⟩ := F w mg fa _ (hY w _ Y) G.T.g hmg
  exact law_callG (hY w _ Y) G.T.g G.T.b G.T.builtins G.T.nolimit hg hobj hints (Nat.le_trans hlen hn2) hr hF hb fun H hS => hsp _ H a ns hlen hS
end Lc
set_option maxRecDepth 100000
set_option maxHeartbeats 4000000
set_option linter.all false
namespace Lc
/-! ## Greatest common divisors and lowest terms -/
def gd (a b : Int) : Int := (Int.gcd a b : Int)
theorem gd_nonneg (a b : Int) : 0 ≤ gd a b := Int.natCast_nonneg _
theorem gd_pos {a b : Int} (h : b ≠ 0) : 0 < gd a b := by
  have : 0 < Int.gcd a b := Int.gcd_pos_of_ne_zero_right a h
  unfold gd
  omega
theorem gd_zero {a : Int} (h : 0 ≤ a) : gd a 0 = a := by
  unfold gd
  rw [Int.gcd_zero_right]
  omega
theorem gd_step {a b : Int} (ha : 0 ≤ a) (hb : 0 < b) : gd b (a % b) = gd a b := by
  unfold gd Int.gcd
  have e1 : (a % b).natAbs = a.natAbs % b.natAbs := by
    have h0 : 0 ≤ a % b := Int.emod_nonneg a (by omega)
    have : ((a % b).natAbs : Int) = ((a.natAbs % b.natAbs : Nat) : Int) := by
      rw [Int.natCast_emod, Int.natAbs_of_nonneg h0, Int.natAbs_of_nonneg ha, Int.natAbs_of_nonneg (by omega : 0 ≤ b)]
    exact Int.ofNat.inj this
  rw [e1, Nat.gcd_comm b.natAbs, ← Nat.gcd_rec, Nat.gcd_comm]
theorem gd_abs (a b : Int) : gd (if a < 0 then -a else a) b = gd a b := by
  unfold gd
  split
  · rw [Int.neg_gcd]
  · rfl
theorem gd_abs2 (a b : Int) : gd a (if b < 0 then -b else b) = gd a b := by
  unfold gd
  split
  · rw [Int.gcd_neg]
  · rfl
theorem gd_dvd1 (a b : Int) : gd a b ∣ a := Int.gcd_dvd_left a b
theorem gd_dvd2 (a b : Int) : gd a b ∣ b := Int.gcd_dvd_right a b
theorem gd_natAbs_le {a b : Int} (h : b ≠ 0) : (gd a b).natAbs ≤ b.natAbs := by
  have h1 : Int.gcd a b ≤ b.natAbs := Nat.le_of_dvd (by omega) (Int.gcd_dvd_natAbs_right a b)
  unfold gd
  rw [Int.natAbs_natCast]
  exact h1
def lowN (n d : Int) : Int := n / gd n d
def lowD (n d : Int) : Int := d / gd n d
structure Rt (n d : Int) : Prop where
  pos : 0 < d
  cop : gd n d = 1
theorem low_mul {n d : Int} (h : d ≠ 0) : lowN n d * gd n d = n ∧ lowD n d * gd n d = d := ⟨Int.ediv_mul_cancel (gd_dvd1 n d), Int.ediv_mul_cancel (gd_dvd2 n d)⟩
theorem lowD_pos {n d : Int} (h : 0 < d) : 0 < lowD n d := Int.ediv_pos_of_pos_of_dvd h (gd_nonneg n d) (gd_dvd2 n d)
theorem low_rt {n d : Int} (h : 0 < d) : Rt (lowN n d) (lowD n d) := by
  refine ⟨lowD_pos h, ?_⟩
  have hg : 0 < Int.gcd n d := Int.gcd_pos_of_ne_zero_right n (by omega)
  unfold lowN lowD gd
  rw [Int.gcd_ediv_gcd_ediv_gcd hg]
  rfl
theorem dvd_cop {k m n : Int} (h : k ∣ n * m) (g : Int.gcd m k = 1) : k ∣ n := by
  have h1 : k.natAbs ∣ m.natAbs * n.natAbs := by
    rw [← Int.natAbs_mul, Int.mul_comm]
    exact Int.natAbs_dvd_natAbs.mpr h
  have c : Nat.Coprime k.natAbs m.natAbs := by
    show Nat.gcd k.natAbs m.natAbs = 1
    rw [Nat.gcd_comm]
    exact g
  exact Int.natAbs_dvd_natAbs.mp (c.dvd_of_dvd_mul_left h1)
/-- lowest terms are one pair alone -/
theorem rt_unique {a b c d : Int} (h1 : Rt a b) (h2 : Rt c d) (e : a * d = c * b) : a = c ∧ b = d := by
  have g1 : Int.gcd a b = 1 := by have := h1.cop; unfold gd at this; omega
  have g2 : Int.gcd c d = 1 := by have := h2.cop; unfold gd at this; omega
  have db : b ∣ d := by
    have : b ∣ d * a := ⟨c, by rw [Int.mul_comm d a, e, Int.mul_comm]⟩
    exact dvd_cop this g1
  have dd : d ∣ b := by
    have : d ∣ b * c := ⟨a, by rw [Int.mul_comm b c, ← e, Int.mul_comm]⟩
    exact dvd_cop this g2
  have hb := h1.pos
  have hd := h2.pos
  have ebd : b = d := Int.le_antisymm (Int.le_of_dvd hd db) (Int.le_of_dvd hb dd)
  subst ebd
  exact ⟨Int.eq_of_mul_eq_mul_right (by omega) e, rfl⟩
theorem low_is {n d a b : Int} (hd : 0 < d) (h : Rt a b) (e : n * b = a * d) : lowN n d = a ∧ lowD n d = b := by
  have m := low_mul (n := n) (d := d) (by omega)
  have g := gd_pos (a := n) (b := d) (by omega)
  refine rt_unique (low_rt hd) h ?_
  have e2 : (lowN n d * b) * gd n d = (a * lowD n d) * gd n d := by
    rw [Int.mul_right_comm, m.1, Int.mul_assoc, m.2, e]
  exact Int.eq_of_mul_eq_mul_right (by omega) e2
theorem fdiv_neg_dvd {a g : Int} (hg : 0 < g) (h : g ∣ a) : a.fdiv (-g) = (-a) / g := by
  obtain ⟨m, rfl⟩ := h
  have e1 : g * m = (-g) * (-m) := by rw [Int.neg_mul_neg]
  have e2 : -(g * m) = g * (-m) := by rw [Int.mul_neg]
  rw [e2, Int.mul_ediv_cancel_left _ (by omega), e1, Int.mul_fdiv_cancel_left _ (by omega)]
/-- the sums and products of the law -/
theorem sub_add {an ad bn bd p q : Int} (had : 0 < ad) (hbd : 0 < bd) (hq : 0 < q) (h : p * (ad * bd) = (an * bd + bn * ad) * q) : (p * bd - bn * q) * ad = an * (q * bd) := by
  have e1 : (p * bd - bn * q) * ad = p * (ad * bd) - bn * q * ad := by
    rw [Int.sub_mul, Int.mul_assoc p bd ad, Int.mul_comm bd ad]
  have e2 : (an * bd + bn * ad) * q = an * (q * bd) + bn * q * ad := by
    rw [Int.add_mul, Int.mul_assoc an bd q, Int.mul_comm bd q, Int.mul_assoc bn ad q, Int.mul_comm ad q, Int.mul_assoc bn q ad]
  rw [e1, h, e2]
  omega
theorem mul_div {an ad bn bd p q : Int} (h : p * (ad * bn) = (an * bd) * q) (hbn : bn ≠ 0) : (p * bn) * ad = an * (q * bd) := by
  rw [Int.mul_assoc p bn ad, Int.mul_comm bn ad, h, Int.mul_assoc an bd q, Int.mul_comm bd q]
end Lc
namespace Lc
theorem low_le {n d : Int} (h : d ≠ 0) : (lowN n d).natAbs ≤ n.natAbs ∧ (lowD n d).natAbs ≤ d.natAbs := by
  have m := low_mul (n := n) (d := d) h
  have g := gd_pos (a := n) (b := d) h
  have e1 : n.natAbs = (lowN n d).natAbs * (gd n d).natAbs := by rw [← Int.natAbs_mul, m.1]
  have e2 : d.natAbs = (lowD n d).natAbs * (gd n d).natAbs := by rw [← Int.natAbs_mul, m.2]
  have gp : 0 < (gd n d).natAbs := by omega
  exact ⟨by rw [e1]; exact Nat.le_mul_of_pos_right _ gp, by rw [e2]; exact Nat.le_mul_of_pos_right _ gp⟩
theorem rt_one (n : Int) : Rt n 1 := ⟨by decide, by unfold gd; rw [Int.gcd_one]; rfl⟩
theorem rt_inv {d : Int} (h : 0 < d) : Rt 1 d := ⟨h, by unfold gd; rw [Int.one_gcd]; rfl⟩
theorem rt_ninv {d : Int} (h : 0 < d) : Rt (-1) d := ⟨h, by unfold gd; rw [Int.neg_gcd, Int.one_gcd]; rfl⟩
end Lc
set_option Elab.async false
set_option linter.all false
set_option maxRecDepth 100000
set_option maxHeartbeats 4000000
namespace Lc
open PySem PySem.Spec PyProof.Rows L2
/-! ## Kinds of values -/
inductive TyN (H : Hp) : V → String → Prop
  | non : TyN H .non "NoneType"
  | bl (b : Bool) : TyN H (.bl b) "bool"
  | int (i : Int) : TyN H (.int i) "int"
  | str (x : Str) : TyN H (.str x) "str"
  | tup {a : Addr} {xs : List V} (e : H a = some (.tup xs)) : TyN H (.ref a) "tuple"
  | lst {a : Addr} {xs : List V} (e : H a = some (.lst xs)) : TyN H (.ref a) "list"
  | dct {a : Addr} {kvs : List (Key × V)} (e : H a = some (.dK kvs)) : TyN H (.ref a) "dict"
theorem TyN.x {K : PySem.W.Frag} {H : Hp} {v : V} {t : String} (h : TyN H v t) : TyX K H v (.type t) := by
  cases h with
  | non => exact .base .non
  | bl b => exact .base (.bl b)
  | int i => exact .base (.int i)
  | str x => exact .base (.str x)
  | tup e => exact .base (.tup e)
  | lst e => exact .base (.lst e)
  | dct e => exact .base (.dK e)
theorem TyN.same {H H' : Hp} {v : V} {t : String} (h : TyN H v t) (s : Same H H') : TyN H' v t := by
  cases h with
  | non => exact .non
  | bl b => exact .bl b
  | int i => exact .int i
  | str x => exact .str x
  | tup e => exact .tup (s _ _ e)
  | lst e => exact .lst (s _ _ e)
  | dct e => exact .dct (s _ _ e)
theorem TyN.isInt {H : Hp} {v : V} {t : String} (h : TyN H v t) (e : t = "int") : ∃ i, v = .int i := by
  cases h <;> first | exact ⟨_, rfl⟩ | exact absurd e (by decide)
theorem TyN.isStr {H : Hp} {v : V} {t : String} (h : TyN H v t) (e : t = "str") : ∃ x, v = .str x := by
  cases h <;> first | exact ⟨_, rfl⟩ | exact absurd e (by decide)
theorem TyN.isTup {H : Hp} {v : V} {t : String} (h : TyN H v t) (e : t = "tuple") : ∃ a xs, v = .ref a ∧ H a = some (.tup xs) := by
  cases h <;> first | exact ⟨_, _, rfl, by assumption⟩ | exact absurd e (by decide)
def tyNames : List String := ["NoneType", "bool", "int", "str", "tuple", "list", "dict"]
theorem TyN.mem {H : Hp} {v : V} {t : String} (h : TyN H v t) : t ∈ tyNames := by
  cases h <;> simp [tyNames]
theorem kit_int {K : PySem.W.Frag} {t : String} (h : t ∈ tyNames) : PySem.W.kitOne K (.type t) (.type "int") = some (t == "int" || t == "bool") := by
  have : ∀ t ∈ tyNames, kitB t "int" = some (t == "int" || t == "bool") := by decide +kernel
  exact kit_ty (this t h)
theorem kit_bool {K : PySem.W.Frag} {t : String} (h : t ∈ tyNames) : PySem.W.kitOne K (.type t) (.type "bool") = some (t == "bool") := by
  have : ∀ t ∈ tyNames, kitB t "bool" = some (t == "bool") := by decide +kernel
  exact kit_ty (this t h)
theorem kit_tuple {K : PySem.W.Frag} {t : String} (h : t ∈ tyNames) : PySem.W.kitOne K (.type t) (.type "tuple") = some (t == "tuple") := by
  have : ∀ t ∈ tyNames, kitB t "tuple" = some (t == "tuple") := by decide +kernel
  exact kit_ty (this t h)
theorem kit_str {K : PySem.W.Frag} {t : String} (h : t ∈ tyNames) : PySem.W.kitOne K (.type t) (.type "str") = some (t == "str") := by
  have : ∀ t ∈ tyNames, kitB t "str" = some (t == "str") := by decide +kernel
  exact kit_ty (this t h)
/-! ## What is a rational -/
def ratB : V → V → Bool
  | .int n, .int d => decide (0 < d) && decide (gd n d = 1)
  | _, _ => false
inductive Rk (H : Hp) : V → Bool → Prop
  | other {v : V} {t : String} (h : TyN H v t) (n : t ≠ "tuple") : Rk H v false
  | len {a : Addr} {xs : List V} (e : H a = some (.tup xs)) (n : xs.length ≠ 2) : Rk H (.ref a) false
  | pair {a : Addr} {x y : V} {tx ty : String} (e : H a = some (.tup [x, y])) (hx : TyN H x tx) (hy : TyN H y ty) : Rk H (.ref a) (ratB x y)
theorem Rk.same {H H' : Hp} {v : V} {b : Bool} (h : Rk H v b) (s : Same H H') : Rk H' v b := by
  cases h with
  | other h n => exact .other (h.same s) n
  | len e n => exact .len (s _ _ e) n
  | pair e hx hy => exact .pair (s _ _ e) (hx.same s) (hy.same s)
theorem Rk.of {H : Hp} {a : Addr} {n d : Int} (e : H a = some (.tup [.int n, .int d])) (r : Rt n d) : Rk H (.ref a) true := by
  have z : ratB (.int n) (.int d) = true := by
    show (decide (0 < d) && decide (gd n d = 1)) = true
    rw [decide_eq_true r.pos, decide_eq_true r.cop]
    rfl
  rw [← z]
  exact .pair e (.int n) (.int d)
/-! ## repr -/
inductive Shw (K : PySem.W.Frag) (H : Hp) : V → Str → Prop
  | data {v : V} {d : PyData} (h : Dp K H v d) (h1 : d.showable = true) (h2 : d.hasDict = false) (h3 : d.depth ≤ 60) (h4 : d.shown.length ≤ sizeLine) : Shw K H v d.shown
  | empty {a : Addr} (e : H a = some (.dK [])) : Shw K H (.ref a) (PyData.dict []).shown
def rReprV (K : PySem.W.Frag) : List V → Hp → VK → Prop := fun xs H Q => ∃ (v : V) (z : Str), xs = [v] ∧ Shw K H v z ∧ Q (.str z) H
theorem call_reprV {X : Cx} (hg : X.A.guards = some []) (hu : X.A.units + 64 < cLine) : CallR X (.builtin "repr") (rReprV X.K) := by
  intro pins s σ H xs us Q I r h
  obtain ⟨v, z, rfl, hd, q⟩ := h
  obtain ⟨u, rfl, ru⟩ := vals1 r
  cases hd with
  | @data _ d hd h1 h2 h3 h4 =>
    obtain ⟨as, rd⟩ := Dp.reads I d _ _ hd ru
    cases hd with
    | non =>
      obtain rfl : u = Value.none := ru
      exact P.repr_of_none ⟨.str _, H, I.tok _, ⟨_, rfl⟩, q⟩
    | bl b =>
      obtain rfl : u = Value.bool b := ru
      exact P.repr_of_bool ⟨.str _, H, I.tok _, ⟨_, rfl⟩, q⟩
    | int i =>
      obtain ⟨t, rfl⟩ := (show ∃ t, u = Value.int i t from ru)
      exact P.repr_of_int (of_decide_eq_true (by simpa [PyData.showable] using h1)) ⟨.str _, H, I.tok _, ⟨_, rfl⟩, q⟩
    | str x =>
      obtain ⟨t, rfl⟩ := (show ∃ t, u = Value.str x t from ru)
      exact P.repr_of_str ⟨.str _, H, I.tok _, ⟨_, rfl⟩, q⟩ h4
    | @lst a xs ds e1 e2 =>
      obtain rfl : u = Value.ref a := ru
      exact repr_of_reads' rd h1 (PyData.noDict_hsm h2) hg (by omega) (fun _ _ e => e) (fun h' u tk hk => ⟨.str _, H, I.kept (t' := tk) hk, ⟨u, rfl⟩, q⟩) h4
    | @tup a xs ds e1 e2 =>
      obtain rfl : u = Value.ref a := ru
      exact repr_of_reads' rd h1 (PyData.noDict_hsm h2) hg (by omega) (fun _ _ e => e) (fun h' u tk hk => ⟨.str _, H, I.kept (t' := tk) hk, ⟨u, rfl⟩, q⟩) h4
  | @empty a e =>
    obtain rfl : u = Value.ref a := ru
    obtain ⟨_, ns, vs, kv, o, es, ep, h1, h2, h3, h4⟩ := (show ObjOk X.prog X.w H s.heap a (.dK []) from I.hok a _ e)
    cases kv
    have es0 : es.toList = [] := by
      obtain ⟨_, hp, _⟩ := h4
      generalize es.toList = l at hp
      cases hp
      rfl
    have rd : Reads s.heap (.ref a) (.dict []) (a :: [] ++ []) := Reads.dict h1 h2.1 h3 (by rw [es0]; exact .nil) (by rw [es0]; exact .nil)
    exact repr_of_reads' rd (by decide) (fun _ hm => by
      have : sysModules = a := by simpa using hm
      rw [this] at ns
      simp at ns) hg (by show X.A.units + (PyData.depth (.dict []) + 1) < cLine; have : PyData.depth (.dict []) ≤ 60 := by decide +kernel
                         omega) (fun _ _ e => e) (fun h' u tk hk => ⟨.str _, H, I.kept (t' := tk) hk, ⟨u, rfl⟩, q⟩) (by decide +kernel)
theorem dp_same {K : PySem.W.Frag} {H H' : Hp} (s : Same H H') : ∀ {v : V} {d : PyData}, Dp K H v d → Dp K H' v d := by
  have sq : ∀ {a xs}, SqT K H a xs → SqT K H' a xs := by
    intro a xs h
    rcases h with (h | ⟨o, h⟩) | h
    · exact .inl (.inl (s _ _ h))
    · exact .inl (.inr ⟨o, s _ _ h⟩)
    · exact .inr h
  intro v d h
  induction h using Dp.rec (motive_2 := fun vs ds _ => DpAll K H' vs ds) with
  | non => exact .non
  | bl b => exact .bl b
  | int i => exact .int i
  | str x => exact .str x
  | lst h1 _ ih => exact .lst (s.seq h1) ih
  | tup h1 _ ih => exact .tup (sq h1) ih
  | nil => exact .nil
  | cons _ _ i1 i2 => exact .cons i1 i2
theorem Shw.same {K : PySem.W.Frag} {H H' : Hp} (s : Same H H') {v : V} {z : Str} (h : Shw K H v z) : Shw K H' v z := by
  cases h with
  | data h h1 h2 h3 h4 => exact .data (dp_same s h) h1 h2 h3 h4
  | empty e => exact .empty (s _ _ e)
theorem Same.upd {H : Hp} {p : Addr} {o : HO} (h : H p = none) : Same H (upd H p o) := fun b u e => by rw [upd_ne (ne_of_none e h)]; exact e
end Lc
set_option Elab.async false
set_option linter.all false
set_option maxRecDepth 100000
set_option maxHeartbeats 4000000
namespace Lc
open PySem PySem.Spec PyProof.Rows L2
/-! ## The law's tape -/
def Tape (H : Hp) (t : Addr) : Prop := ∃ (l : Addr) (ns : List Int) (pos rest mix : Int), H t = some (.lst [.ref l, .int pos, .int rest, .int mix]) ∧ H l = some (.lst (ns.map V.int)) ∧ 0 ≤ pos ∧ 0 ≤ rest ∧ 0 ≤ mix ∧ mix < 2147483647
/-- all but what stands at t is as it was -/
def SameB (t : Addr) (H H' : Hp) : Prop := ∀ b o, b ≠ t → H b = some o → H' b = some o
theorem SameB.refl (t : Addr) (H : Hp) : SameB t H H := fun _ _ _ e => e
theorem SameB.trans {t : Addr} {H H1 H2 : Hp} (a : SameB t H H1) (b : SameB t H1 H2) : SameB t H H2 := fun c o n e => b c o n (a c o n e)
theorem Same.b {H H' : Hp} (t : Addr) (s : Same H H') : SameB t H H' := fun b o _ e => s b o e
theorem SameB.upd {t : Addr} {H : Hp} {o : HO} : SameB t H (upd H t o) := fun b u n e => by rw [upd_ne n]; exact e
theorem tape_ne {l t : Addr} {H : Hp} {ns : List Int} {vs : List V} (h1 : H t = some (.lst (.ref l :: vs))) (h2 : H l = some (.lst (ns.map V.int))) : l ≠ t := by
  refine ne_of h2 h1 fun z => ?_
  cases ns with
  | nil => injection z with z; cases z
  | cons n ns => injection z with z; injection z with z; cases z
theorem Tape.same {H H' : Hp} {t : Addr} (h : Tape H t) (s : Same H H') : Tape H' t := by
  obtain ⟨l, ns, pos, rest, mix, h1, h2, h3⟩ := h
  exact ⟨l, ns, pos, rest, mix, s _ _ h1, s _ _ h2, h3⟩
theorem cut_ints (ns : List Int) (lo hi : Option Int) : ∃ ms : List Int, cutV (ns.map V.int) lo hi = ms.map V.int := by
  unfold cutV
  rw [← List.map_drop, ← List.map_take]
  exact ⟨_, rfl⟩
def spTape (K : PySem.W.Frag) : Sp := fun vs H Q _ => ∃ (a : Addr) (ns : List Int), vs = [.ref a] ∧ SqL K H a (ns.map V.int) ∧ ∀ (t : Addr) (H' : Hp), Same H H' → H t = none → Tape H' t → Q (.ref t) H'
def spDraw : Sp := fun vs H Q _ => ∃ (t : Addr) (many : Int), vs = [.ref t, .int many] ∧ Tape H t ∧ 0 < many ∧ many.natAbs < 2 ^ 4000 ∧ ∀ (k : Int) (H' : Hp), 0 ≤ k → k < many → Tape H' t → SameB t H H' → Q (.int k) H'
def New2' (H : Hp) (Q : VK) (n d : Int) : Prop := ∀ p, H p = none → Q (.ref p) (upd H p (.tup [.int n, .int d]))
def spLowest : Sp := fun vs H Q _ => ∃ n d : Int, vs = [.int n, .int d] ∧ 0 < d ∧ d.natAbs < 2 ^ 4000 ∧ New2' H Q (lowN n d) (lowD n d)
def spRational : Sp := fun vs H Q _ => ∃ (t : Addr) (b : Bool), vs = [.ref t, .bl b] ∧ Tape H t ∧ ∀ (p : Addr) (n d : Int) (H' : Hp), Rt n d → n.natAbs < 2 ^ 140 → d.natAbs < 2 ^ 140 → H' p = some (.tup [.int n, .int d]) → H p = none → Tape H' t → SameB t H H' → Q (.ref p) H'
theorem log_lt' {n : Int} (h : n.natAbs < 2 ^ 4000) : n.natAbs.log2 < 9000 := by
  by_cases z : n.natAbs = 0
  · rw [z]
    decide
  · exact Nat.lt_of_lt_of_le ((Nat.log2_lt z).mpr h) (by decide)
end Lc
namespace Lc
open PySem PySem.Spec PyProof.Rows L2
theorem SameB.free {t p : Addr} {H H' : Hp} (s : SameB t H H') (h : Tape H' t) (e : H' p = none) : H p = none := by
  cases q : H p with
  | none => rfl
  | some o =>
    by_cases z : p = t
    · subst z
      obtain ⟨_, _, _, _, _, h1, _⟩ := h
      rw [h1] at e
      cases e
    · rw [s p o z q] at e
      cases e
theorem Tape.ne {t p : Addr} {H : Hp} (h : Tape H t) (e : H p = none) : p ≠ t := by
  intro z
  subst z
  obtain ⟨_, _, _, _, _, h1, _⟩ := h
  rw [h1] at e
  cases e
theorem Tape.neT {t p : Addr} {H : Hp} {xs : List V} (h : Tape H t) (e : H p = some (.tup xs)) : p ≠ t := by
  intro z
  subst z
  obtain ⟨_, _, _, _, _, h1, _⟩ := h
  rw [h1] at e
  cases e
theorem p18 : (10 : Int) ^ (18 : Int).toNat = 1000000000000000000 := by decide
theorem p40 : (10 : Int) ^ (40 : Int).toNat = 10000000000000000000000000000000000000000 := by decide
end Lc
namespace Lc
open PySem PySem.Spec PyProof.Rows L2
/-- the tape, its list at l -/
def TapeL (l : Addr) (H : Hp) (t : Addr) : Prop := ∃ (ns : List Int) (pos rest mix : Int), H t = some (.lst [.ref l, .int pos, .int rest, .int mix]) ∧ H l = some (.lst (ns.map V.int)) ∧ 0 ≤ pos ∧ 0 ≤ rest ∧ 0 ≤ mix ∧ mix < 2147483647
theorem TapeL.tape {l : Addr} {H : Hp} {t : Addr} (h : TapeL l H t) : Tape H t := ⟨l, h⟩
theorem TapeL.same {l : Addr} {H H' : Hp} {t : Addr} (h : TapeL l H t) (s : Same H H') : TapeL l H' t := by
  obtain ⟨ns, pos, rest, mix, h1, h2, h3⟩ := h
  exact ⟨ns, pos, rest, mix, s _ _ h1, s _ _ h2, h3⟩
theorem TapeL.list {l : Addr} {H : Hp} {t : Addr} (h : TapeL l H t) : ∃ xs, H l = some (.lst xs) := by
  obtain ⟨ns, pos, rest, mix, h1, h2, h3⟩ := h
  exact ⟨_, h2⟩
/-- another object is written -/
theorem TapeL.upd {l : Addr} {H : Hp} {t a : Addr} {o : HO} (h : TapeL l H t) (n1 : a ≠ t) (n2 : a ≠ l) : TapeL l (upd H a o) t := by
  obtain ⟨ns, pos, rest, mix, h1, h2, h3⟩ := h
  exact ⟨ns, pos, rest, mix, by rw [upd_ne (Ne.symm n1)]; exact h1, by rw [upd_ne (Ne.symm n2)]; exact h2, h3⟩
def spDrawL : Sp := fun vs H Q _ => ∃ (t l : Addr) (many : Int), vs = [.ref t, .int many] ∧ TapeL l H t ∧ 0 < many ∧ many.natAbs < 2 ^ 4000 ∧ ∀ (k : Int) (H' : Hp), 0 ≤ k → k < many → TapeL l H' t → SameB t H H' → Q (.int k) H'
theorem fn_weak {P : Program} {w : World} {K : PySem.W.Frag} {mg : Str → Option Value} {base : Heap} {CX : CXT} {k : Nat} {f : Addr} {fd : FuncData} {ps : List Str} {sp sp' : Sp} (h : ∀ vs H Q E, sp vs H Q E → sp' vs H Q E) (F : FnOk P w K mg base CX k f fd ps sp') : FnOk P w K mg base CX k f fd ps sp :=
  ⟨fun vs H Q E z => F.len vs H Q E (h vs H Q E z), fun A outer s H args us vs Q E a b c d z => F.run A outer s H args us vs Q E a b c d (h vs H Q E z)⟩
theorem draw_weak {vs : List V} {H : Hp} {Q : VK} {E : XK} (h : spDraw vs H Q E) : spDrawL vs H Q E := by
  obtain ⟨t, m, e, ⟨l, hT⟩, h1, h2, k⟩ := h
  exact ⟨t, l, m, e, hT, h1, h2, fun k1 H' a b c d => k k1 H' a b c.tape d⟩
end Lc
set_option Elab.async false
set_option linter.all false
set_option maxRecDepth 100000
set_option maxHeartbeats 4000000
namespace Lc
open PySem PySem.Spec PyProof.Rows L2
/-- names of built-ins that no text binds -/
structure Bt (mg : Str → Option Value) : Prop where
  isi : mg "isinstance" = none
  int : mg "int" = none
  bool : mg "bool" = none
  str : mg "str" = none
  tuple : mg "tuple" = none
  list : mg "list" = none
  dict : mg "dict" = none
  len : mg "len" = none
  abs : mg "abs" = none
  min : mg "min" = none
  all : mg "all" = none
  repr : mg "repr" = none
  range : mg "range" = none
  enum : mg "enumerate" = none
  ve : mg "ValueError" = none
  zd : mg "ZeroDivisionError" = none
  ie : mg "IndexError" = none
  oe : mg "OverflowError" = none
def btNames : List Str := ["isinstance", "int", "bool", "str", "tuple", "list", "dict", "len", "abs", "min", "all", "repr", "range", "enumerate", "ValueError", "ZeroDivisionError", "IndexError", "OverflowError"]
/-! ## x is True, x any value -/
def rIsBA : R2 := fun x y H Q => ∃ b : Bool, y = .bl b ∧ Q (.bl (decide (x = .bl b))) H
theorem op_isBA {X : Cx} : OpR X (compareOp .Is) rIsBA := by
  intro pins s σ H x y v u Q I rx ry h
  obtain ⟨b, rfl, q⟩ := h
  cases (show u = Value.bool b from ry)
  have key : plainIs v (.bool b) = true ∧ (v == Value.bool b) = decide (x = .bl b) := by
    cases x with
    | non => cases (show v = Value.none from rx); exact ⟨rfl, by cases b <;> rfl⟩
    | bl c => cases (show v = Value.bool c from rx); exact ⟨rfl, by cases b <;> cases c <;> rfl⟩
    | int i => obtain ⟨t, rfl⟩ := (show ∃ t, v = Value.int i t from rx); exact ⟨rfl, by cases b <;> rfl⟩
    | str i => obtain ⟨t, rfl⟩ := (show ∃ t, v = Value.str i t from rx); exact ⟨rfl, by cases b <;> rfl⟩
    | byt i => obtain ⟨t, rfl⟩ := (show ∃ t, v = Value.bytes i t from rx); exact ⟨rfl, by cases b <;> rfl⟩
    | flt i => obtain ⟨t, rfl⟩ := (show ∃ t, v = Value.float i t from rx); exact ⟨rfl, by cases b <;> rfl⟩
    | ref a => cases (show v = Value.ref a from rx); exact ⟨rfl, by cases b <;> rfl⟩
    | ty n => cases (show v = Value.type n from rx); exact ⟨rfl, by cases b <;> rfl⟩
  refine wpAny_is_plain key.1 ?_
  rw [key.2]
  exact ⟨.bl _, H, I, rfl, q⟩
/-! ## Texts of few signs -/
structure Sh (n : Nat) (x : Str) : Prop where
  len : x.cps.toList.length ≤ n
  ok : ∀ c ∈ x.cps.toList, c < 1114112
theorem Sh.mono {n m : Nat} {x : Str} (h : Sh n x) (l : n ≤ m) : Sh m x := ⟨Nat.le_trans h.len l, h.ok⟩
theorem Sh.line {n : Nat} {x : Str} (h : Sh n x) (l : n ≤ 1000) : x.length ≤ sizeLine := by
  have : x.length = x.cps.toList.length := by show x.cps.size = _; simp
  rw [this]
  exact Nat.le_trans h.len (Nat.le_trans l (by decide))
theorem sh_app {n m : Nat} {x y : Str} (h : Sh n x) (g : Sh m y) : Sh (n + m) (x ++ y) := by
  have e : (x ++ y).cps.toList = x.cps.toList ++ y.cps.toList := by
    show (x.cps ++ y.cps).toList = _
    simp
  refine ⟨?_, fun c hc => ?_⟩
  · rw [e, List.length_append]
    exact Nat.add_le_add h.len g.len
  · rw [e] at hc
    rcases List.mem_append.mp hc with hc | hc
    · exact h.ok c hc
    · exact g.ok c hc
theorem sh_one {c : Nat} (h : c < 1114112) : Sh 1 ⟨#[c]⟩ := ⟨Nat.le_refl _, fun d hd => by
  have : d = c := by simpa using hd
  rw [this]
  exact h⟩
theorem sh_sub {n : Nat} {x : Str} {l : List Nat} (h : Sh n x) (s : l.Sublist x.cps.toList) : Sh n ⟨l.toArray⟩ := by
  refine ⟨?_, fun c hc => ?_⟩
  · show l.toArray.toList.length ≤ n
    exact Nat.le_trans s.length_le h.len
  · exact h.ok c (s.subset (by simpa using hc))
theorem sh_cut {n : Nat} {x : Str} (lo hi : Option Int) (h : Sh n x) : Sh n (cutS x lo hi) := sh_sub h ((List.take_sublist _ _).trans (List.drop_sublist _ _))
theorem foldl_app : ∀ (l : List (Array Nat)) (a : Array Nat), (l.foldl (· ++ ·) a).toList = a.toList ++ (l.map Array.toList).flatten
  | [], a => by simp
  | b :: l, a => by
    show ((l.foldl (· ++ ·) (a ++ b))).toList = _
    rw [foldl_app l (a ++ b)]
    simp [List.append_assoc]
theorem sh_mul {x : Str} {n k : Nat} {i : Int} (h : Sh n x) (hi : i.toNat ≤ k) (hn : n ≤ 1) : Sh k (Txt.mul x i) := by
  unfold Txt.mul
  by_cases h1 : i < 1
  · rw [if_pos h1]
    exact ⟨Nat.zero_le _, fun c hc => by cases (by simpa [Str.empty] using hc : c ∈ ([] : List Nat))⟩
  · rw [if_neg h1]
    by_cases h2 : (i == 1 || x.length == 0) = true
    · rw [if_pos h2]
      exact h.mono (by omega)
    · rw [if_neg h2]
      have e : ((List.replicate i.toNat x.cps).foldl (· ++ ·) #[]).toList = (List.replicate i.toNat x.cps.toList).flatten := by
        rw [foldl_app]
        simp
      refine ⟨?_, fun c hc => ?_⟩
      · show ((List.replicate i.toNat x.cps).foldl (· ++ ·) #[]).toList.length ≤ k
        rw [e, List.length_flatten]
        have : ((List.replicate i.toNat x.cps.toList).map List.length).sum ≤ i.toNat * 1 := by
          have key : ∀ m : Nat, ((List.replicate m x.cps.toList).map List.length).sum ≤ m * 1 := by
            intro m
            induction m with
            | zero => simp
            | succ m ih =>
              rw [List.replicate_succ, List.map_cons, List.sum_cons]
              have := Nat.le_trans h.len hn
              omega
          exact key _
        omega
      · have hc : c ∈ ((List.replicate i.toNat x.cps).foldl (· ++ ·) #[]).toList := hc
        rw [e] at hc
        obtain ⟨l, hl, hcl⟩ := List.mem_flatten.mp hc
        rw [List.eq_of_mem_replicate hl] at hcl
        exact h.ok c hcl
theorem mul_ok {x : Str} {i : Int} (h : x.cps.size ≤ 1) (h2 : i < 1000) (h3 : -1000 < i) : MulOk x i := by
  have hx : x.length ≤ 1 := h
  refine ⟨by simp; omega, fun h1 _ => ?_, fun h1 _ => ?_⟩
  · have : (2 ^ 63 - 1 : Int) / i ≥ 1 := by
      have : (1 : Int) * i ≤ 2 ^ 63 - 1 := by omega
      exact (Int.le_ediv_iff_mul_le (by omega)).mpr this
    omega
  · unfold Builtin.Str.tooLong
    have : x.length * i.toNat ≤ 1000 := by
      have : x.length * i.toNat ≤ 1 * i.toNat := Nat.mul_le_mul_right _ hx
      omega
    have : ¬ (x.length * i.toNat > sizeLine) := by
      have : (1000 : Nat) ≤ sizeLine := by decide
      omega
    simpa using this
def rMulS : R2 := fun x y H Q => ∃ (z : Str) (i : Int), x = .str z ∧ y = .int i ∧ MulOk z i ∧ Q (.str (Txt.mul z i)) H
theorem op_mulS {X : Cx} : OpR X (binaryOp .Mult) rMulS := by
  intro pins s σ H x y v u Q I rx ry h
  obtain ⟨z, i, rfl, rfl, ok, q⟩ := h
  obtain ⟨t, rfl⟩ := (show ∃ t, v = Value.str z t from rx)
  obtain ⟨t2, rfl⟩ := (show ∃ t, u = Value.int i t from ry)
  exact SB.mul ok fun t' k => ⟨.str _, H, I.tok _, ⟨_, rfl⟩, q⟩
theorem glued_sh : ∀ (ys : List Str), (∀ y ∈ ys, Sh 1 y) → Sh ys.length (Str.join Str.empty ys)
  | [], _ => ⟨Nat.le_refl _, fun c hc => by cases (by simpa [Str.join, Str.empty] using hc : c ∈ ([] : List Nat))⟩
  | [x], h => h x List.mem_cons_self
  | x :: y :: r, h => by
    have ih := glued_sh (y :: r) fun z hz => h z (List.mem_cons_of_mem _ hz)
    have e : Str.join Str.empty (x :: y :: r) = x ++ Str.empty ++ Str.join Str.empty (y :: r) := rfl
    rw [e]
    have s0 : Sh 0 Str.empty := ⟨Nat.le_refl _, fun c hc => by cases (by simpa [Str.empty] using hc : c ∈ ([] : List Nat))⟩
    exact (sh_app (sh_app (h x List.mem_cons_self) s0) ih).mono (by simp; omega)
/-! ## repr of a short text, of a bounded number -/
theorem shw_text {K : PySem.W.Frag} {H : Hp} {n : Nat} {x : Str} (h : Sh n x) (l : n ≤ 1000) : Shw K H (.str x) (PyData.str x).shown := by
  refine .data (.str x) rfl rfl (by simp [PyData.depth]) ?_
  show (reprText x).length ≤ sizeLine
  have := StrLaws.reprText_len x (fun c hc => Nat.lt_trans (h.ok c hc) (by decide))
  have e : x.length = x.cps.toList.length := by show x.cps.size = _; simp
  have := h.len
  have : (10002 : Nat) ≤ sizeLine := by decide
  omega
theorem num_len {i : Int} (h : i.natAbs < 2 ^ 1000) : (PyData.int i).showable = true ∧ (PyData.int i).shown.length ≤ 1921 := by
  have l : i.natAbs.log2 < 1920 := by
    by_cases z : i.natAbs = 0
    · rw [z]
      decide
    · exact Nat.lt_of_lt_of_le ((Nat.log2_lt z).mpr h) (by decide)
  exact ⟨decide_eq_true l, int_text_len_1921 l⟩
end Lc
namespace Lc
open PySem PySem.Spec PyProof.Rows L2
/-! ## Names -/
def letters : Str := "abcdefghijklmnopqrstuvwxyz"
def signs : Str := "abcdefghijklmnopqrstuvwxyz0123456789"
def inS (c : Nat) : Bool := decide (c ∈ signs.cps.toList)
def inL (c : Nat) : Bool := decide (c ∈ letters.cps.toList)
def nameL : List Nat → Bool
  | [] => false
  | c :: r => decide ((c :: r).length ≤ 12) && (inL c && (c :: r).all inS)
def nameB : V → Bool
  | .str x => nameL x.cps.toList
  | _ => false
abbrev rInS : R2 := fun x y H Q => ∃ (c : Nat) (z : Str), x = .str ⟨#[c]⟩ ∧ y = .str z ∧ Q (.bl (decide (c ∈ z.cps.toList))) H
def spName : Sp := fun vs H Q _ => ∃ (v : V) (t : String), vs = [v] ∧ TyN H v t ∧ (∀ x, v = .str x → x.length ≤ sizeLine) ∧ ∀ H', Same H H' → Q (.bl (nameB v)) H'
def spLName : Sp := fun vs H Q _ => ∃ t : Addr, vs = [.ref t] ∧ Tape H t ∧ ∀ (x : Str) (H' : Hp), Sh 12 x → Tape H' t → SameB t H H' → Q (.str x) H'
theorem lenL (x : Str) : x.length = x.cps.toList.length := by show x.cps.size = _; simp
theorem nil_of {x : Str} (h : x.cps.toList = []) : x = ⟨#[]⟩ := by
  obtain ⟨⟨l⟩⟩ := x
  have : l = [] := h
  rw [this]
theorem dec_empty (x : Str) : decide (V.str x = V.str "") = decide (x.cps.toList = []) := by
  rw [Bool.eq_iff_iff, decide_eq_true_iff, decide_eq_true_iff]
  constructor
  · intro h
    injection h with h
    rw [h]
    rfl
  · intro h
    rw [nil_of h]
    rfl
theorem name_nil {x : Str} (h : x.cps.toList = []) : nameB (.str x) = false := by
  show nameL x.cps.toList = false
  rw [h]
  rfl
theorem name_long {x : Str} (h : ¬ x.cps.toList.length ≤ 12) : nameB (.str x) = false := by
  show nameL x.cps.toList = false
  cases e : x.cps.toList with
  | nil => rfl
  | cons c r =>
    rw [e] at h
    show (decide ((c :: r).length ≤ 12) && _) = false
    rw [decide_eq_false h]
    rfl
theorem name_is {x : Str} {c : Nat} {r : List Nat} (e : x.cps.toList = c :: r) (h : x.cps.toList.length ≤ 12) : nameB (.str x) = (inL c && (c :: r).all inS) := by
  show nameL x.cps.toList = _
  rw [e] at h ⊢
  show (decide ((c :: r).length ≤ 12) && _) = _
  rw [decide_eq_true h]
  rfl
/-- the list of a comprehension over a text's signs, as it grows -/
theorem grow {x : Str} {i : Nat} {c : Nat} (h : x.cps[i]? = some c) (p : Nat → Bool) : (x.cps.toList.take i).map (fun c => V.bl (p c)) ++ [V.bl (p c)] = (x.cps.toList.take (i + 1)).map fun c => V.bl (p c) := by
  have h2 : x.cps.toList[i]? = some c := by rw [Array.getElem?_toList]; exact h
  rw [List.take_succ, h2, List.map_append]
  rfl
end Lc
namespace Lc
open PySem PySem.Spec PyProof.Rows L2
theorem cut26 : cutS signs none (some 26) = letters := by decide +kernel
theorem signs_ok : ∀ c ∈ signs.cps.toList, c < 1114112 := by decide +kernel
theorem signs_len : signs.cps.toList.length = 36 := by decide +kernel
theorem at_text {l : List Nat} {i : Int} (h0 : 0 ≤ i) (h1 : i < (l.length : Int)) : ∃ c, atI l i = some c ∧ c ∈ l := by
  obtain ⟨n, rfl⟩ : ∃ n : Nat, i = (n : Int) := ⟨i.toNat, by omega⟩
  have h : n < l.length := by omega
  exact ⟨l[n], atI_nat (List.getElem?_eq_getElem h), List.getElem_mem h⟩
theorem big1000 {z : Int} (h1 : 0 ≤ z) (h2 : z ≤ 1000) : z.natAbs < 2 ^ 4000 := by
  have e : (2 : Nat) ^ 10 = 1024 := by decide
  exact Nat.lt_of_lt_of_le (show z.natAbs < 2 ^ 10 by omega) (Nat.pow_le_pow_right (by decide) (by decide))
theorem sh_a : Sh 1 (PySem.Str.ofString "a") := ⟨by decide +kernel, by decide +kernel⟩
theorem a_size : (PySem.Str.ofString "a").cps.size ≤ 1 := by decide +kernel
theorem sh_len {n : Nat} {x : Str} (h : Sh n x) : x.length ≤ n := by rw [lenL]; exact h.len
end Lc
namespace Lc
open PySem PySem.Spec PyProof.Rows L2
theorem join_sh (ys : List Str) (h : ∀ y ∈ ys, Sh 1 y) : Sh ys.length (Txt.join (PySem.Str.ofString "") ys) := by
  have e : Txt.join (PySem.Str.ofString "") ys = Str.join Str.empty ys := by
    exact (StrLaws.glued_eq_join (PySem.Str.ofString "") ys).trans rfl
  rw [e]
  exact glued_sh ys h
end Lc
set_option Elab.async false
set_option linter.all false
set_option maxRecDepth 100000
set_option maxHeartbeats 4000000
namespace Lc
open PySem PySem.Spec PyProof.Rows L2
/-! ## Flat values and what they are shown as -/
structure Fl (v : V) (d : PyData) (s : String) : Prop where
  dp : ∀ (K : PySem.W.Frag) (H : Hp), Dp K H v d
  ty : ∀ H : Hp, TyN H v s
  sh : d.showable = true
  nd : d.hasDict = false
  dz : d.depth = 0
  ln : d.shown.length ≤ 20000
theorem fl_non : Fl .non .none "NoneType" := ⟨fun _ _ => .non, fun _ => .non, rfl, rfl, rfl, by decide +kernel⟩
theorem fl_bl (b : Bool) : Fl (.bl b) (.bool b) "bool" := ⟨fun _ _ => .bl b, fun _ => .bl b, rfl, rfl, rfl, by cases b <;> decide +kernel⟩
theorem fl_int {i : Int} (h : i.natAbs < 2 ^ 1000) : Fl (.int i) (.int i) "int" := ⟨fun _ _ => .int i, fun _ => .int i, (num_len h).1, rfl, rfl, Nat.le_trans (num_len h).2 (by decide)⟩
theorem fl_str {x : Str} {n : Nat} (h : Sh n x) (l : n ≤ 1930) : Fl (.str x) (.str x) "str" := by
  refine ⟨fun _ _ => .str x, fun _ => .str x, rfl, rfl, rfl, ?_⟩
  show (reprText x).length ≤ 20000
  have := StrLaws.reprText_len x (fun c hc => Nat.lt_trans (h.ok c hc) (by decide))
  have e := lenL x
  have := h.len
  omega
theorem sh_string (s : String) : ∀ c ∈ (PySem.Str.ofString s).cps.toList, c < 1114112 := by
  intro c hc
  rw [Str.ofString_eq_toList] at hc
  have hc : c ∈ s.toList.map Char.toNat := by simpa using hc
  obtain ⟨ch, _, rfl⟩ := List.mem_map.mp hc
  have := ch.valid
  rcases this with h | ⟨_, h⟩
  · exact Nat.lt_trans h (by decide)
  · exact h
theorem sh_num {i : Int} (h : i.natAbs < 2 ^ 1000) : Sh 1921 (PySem.Str.ofString (toString i)) := ⟨by rw [← lenL]; exact (num_len h).2, sh_string _⟩
/-! ## Things: is it a number within the limit, how is it shown -/
def lim : Int := 10000000000000000000000000000000000000000
def limB : V → V → Bool
  | .int n, .int d => decide ((if n < 0 then -n else n) ≤ lim) && decide (d ≤ lim)
  | _, _ => false
def numB (x y : V) : Bool := ratB x y && limB x y
inductive Thing (H : Hp) : V → Bool → Prop
  | other {v : V} {t : String} (h : TyN H v t) (n : t ≠ "tuple") (l : ∀ x, v = .str x → x.length ≤ sizeLine) : Thing H v false
  | len {a : Addr} {xs : List V} (e : H a = some (.tup xs)) (n : xs.length ≠ 2) : Thing H (.ref a) false
  | pair {a : Addr} {x y : V} {tx ty : String} (e : H a = some (.tup [x, y])) (hx : TyN H x tx) (hy : TyN H y ty) : Thing H (.ref a) (numB x y)
theorem Thing.same {H H' : Hp} {v : V} {b : Bool} (h : Thing H v b) (s : Same H H') : Thing H' v b := by
  cases h with
  | other h n l => exact .other (h.same s) n l
  | len e n => exact .len (s _ _ e) n
  | pair e hx hy => exact .pair (s _ _ e) (hx.same s) (hy.same s)
theorem Thing.ty {H : Hp} {v : V} {b : Bool} (h : Thing H v b) : ∃ t, TyN H v t ∧ ∀ x, v = .str x → x.length ≤ sizeLine := by
  cases h with
  | other h n l => exact ⟨_, h, l⟩
  | len e n => exact ⟨_, .tup e, fun x z => nomatch z⟩
  | pair e hx hy => exact ⟨_, .tup e, fun x z => nomatch z⟩
/-- whatever is done to the tape at t -/
def Thg (K : PySem.W.Frag) (t : Addr) (H : Hp) (v : V) : Prop := ∃ (b : Bool) (z : Str), ∀ H', SameB t H H' → Thing H' v b ∧ Shw K H' v z
theorem thg_flat {K : PySem.W.Frag} {t : Addr} {H : Hp} {v : V} {d : PyData} {s : String} (h : Fl v d s) (n : s ≠ "tuple") (l : ∀ x, v = .str x → x.length ≤ sizeLine) : Thg K t H v :=
  ⟨false, d.shown, fun H' _ => ⟨.other (h.ty H') n l, .data (h.dp K H') h.sh h.nd (by rw [h.dz]; decide) (Nat.le_trans h.ln (by decide))⟩⟩
/-- the items of a display -/
inductive Fls : List V → List PyData → Prop
  | nil : Fls [] []
  | cons {v : V} {d : PyData} {s : String} {vs : List V} {ds : List PyData} (h : Fl v d s) (r : Fls vs ds) : Fls (v :: vs) (d :: ds)
theorem Fls.dps {K : PySem.W.Frag} {H : Hp} : ∀ {vs : List V} {ds : List PyData}, Fls vs ds → DpAll K H vs ds
  | _, _, .nil => .nil
  | _, _, .cons h r => .cons (h.dp K H) r.dps
theorem Fls.facts : ∀ {vs : List V} {ds : List PyData}, Fls vs ds → PyData.showableAll ds = true ∧ PyData.hasDictAll ds = false ∧ PyData.depthAll ds = 0 ∧ ((PyData.shownAll ds).map (·.length)).sum ≤ 20000 * ds.length ∧ (PyData.shownAll ds).length = ds.length ∧ ds.length = vs.length
  | _, _, .nil => ⟨rfl, rfl, rfl, by simp [PyData.shownAll], rfl, rfl⟩
  | _, _, .cons (d := d) (ds := ds) h r => by
    obtain ⟨h1, h2, h3, h4, h5, h6⟩ := r.facts
    refine ⟨?_, ?_, ?_, ?_, ?_, ?_⟩
    · simp [PyData.showableAll, h.sh, h1]
    · simp [PyData.hasDictAll, h.nd, h2]
    · simp [PyData.depthAll, h.dz, h3]
    · simp only [PyData.shownAll, List.map_cons, List.sum_cons, List.length_cons]
      have := h.ln
      omega
    · simp [PyData.shownAll, h5]
    · simp [h6]
theorem shw_tup {K : PySem.W.Frag} {H : Hp} {a : Addr} {vs : List V} {ds : List PyData} (e : H a = some (.tup vs)) (h : Fls vs ds) (l : vs.length ≤ 100) : Shw K H (.ref a) (PyData.tuple ds).shown := by
  obtain ⟨h1, h2, h3, h4, h5, h6⟩ := h.facts
  refine .data (.tup (SqT.of e) h.dps) (by simpa [PyData.showable] using h1) (by simpa [PyData.hasDict] using h2) (by simp [PyData.depth, h3]) ?_
  have := tupleText_len_le (PyData.shownAll ds)
  have s : (3000000 : Nat) ≤ sizeLine := by decide
  simp only [PyData.shown]
  omega
theorem shw_lst {K : PySem.W.Frag} {H : Hp} {a : Addr} {vs : List V} {ds : List PyData} (e : H a = some (.lst vs)) (h : Fls vs ds) (l : vs.length ≤ 100) : Shw K H (.ref a) (PyData.list ds).shown := by
  obtain ⟨h1, h2, h3, h4, h5, h6⟩ := h.facts
  refine .data (.lst (SqL.of e) h.dps) (by simpa [PyData.showable] using h1) (by simpa [PyData.hasDict] using h2) (by simp [PyData.depth, h3]) ?_
  have := listText_len_le (PyData.shownAll ds)
  have s : (3000000 : Nat) ≤ sizeLine := by decide
  simp only [PyData.shown]
  omega
theorem thg_tup {K : PySem.W.Frag} {t a : Addr} {H : Hp} {vs : List V} {ds : List PyData} (n : a ≠ t) (e : H a = some (.tup vs)) (h : Fls vs ds) (l : vs.length ≤ 100) : Thg K t H (.ref a) := by
  by_cases z : vs.length = 2
  · match vs, h, z with
    | [x, y], .cons h1 (.cons h2 .nil), _ => exact ⟨numB x y, _, fun H' s => ⟨.pair (s _ _ n e) (h1.ty H') (h2.ty H'), shw_tup (s _ _ n e) (.cons h1 (.cons h2 .nil)) (by show 2 ≤ 100; decide)⟩⟩
  · exact ⟨false, _, fun H' s => ⟨.len (s _ _ n e) z, shw_tup (s _ _ n e) h l⟩⟩
theorem thg_lst {K : PySem.W.Frag} {t a : Addr} {H : Hp} {vs : List V} {ds : List PyData} (n : a ≠ t) (e : H a = some (.lst vs)) (h : Fls vs ds) (l : vs.length ≤ 100) : Thg K t H (.ref a) :=
  ⟨false, _, fun H' s => ⟨.other (.lst (s _ _ n e)) (by decide) (fun x z => nomatch z), shw_lst (s _ _ n e) h l⟩⟩
theorem thg_dct {K : PySem.W.Frag} {t a : Addr} {H : Hp} (n : a ≠ t) (e : H a = some (.dK [])) : Thg K t H (.ref a) :=
  ⟨false, _, fun H' s => ⟨.other (.dct (s _ _ n e)) (by decide) (fun x z => nomatch z), .empty (s _ _ n e)⟩⟩
theorem Thg.sameB {K : PySem.W.Frag} {t : Addr} {H H' : Hp} {v : V} (h : Thg K t H v) (s : SameB t H H') : Thg K t H' v := by
  obtain ⟨b, z, k⟩ := h
  exact ⟨b, z, fun H2 s2 => k H2 (s.trans s2)⟩
theorem thg_str {K : PySem.W.Frag} {t : Addr} {H : Hp} {n : Nat} {x : Str} (h : Sh n x) (l : n ≤ 1930) : Thg K t H (.str x) :=
  thg_flat (fl_str h l) (by decide) fun y e => by
    injection e with e
    subst e
    rw [lenL]
    exact Nat.le_trans h.len (Nat.le_trans l (by decide))
end Lc
namespace Lc
open PySem PySem.Spec PyProof.Rows L2
theorem ratB_ints {x y : V} (h : ratB x y = true) : ∃ n d : Int, x = .int n ∧ y = .int d ∧ 0 < d ∧ gd n d = 1 := by
  cases x with
  | int n =>
    cases y with
    | int d =>
      have h' : (decide (0 < d) && decide (gd n d = 1)) = true := h
      obtain ⟨h1, h2⟩ := Bool.and_eq_true_iff.mp h'
      exact ⟨n, d, rfl, rfl, of_decide_eq_true h1, of_decide_eq_true h2⟩
    | _ => cases h
  | _ => cases y <;> cases h
end Lc
namespace Lc
open PySem PySem.Spec PyProof.Rows L2
/-! ## A word behind an expression: what follows is shown once -/
def tMid (te : TE) : TE := fun σ H Q => ∃ M : V → Hp → Prop, te σ H M ∧ ∀ v H', M v H' → Q v H'
theorem pe_mid {X : Cx} {e : Expr} {te : TE} (h : PE X e te) : PE X e (tMid te) := by
  refine ⟨fun pins s σ H Q I hq => ?_⟩
  obtain ⟨M, h1, h2⟩ := hq
  exact thn (h.run pins s σ H M I h1) fun u s1 ⟨v, H1, I1, r, q⟩ => ⟨v, H1, I1, r, h2 v H1 q⟩
end Lc
set_option Elab.async false
set_option linter.all false
set_option maxRecDepth 100000
set_option maxHeartbeats 4000000
namespace Lc
open PySem PySem.Spec PyProof.Rows L2
/-! ## enumerate(v), v whatever begins; for .., .. in enumerate(tuple) -/
def itB (h : Heap) (o : Obj) : Heap := (h.push o).push { cls := .type "enumerate", data := .fields #[.none, .bool false, .ref h.objs.size, rawInt 0, .none, .none] }
theorem meets_enum1 {v : Value} {o : Obj} {H : Heap → Prop} (B : Begins v o H) :
    Meets (Builtin.«enumerate.__new__» ⟨[.type "enumerate", v], []⟩) (fun _ R s => H s.heap ∧ R (.ok (.ret (.ref (s.heap.push o).objs.size))) { s with heap := itB s.heap o }) :=
  .of_wp fun prog w A R s h => by
    obtain ⟨hp, g, d, tk, os⟩ := s
    obtain ⟨h1, h⟩ := h
    have hsub := sub_enumerate
    have it1 : ∀ {A' : Around} {E : Value → Shared → Prop} {Q : Value → Shared → Prop}, Q (.ref hp.objs.size) ⟨hp.push o, g, d, tk, os⟩ → wpAny (model prog w) A' (pyIter v) Q E ⟨hp, g, d, tk, os⟩ := fun q => B.iter prog w _ _ ⟨hp, g, d, tk, os⟩ _ h1 q
    wp_walk using it1
    refine wpAny_stack_any fun st => wpAny_pure ?_
    split
    · rename_i c _ _ _ _ _
      cases (c == Value.type "enumerate") <;> (wp_walk using it1; exact ⟨_, rfl, h⟩)
    · wp_walk using it1
      exact ⟨_, rfl, h⟩
theorem call_enum1 {prog : Program} {w : World} {A : Around} {E : Value → Shared → Prop} {s : Shared} {v : Value} {o : Obj} {H : Heap → Prop} {Q : Value → Shared → Prop} (B : Begins v o H) (h1 : H s.heap)
    (h : IsEnum (itB s.heap o) (s.heap.objs.size + 1) s.heap.objs.size 0 .none → (itB s.heap o).get? s.heap.objs.size = some o → (∀ b u, s.heap.get? b = some u → (itB s.heap o).get? b = some u) → Q (.ref (s.heap.objs.size + 1)) { s with heap := itB s.heap o }) :
    wpAny (model prog w) A (call (.type "enumerate") [v]) Q E s := by
  have sz : (s.heap.push o).objs.size = s.heap.objs.size + 1 := Heap.size_push ..
  have en : IsEnum (itB s.heap o) (s.heap.objs.size + 1) s.heap.objs.size 0 .none := by
    have z := Heap.get?_push_size (s.heap.push o) (o := { cls := .type "enumerate", data := .fields #[.none, .bool false, .ref s.heap.objs.size, rawInt 0, .none, .none] }) rfl
    rw [sz] at z
    exact z
  refine callType_new F.called_enumerate (by decide) (F.typeCall_enumerate_1 _) (F.newCall_enumerate_1 _) (fun obj => F.args_object_init_2 obj _) F.entry_enumerate_new (meets_enum1 B) ⟨h1, ?_⟩
  show _ ∧ _
  rw [sz]
  exact ⟨⟨_, en, rfl⟩, h en (Heap.get?_push_of_some _ (Heap.get?_push_size _ B.free)) fun b u e => Heap.get?_push_of_some _ (Heap.get?_push_of_some _ e)⟩
/-- the tuple at a, each item in a new pair with its number -/
def IteT (K : PySem.W.Frag) (a : Addr) : It where
  go := fun i H => ∃ (xs : List V) (x : V), SqT K H a xs ∧ xs[i]? = some x
  yld := fun i H v H' => ∃ (q : Addr) (x : V), v = .ref q ∧ H q = none ∧ H' = upd H q (.tup [.int (i : Nat), x]) ∧ ∀ xs, SqT K H a xs → xs[i]? = some x
  stop := fun i H => ∃ xs : List V, SqT K H a xs ∧ xs.length = i
structure EnT (e it a : Addr) (i : Nat) (h : Heap) : Prop where
  en : ∃ old, IsEnum h e it ((i : Nat) : Int) old
  ti : h.IsTupleIter it a i
  n1 : e ≠ it
  n2 : a ≠ it
  n3 : a ≠ e
theorem turn_enT {P : Program} {w : World} {K : PySem.W.Frag} {elts : List Expr} {kk : Nat} {tpos : Pos} (a e it : Addr) : Turn P w K (.Tuple elts kk tpos) (IteT K a) [e, it] e (EnT e it a) where
  mem := List.mem_cons_self
  obj := fun i h st b hb => by
    rcases List.mem_cons.mp hb with rfl | hb
    · obtain ⟨old, he⟩ := st.en
      exact ⟨_, he, fun v q => nomatch q⟩
    · obtain rfl := List.mem_singleton.mp hb
      obtain ⟨o, ho, _, hd⟩ := st.ti
      exact ⟨o, ho, fun v q => by rw [hd] at q; cases q⟩
  keep := fun i h h' st k => by
    obtain ⟨old, he⟩ := st.en
    obtain ⟨o, ho, r⟩ := st.ti
    exact ⟨⟨old, k e List.mem_cons_self _ he⟩, ⟨o, k it (by simp) o ho, r⟩, st.n1, st.n2, st.n3⟩
  item := by
    intro X hP hw hK hc i pins s σ H E I hf st hg
    subst hP hw hK
    obtain ⟨xs, x, hq, hx⟩ := hg
    obtain ⟨its, rv, tp, _⟩ := I.tuple hq
    obtain ⟨u, hu, ru⟩ := rv.get hx
    obtain ⟨old, he⟩ := st.en
    have hu' : its.toArray[i]? = some u := by simpa using hu
    have li : i < its.toArray.size := (Array.getElem?_eq_some_iff.mp hu').1
    refine wpAny_pyNext_enum_itemD (Draws.tuple (A := X.A.in1) (I.ok.hd hc) it a st.n2 its.toArray) he ⟨st.ti, tp⟩ li st.n1 (by simp [st.n1, Ne.symm st.n3]) fun y h' tk hy ho hs hT hz hk => ?_
    obtain rfl : u = y := Option.some.inj (hu'.symm.trans hy)
    have le : e < s.heap.objs.size := Heap.lt_size he
    have lt : it < s.heap.objs.size := by obtain ⟨_, q, _⟩ := st.ti; exact Heap.lt_size q
    refine ⟨_, rfl, wpAny_letOwnedTupleGo_enum (s := { s with heap := h', toks := tk + 1 }) ho fun h2 he2 sb => ?_⟩
    have pair : h2.get? s.heap.objs.size = some { cls := .type "tuple", data := .seq #[.int i tk, u] } := (sb.2 _ (Nat.ne_of_gt le)).trans hT
    have I2 : Inv X pins σ (upd H s.heap.objs.size (.tup [.int (i : Nat), x])) { s with heap := h2, toks := tk + 1 } := by
      refine I.turnedNew (ch := [e, it]) (fun b ob hb q => ?_) hf (Nat.le_refl _) ⟨by show 2 ≤ sizeLine; decide, [.int i tk, u], .cons ⟨_, rfl⟩ (.cons ru .nil), ⟨_, pair, rfl, _, rfl⟩⟩
      have nb : b ≠ e ∧ b ≠ it := by simpa using hb
      exact (sb.2 b nb.1).trans (hk b ob nb.1 nb.2 q)
    refine ⟨.ref s.heap.objs.size, _, I2, rfl, ⟨_, x, rfl, I.hok.fresh (Nat.le_refl _), rfl, fun ys hy => by rw [I.tuple_inj hy hq]; exact hx⟩, ⟨⟨u, ?_⟩, ?_, st.n1, st.n2, st.n3⟩, fun b hb => ?_⟩
    · rw [show ((i + 1 : Nat) : Int) = (i : Int) + 1 by omega]
      exact he2
    · obtain ⟨o, q, r⟩ := hs.1
      exact ⟨o, (sb.2 it (Ne.symm st.n1)).trans q, r⟩
    · have lb : b < s.heap.objs.size := by
        rcases List.mem_cons.mp hb with rfl | hb
        · exact le
        · rw [List.mem_singleton.mp hb]; exact lt
      rw [upd_ne (Nat.ne_of_lt lb)]
      exact (hf b hb).1
  done := by
    intro X hP hw hK hc i pins s σ H E I hf st hg
    subst hP hw hK
    obtain ⟨xs, hq, hx⟩ := hg
    obtain ⟨its, rv, tp, _⟩ := I.tuple hq
    obtain ⟨old, he⟩ := st.en
    have hl : i = its.toArray.size := by rw [List.size_toArray, ← rv.length]; exact hx.symm
    obtain ⟨f0, f1, _, f3, f4, f5⟩ := hf it (by simp)
    subst hl
    exact wpAny_pyNext_enum_endD (Draws.tuple (A := X.A.in1) (I.ok.hd hc) it a st.n2 its.toArray) he ⟨st.ti, tp⟩ fun h' eb => ⟨rfl, I.turned (t' := s.toks) (fun b o hb q => eb b o hb q) f0 f1 f3 f4 f5⟩
  self := fun A i s Q E st h => by
    obtain ⟨old, he⟩ := st.en
    exact wpAny_pyIter_enum he h
def iEnT (K : PySem.W.Frag) (ta : TA) : TI := fun σ H R => ta σ H fun vs H1 => ∃ a xs, vs = [.ref a] ∧ SqT K H1 a xs ∧ R (IteT K a) H1
theorem pi_enT {X : Cx} {e : Expr} {ta : TA} {p pos tpos : Pos} {elts : List Expr} {kk : Nat} (hg : Gl X "enumerate") (hm : X.mg "enumerate" = none) (ha : PA X [e] ta) (hs : starEach [e] X.env = [(false, eval e X.env)] := by rfl) :
    PI X (.Tuple elts kk tpos) (.Call (.Name "enumerate" p) [e] [] pos) (iEnT X.K ta) := by
  refine ⟨fun pins s σ H R I h => Call_ (ld_blt I hg hm boot_enumerate (PyProof.Rows.callWith_type1 (thn (ha.run pos pins s σ H _ I h) fun us s1 ⟨vs, H1, I1, r1, q1⟩ => ?_) hs rfl))⟩
  obtain ⟨a, xs, rfl, hq, q⟩ := q1
  obtain ⟨u, rfl, ru⟩ := vals1 r1
  cases ru
  obtain ⟨its, rv, tp, _⟩ := I1.tuple hq
  have la : a < s1.heap.objs.size := by obtain ⟨_, z, _⟩ := tp; exact Heap.lt_size z
  refine call_enum1 (begins_tuple a its.toArray) tp fun en ito kp => wpAny_pyIter_enum en ?_
  refine ⟨_, [s1.heap.objs.size + 1, s1.heap.objs.size], _, _, H1, rfl, I1.kept (t' := s1.toks) kp, turn_enT a (s1.heap.objs.size + 1) s1.heap.objs.size, ⟨⟨.none, en⟩, ⟨_, ito, rfl, rfl⟩, Nat.succ_ne_self _, Nat.ne_of_lt la, Nat.ne_of_lt (Nat.lt_succ_of_lt la)⟩, fun b hb => ?_, q⟩
  have le : s1.heap.objs.size ≤ b := by
    rcases List.mem_cons.mp hb with rfl | hb
    · exact Nat.le_add_right _ _
    · rw [List.mem_singleton.mp hb]; exact Nat.le_refl _
  exact I1.fpOk le (I1.hok.fresh le)
theorem walk_enT {K : PySem.W.Frag} {a : Addr} {xs : List V} : Walk (IteT K a) xs.length (fun H => SqT K H a xs) (YPair (fun i => some (.int (i : Nat))) (fun i => xs[i]?)) := by
  refine ⟨fun i _ hi q => ⟨xs, xs[i], q, by simp [hi]⟩, fun _ q => ⟨xs, q, rfl⟩, fun i H v H' _ q y => ?_⟩
  obtain ⟨c, x, h1, h2, h3, h4⟩ := y
  exact ⟨c, .int (i : Nat), x, h1, h2, h3, rfl, h4 xs q⟩
end Lc
set_option Elab.async false
set_option linter.all false
set_option maxRecDepth 100000
set_option maxHeartbeats 4000000
namespace Lc
open PySem PySem.Spec PyProof.Rows L2
/-! ## Deep data that stands in the abstract heap -/
mutual
inductive Dh (H : Hp) : V → PyData → Prop
  | non : Dh H .non .none
  | bl (b : Bool) : Dh H (.bl b) (.bool b)
  | int (i : Int) : Dh H (.int i) (.int i)
  | str (x : Str) : Dh H (.str x) (.str x)
  | tup {a : Addr} {xs : List V} {ds : List PyData} (e : H a = some (.tup xs)) (h : DhAll H xs ds) : Dh H (.ref a) (.tuple ds)
  | lst {a : Addr} {xs : List V} {ds : List PyData} (e : H a = some (.lst xs)) (h : DhAll H xs ds) : Dh H (.ref a) (.list ds)
  | dct {a : Addr} (e : H a = some (.dK [])) : Dh H (.ref a) (.dict [])
inductive DhAll (H : Hp) : List V → List PyData → Prop
  | nil : DhAll H [] []
  | cons {v : V} {vs : List V} {d : PyData} {ds : List PyData} (h : Dh H v d) (r : DhAll H vs ds) : DhAll H (v :: vs) (d :: ds)
end
mutual
theorem Dh.same {H H' : Hp} (s : Same H H') : ∀ {v : V} {d : PyData}, Dh H v d → Dh H' v d
  | _, _, .non => .non
  | _, _, .bl b => .bl b
  | _, _, .int i => .int i
  | _, _, .str x => .str x
  | _, _, .tup e h => .tup (s _ _ e) (DhAll.same s h)
  | _, _, .lst e h => .lst (s _ _ e) (DhAll.same s h)
  | _, _, .dct e => .dct (s _ _ e)
theorem DhAll.same {H H' : Hp} (s : Same H H') : ∀ {vs : List V} {ds : List PyData}, DhAll H vs ds → DhAll H' vs ds
  | _, _, .nil => .nil
  | _, _, .cons h r => .cons (Dh.same s h) (DhAll.same s r)
end
def tyD : PyData → String
  | .none => "NoneType"
  | .bool _ => "bool"
  | .int _ => "int"
  | .str _ => "str"
  | .tuple _ => "tuple"
  | .list _ => "list"
  | .dict _ => "dict"
theorem Dh.ty {H : Hp} {v : V} {d : PyData} (h : Dh H v d) : TyN H v (tyD d) := by
  cases h with
  | non => exact .non
  | bl b => exact .bl b
  | int i => exact .int i
  | str x => exact .str x
  | tup e _ => exact .tup e
  | lst e _ => exact .lst e
  | dct e => exact .dct e
theorem DhAll.len {H : Hp} {vs : List V} {ds : List PyData} (h : DhAll H vs ds) : vs.length = ds.length := by
  match h with
  | .nil => rfl
  | .cons _ r => rw [List.length_cons, List.length_cons, DhAll.len r]
theorem DhAll.get {H : Hp} : ∀ {vs : List V} {ds : List PyData}, DhAll H vs ds → ∀ (i : Nat) (v : V), vs[i]? = some v → ∃ d, ds[i]? = some d ∧ Dh H v d
  | _, _, .nil, i, v, e => by simp at e
  | _, _, .cons h r, 0, v, e => by
    obtain rfl := Option.some.inj e
    exact ⟨_, rfl, h⟩
  | _, _, .cons h r, i + 1, v, e => by
    obtain ⟨d, e1, e2⟩ := DhAll.get r i v (by simpa using e)
    exact ⟨d, by simpa using e1, e2⟩
theorem DhAll.append {H : Hp} : ∀ {vs : List V} {ds : List PyData} {us : List V} {es : List PyData}, DhAll H vs ds → DhAll H us es → DhAll H (vs ++ us) (ds ++ es)
  | _, _, _, _, .nil, r => r
  | _, _, _, _, .cons h t, r => .cons h (DhAll.append t r)
mutual
theorem Dh.dp {K : PySem.W.Frag} {H : Hp} : ∀ {v : V} {d : PyData}, Dh H v d → d.hasDict = false → Dp K H v d
  | _, _, .non, _ => .non
  | _, _, .bl b, _ => .bl b
  | _, _, .int i, _ => .int i
  | _, _, .str x, _ => .str x
  | _, _, .tup e h, n => .tup (SqT.of e) (DhAll.dp h (by simpa [PyData.hasDict] using n))
  | _, _, .lst e h, n => .lst (SqL.of e) (DhAll.dp h (by simpa [PyData.hasDict] using n))
  | _, _, .dct e, n => by simp [PyData.hasDict] at n
theorem DhAll.dp {K : PySem.W.Frag} {H : Hp} : ∀ {vs : List V} {ds : List PyData}, DhAll H vs ds → PyData.hasDictAll ds = false → DpAll K H vs ds
  | _, _, .nil, _ => .nil
  | _, _, .cons h r, n => by
    rw [PyData.hasDictAll, Bool.or_eq_false_iff] at n
    exact .cons (Dh.dp h n.1) (DhAll.dp r n.2)
end
theorem Dh.shw {K : PySem.W.Frag} {H : Hp} {v : V} {d : PyData} (h : Dh H v d) (h1 : d.showable = true) (h2 : d.hasDict = false) (h3 : d.depth ≤ 60) (h4 : d.shown.length ≤ sizeLine) : Shw K H v d.shown := .data (h.dp h2) h1 h2 h3 h4
/-! ## How large it is when it is shown -/
structure Tm (k n : Nat) (d : PyData) : Prop where
  sh : d.showable = true
  nd : d.hasDict = false
  dz : d.depth ≤ k
  ln : d.shown.length ≤ n
theorem Tm.mono {k n k' n' : Nat} {d : PyData} (h : Tm k n d) (a : k ≤ k') (b : n ≤ n') : Tm k' n' d := ⟨h.sh, h.nd, Nat.le_trans h.dz a, Nat.le_trans h.ln b⟩
theorem tm_fl {v : V} {d : PyData} {s : String} (h : Fl v d s) : Tm 0 20000 d := ⟨h.sh, h.nd, Nat.le_of_eq h.dz, h.ln⟩
theorem tm_all {k n : Nat} : ∀ {ds : List PyData}, (∀ d ∈ ds, Tm k n d) → PyData.showableAll ds = true ∧ PyData.hasDictAll ds = false ∧ PyData.depthAll ds ≤ k ∧ ((PyData.shownAll ds).map (·.length)).sum ≤ n * ds.length ∧ (PyData.shownAll ds).length = ds.length
  | [], _ => ⟨rfl, rfl, Nat.zero_le _, by simp [PyData.shownAll], rfl⟩
  | d :: ds, h => by
    obtain ⟨h1, h2, h3, h4, h5⟩ := tm_all (ds := ds) fun x hx => h x (List.mem_cons_of_mem _ hx)
    have hd := h d List.mem_cons_self
    refine ⟨?_, ?_, ?_, ?_, ?_⟩
    · simp [PyData.showableAll, hd.sh, h1]
    · simp [PyData.hasDictAll, hd.nd, h2]
    · simp only [PyData.depthAll]
      have := hd.dz
      omega
    · simp only [PyData.shownAll, List.map_cons, List.sum_cons, List.length_cons]
      have := hd.ln
      rw [Nat.mul_succ]
      omega
    · simp [PyData.shownAll, h5]
theorem tm_tup {k n : Nat} {ds : List PyData} (h : ∀ d ∈ ds, Tm k n d) : Tm (k + 1) (n * ds.length + 2 * ds.length + 4) (.tuple ds) := by
  obtain ⟨h1, h2, h3, h4, h5⟩ := tm_all h
  refine ⟨by simpa [PyData.showable] using h1, by simpa [PyData.hasDict] using h2, ?_, ?_⟩
  · simp only [PyData.depth]
    omega
  · have := tupleText_len_le (PyData.shownAll ds)
    simp only [PyData.shown]
    omega
theorem tm_lst {k n : Nat} {ds : List PyData} (h : ∀ d ∈ ds, Tm k n d) : Tm (k + 1) (n * ds.length + 2 * ds.length + 4) (.list ds) := by
  obtain ⟨h1, h2, h3, h4, h5⟩ := tm_all h
  refine ⟨by simpa [PyData.showable] using h1, by simpa [PyData.hasDict] using h2, ?_, ?_⟩
  · simp only [PyData.depth]
    omega
  · have := listText_len_le (PyData.shownAll ds)
    simp only [PyData.shown]
    omega
theorem Dh.shwT {K : PySem.W.Frag} {H : Hp} {v : V} {d : PyData} {k n : Nat} (h : Dh H v d) (t : Tm k n d) (a : k ≤ 60) (b : n ≤ 3000000) : Shw K H v d.shown := h.shw t.sh t.nd (Nat.le_trans t.dz a) (Nat.le_trans t.ln (Nat.le_trans b (by decide)))
end Lc
set_option Elab.async false
set_option linter.all false
set_option maxRecDepth 100000
set_option maxHeartbeats 4000000
namespace Lc
open PySem PySem.Spec PyProof.Rows L2
/-! ## (x, y) * 0, (x, y) * 1 -/
theorem tuple_mul1 (l : Addr) (items : Array Value) (n : Nat) (dd : Option Addr) (sl : Array (Option Value)) (u : Tok) :
    Meets (Builtin.«tuple.__mul__» ⟨[.ref l, .int 1 u], []⟩) (fun _ R s => s.heap.get? l = some { cls := .type "tuple", dict := dd, data := .seq items n, slots := sl } ∧ R (.ok (.ret (Value.ref l))) s) :=
  .of_wp fun prog w A R s h => by
    obtain ⟨hp, g, d, tk, os⟩ := s
    obtain ⟨hl, h⟩ := h
    have f1 := AutoSeq1.idx_int
    have c0 : (decide ((1 : Int) < -(2 ^ 63)) || decide ((1 : Int) ≥ 2 ^ 63)) = false := by decide
    have c1 : (items.isEmpty || (1 : Int) == 1) = true := by simp
    wp_walk using wpAny_loadPart' hl
    repeat (first
      | (refine wpAny_ite_false (decide_eq_false (by rw [c0]; exact Bool.false_ne_true)) ?_; wp_walk using wpAny_loadPart' hl)
      | (refine wpAny_ite_true (decide_eq_true c1) ?_; wp_walk using wpAny_loadPart' hl))
    exact ⟨_, rfl, h⟩
theorem tuple_mul0 (l : Addr) (items : Array Value) (n : Nat) (dd : Option Addr) (sl : Array (Option Value)) (u : Tok) (hne : items.isEmpty = false) :
    Meets (Builtin.«tuple.__mul__» ⟨[.ref l, .int 0 u], []⟩) (fun _ R s => s.heap.get? l = some { cls := .type "tuple", dict := dd, data := .seq items n, slots := sl } ∧
      R (.ok (.ret (Value.ref s.heap.objs.size))) { s with heap := s.heap.push { cls := Value.type "tuple", data := Data.seq #[] } }) :=
  .of_wp fun prog w A R s h => by
    obtain ⟨hp, g, d, tk, os⟩ := s
    obtain ⟨hl, h⟩ := h
    have f1 := AutoSeq1.idx_int
    have c0 : (decide ((0 : Int) < -(2 ^ 63)) || decide ((0 : Int) ≥ 2 ^ 63)) = false := by decide
    have c1 : (items.isEmpty || (0 : Int) == 1) = false := by rw [hne]; rfl
    have c2 : (decide ((0 : Int) ≤ 0) || items.isEmpty) = true := by simp
    wp_walk using wpAny_loadPart' hl
    repeat (first
      | (refine wpAny_ite_false (decide_eq_false (by rw [c0]; exact Bool.false_ne_true)) ?_; wp_walk using wpAny_loadPart' hl)
      | (refine wpAny_ite_false (decide_eq_false (by rw [c1]; exact Bool.false_ne_true)) ?_; wp_walk using wpAny_loadPart' hl)
      | (refine wpAny_ite_true (decide_eq_true c2) ?_; wp_walk using wpAny_loadPart' hl))
    exact ⟨_, rfl, h⟩
def rRep01 (K : PySem.W.Frag) : R2 := fun x y H Q => ∃ l k xs, x = .ref l ∧ y = .int k ∧ SqT K H l xs ∧ xs ≠ [] ∧ ((k = 1 ∧ Q (.ref l) H) ∨ (k = 0 ∧ ∀ p, H p = none → Q (.ref p) (upd H p (.tup []))))
section
variable {X : Cx}
theorem op_rep01 : OpR X (binaryOp .Mult) (rRep01 X.K) := by
  intro pins s σ H x y v u Q I rx ry h
  obtain ⟨l, k, xs, rfl, rfl, hT, hne, h⟩ := h
  cases rx
  obtain ⟨t, rfl⟩ := ry
  obtain ⟨its, r, ⟨⟨cls, dd, data, sl⟩, ho, hc, n, hd⟩, hs⟩ := I.tuple hT
  simp only at hc hd
  subst hc hd
  have hle : its.length = xs.length := r.length.symm
  have hn : its ≠ [] := fun e => hne (by
    rw [e] at hle
    exact List.eq_nil_of_length_eq_zero hle.symm)
  have hi : its.toArray.isEmpty = false := by
    cases its with
    | nil => exact absurd rfl hn
    | cons a b => rfl
  rcases h with ⟨rfl, q⟩ | ⟨rfl, q⟩
  · exact wpAny_binaryOp_repeat_ref (T := "tuple") (U := "int") (by decide) ⟨_, ho, rfl⟩ (fun s' => typeIs_int s' 1 t) noFill_tuple_mul F.fills_int_mul F.slot_int_rmul repeat_tuple F.slot_int_index.lookup
      (call_meets F.slot_int_rmul (typeIs_int s 1 t) F.entry_int_rmul (F.args_int_rmul_2 _ _) (int_rmul_tuple 1 t l its.toArray n dd sl)
        ⟨ho, rfl, ⟨_, ho, rfl⟩, call_meets F.slot_tuple_mul ⟨_, ho, rfl⟩ F.entry_tuple_mul (F.args_tuple_mul_2 _ _) (tuple_mul1 l its.toArray n dd sl t) ⟨ho, .ref l, H, I, rfl, q⟩⟩)
  · refine wpAny_binaryOp_repeat_ref (T := "tuple") (U := "int") (by decide) ⟨_, ho, rfl⟩ (fun s' => typeIs_int s' 0 t) noFill_tuple_mul F.fills_int_mul F.slot_int_rmul repeat_tuple F.slot_int_index.lookup
      (call_meets F.slot_int_rmul (typeIs_int s 0 t) F.entry_int_rmul (F.args_int_rmul_2 _ _) (int_rmul_tuple 0 t l its.toArray n dd sl)
        ⟨ho, rfl, ⟨_, ho, rfl⟩, call_meets F.slot_tuple_mul ⟨_, ho, rfl⟩ F.entry_tuple_mul (F.args_tuple_mul_2 _ _) (tuple_mul0 l its.toArray n dd sl t hi) ⟨ho, ?_⟩⟩)
    refine ⟨.ref s.heap.objs.size, _, I.laid (t' := s.toks) (o := .tup []) (fun b ob q => Heap.get?_push_of_some _ q) (Nat.le_refl _) ?_, rfl, q _ (I.hok.fresh (Nat.le_refl _))⟩
    exact ⟨Nat.zero_le _, [], .nil, IsTup.new _ _⟩
/-! ## What is never reached -/
theorem pss_dead {b : List Stmt} : PSs X b (fun _ _ _ => False) := ⟨fun _ _ _ _ _ _ h => h.elim⟩
theorem pg_dead {e : Expr} : PG X e (fun _ _ _ _ => False) := ⟨fun _ _ _ _ _ _ _ _ _ h => h.elim⟩
/-! ## C(e, ..) in a try -/
def tMakeS (C : Addr) (sp : Sp) (E : L2.St → XK) (t : TA) : TE := fun σ H Q => t σ H fun vs H1 => ∀ x dx, H1 x = none → H1 dx = none → dx ≠ x →
  sp (.ref x :: vs) (upd (upd H1 dx (.own x)) x (.ins C dx [])) (fun v H2 => v = .non ∧ Q (.ref x) H2) (E σ)
theorem pe_makeS {CX : CXT} {k : Nat} {C f : Addr} {fd : FuncData} {ps : List Str} {sp : Sp} {E : L2.St → XK} {x : Str} {p pos : Pos} {e : Expr} {es : List Expr} {t : TA}
    (M : Mk X.K C f) (F : FnOk X.prog X.w X.K X.mg X.base CX k f fd ps sp) (hr : Room (k + 1) X.A) (hg : Gl X x) (hm : X.mg x = some (.ref C)) (hb : Binds X.K fd ps []) (hx : ∀ σ, PassesAt CX X σ (E σ))
    (ha : PA X (e :: es) t) (hdb : (x == ("__debug__" : Str)) = false := by decide) (he : starEach (e :: es) X.env = (false, eval e X.env) :: starEach es X.env := by rfl) (hpl : (backTo pos (starEach es X.env)).any (·.1) = false := by rfl) :
    PE X (.Call (.Name x p) (e :: es) [] pos) (tMakeS C sp E t) := by
  refine ⟨fun pins s0 σ H0 Q I0 h0 => ?_⟩
  refine wpAny_Call_Name_kw (ld_glob I0 hg hm ?_ hdb)
  refine PySem.W.callWith_K (h₀ := X.base) I0.ok.mod.kin M.kp (thn (ha.run pos pins s0 σ H0 _ I0 h0) fun us s ⟨vs, H, I, r, h⟩ => ⟨I.kIn, ?_⟩) he hpl
  have hq := h (s.heap.objs.size + 1) s.heap.objs.size (I.hok.fresh (Nat.le_succ _)) (I.hok.fresh (Nat.le_refl _)) (Nat.ne_of_lt (Nat.lt_succ_self _))
  have I2 := Inv.made (C := C) I
  have r2 : Vals (V.ref (s.heap.objs.size + 1) :: vs) (Value.ref (s.heap.objs.size + 1) :: us) := .cons rfl r
  have hl : (Value.ref (s.heap.objs.size + 1) :: us).length = ps.length := by
    have e := r2.length
    rw [F.len _ _ _ _ hq] at e
    exact e.symm
  refine wpAny_call (make_map (f := f) I.kIn M.makes M.init (beq_iff_eq.mp M.fn) (codeAny_mono (F.run _ X.stack _ _ ⟨Value.ref (s.heap.objs.size + 1) :: us, []⟩ (Value.ref (s.heap.objs.size + 1) :: us) _ _ (E σ) (hr.make C us [])
    (I2.env0.make C us []) (by
      have z := hb _ (Value.ref (s.heap.objs.size + 1) :: us) I2.kIn (by rw [List.append_nil]; exact hl)
      rw [List.append_nil] at z
      exact z) r2 hq) fun r s' hq' => ?_))
  cases r with
  | error e => exact hx σ pins _ _ e s' I2 hq'
  | ok fl =>
    cases fl with
    | ret u =>
      obtain ⟨v, H', I3, rv, ev, q3⟩ := I2.after hq'
      subst ev
      exact ⟨rv, ⟨V.ref (s.heap.objs.size + 1), H', I3, rfl, q3⟩⟩
    | next => exact False.elim hq'
    | brk => exact False.elim hq'
    | cont => exact False.elim hq'
/-! ## len(o), o of an own class -/
structure LenC (K : PySem.W.Frag) (C f : Addr) : Prop where
  at_ : PySem.W.findIn K (.ref C) "__len__" = some (some (.ref f))
  fn : PySem.W.isFn K (.ref f) = true
def rLenI (C : Addr) (sp : Sp) : List V → Hp → VK → Prop := fun xs H Q => ∃ a dx fs, xs = [.ref a] ∧ H a = some (.ins C dx fs) ∧ sp [.ref a] H (fun v H' => ∃ n : Int, v = .int n ∧ 0 ≤ n ∧ n < 2 ^ 63 ∧ Q (.int n) H') E0
theorem call_lenI {k : Nat} {C f : Addr} {fd : FuncData} {ps : List Str} {sp : Sp} (c : LenC X.K C f) (F : FnOk X.prog X.w X.K X.mg X.base CX0 k f fd ps sp) (hr : Room (k + 1) X.A) (hb : Binds X.K fd ps []) : CallR X (.builtin "len") (rLenI C sp) := by
  intro pins s σ H xs us Q I rv h
  obtain ⟨a, dx, fs, rfl, ha, hsp⟩ := h
  obtain ⟨u, rfl, ru⟩ := vals1 rv
  cases ru
  obtain ⟨mA, J, _⟩ := ins_get I.hok ha
  obtain ⟨od, J, _⟩ := J.look
  refine Calls.call_function_entry kind_len plain_len entry_len (args_len1 _) ?_
  unfold Builtin.«len»
  refine wpAny_bind (m := oneArg "len" _) (wpAny_pure ?_)
  refine wpAny_bind (m := callSpecial? (.ref a) (Str.ofString "__len__")) (PySem.W.special_fn I.kIn J c.at_ (beq_iff_eq.mp c.fn) ?_)
  have e0 : Env0 X.prog X.w X.K X.mg X.base X.A.in1 X.stack s H := by
    have e := I.env0
    exact ⟨e.frames, e.mod, e.bs, e.bsz, e.funs, e.frf, e.hok, e.bare⟩
  have hl := F.len _ _ _ _ hsp
  have r2 : Vals [V.ref a] [Value.ref a] := .cons rfl .nil
  refine wpAny_call (codeAny_mono (F.run X.A.in1 X.stack s H ⟨[.ref a], []⟩ [.ref a] [.ref a] _ _ hr.in1 e0 (by
    have := hb s [.ref a] I.kIn (by simpa using hl)
    simpa using this) r2 hsp) fun r s' hq => ?_)
  cases r with
  | error e => exact hq.elim
  | ok fl =>
    cases fl with
    | ret u =>
      obtain ⟨v, H', I3, rv, n, rfl, h0, h1, q3⟩ := I.after hq
      obtain ⟨t, rfl⟩ := rv
      refine wpAny_bind (wpAny_holding (wpAny_pure ?_))
      refine wpAny_bind (wpAny_letGo ?_)
      show wpAny _ _ (if n < 0 then _ else _) _ _ _
      rw [if_neg (by omega)]
      show wpAny _ _ (if n ≥ 2 ^ 63 then _ else _) _ _ _
      rw [if_neg (by omega)]
      exact wpAny_bind (wpAny_mkInt (wpAny_pure ⟨_, rfl, .int n, H', I3.tok _, ⟨_, rfl⟩, q3⟩))
    | next => exact False.elim hq
    | brk => exact False.elim hq
    | cont => exact False.elim hq
end
end Lc
set_option Elab.async false
set_option linter.all false
set_option maxRecDepth 100000
set_option maxHeartbeats 4000000
namespace Lc
open PySem PySem.Spec PyProof.Rows L2
/-! ## Names that are drawn are names -/
theorem name_of {l : List Nat} {x : Str} (e : x.cps.toList = l) (ne : l ≠ []) (ln : l.length ≤ 12) (h1 : ∀ c r, l = c :: r → inL c = true) (h2 : ∀ c ∈ l, inS c = true) : nameB (.str x) = true := by
  show nameL x.cps.toList = true
  rw [e]
  cases l with
  | nil => exact absurd rfl ne
  | cons c r =>
    show (decide ((c :: r).length ≤ 12) && (inL c && (c :: r).all inS)) = true
    rw [decide_eq_true ln, h1 c r rfl, List.all_eq_true.mpr h2]
    rfl
theorem name_has {x : Str} (h : nameB (.str x) = true) : x.cps.toList ≠ [] ∧ x.cps.toList.length ≤ 12 ∧ (∀ c r, x.cps.toList = c :: r → inL c = true) ∧ ∀ c ∈ x.cps.toList, inS c = true := by
  have h : nameL x.cps.toList = true := h
  generalize x.cps.toList = l at h
  cases l with
  | nil => cases h
  | cons c r =>
    have h : (decide ((c :: r).length ≤ 12) && (inL c && (c :: r).all inS)) = true := h
    obtain ⟨a, h⟩ := Bool.and_eq_true_iff.mp h
    obtain ⟨b, h⟩ := Bool.and_eq_true_iff.mp h
    exact ⟨List.cons_ne_nil _ _, of_decide_eq_true a, fun c' r' e => by cases e; exact b, List.all_eq_true.mp h⟩
theorem app_list (x y : Str) : (x ++ y).cps.toList = x.cps.toList ++ y.cps.toList := by
  show (x.cps ++ y.cps).toList = _
  simp
theorem mul_list (i : Int) : (Txt.mul (PySem.Str.ofString "a") i).cps.toList = List.replicate i.toNat 97 := by
  have ea : (PySem.Str.ofString "a").cps.toList = [97] := by decide +kernel
  have el : ((PySem.Str.ofString "a").length == 0) = false := by decide +kernel
  unfold Txt.mul
  by_cases h1 : i < 1
  · rw [if_pos h1, show i.toNat = 0 by omega]
    rfl
  · rw [if_neg h1, el, Bool.or_false]
    by_cases h2 : (i == 1) = true
    · rw [if_pos h2, ea, show i.toNat = 1 by have := beq_iff_eq.mp h2; omega]
      rfl
    · rw [if_neg h2]
      show ((List.replicate i.toNat (PySem.Str.ofString "a").cps).foldl (· ++ ·) #[]).toList = _
      rw [foldl_app]
      simp only [List.map_replicate, ea]
      generalize i.toNat = n
      induction n with
      | zero => rfl
      | succ n ih =>
        rw [List.replicate_succ, List.replicate_succ]
        simpa using ih
theorem sgn_at {i : Int} (h0 : 0 ≤ i) (h1 : i < 36) : ∃ c, atI signs.cps.toList i = some c ∧ c ∈ signs.cps.toList ∧ inS c = true ∧ (i < 26 → inL c = true) := by
  obtain ⟨n, rfl⟩ : ∃ n : Nat, i = (n : Int) := ⟨i.toNat, by omega⟩
  have h : n < signs.cps.toList.length := by rw [signs_len]; omega
  have m := List.getElem_mem h
  refine ⟨signs.cps.toList[n], atI_nat (List.getElem?_eq_getElem h), m, decide_eq_true m, fun l => ?_⟩
  have all : ∀ k : Fin 26, (signs.cps.toList[k.1]?).all inL = true := by decide +kernel
  have z := all ⟨n, by omega⟩
  rw [List.getElem?_eq_getElem h] at z
  exact z
theorem in97 : inL 97 = true ∧ inS 97 = true := by decide +kernel
theorem name_one {k m : Int} {c : Nat} (h0 : 0 ≤ k) (hm : 0 ≤ m) (l : k + m ≤ 11) (hs : inS c = true) (hl : k = 0 → inL c = true) : nameB (.str (Txt.mul (PySem.Str.ofString "a") k ++ ⟨#[c]⟩ ++ Txt.mul (PySem.Str.ofString "a") m)) = true := by
  have e : (Txt.mul (PySem.Str.ofString "a") k ++ (⟨#[c]⟩ : Str) ++ Txt.mul (PySem.Str.ofString "a") m).cps.toList = List.replicate k.toNat 97 ++ [c] ++ List.replicate m.toNat 97 := by
    rw [app_list, app_list, mul_list, mul_list]
  refine name_of e (by simp) (by simp; omega) (fun c' r' q => ?_) (fun c' q => ?_)
  · by_cases z : k = 0
    · subst z
      have q : c :: List.replicate m.toNat 97 = c' :: r' := q
      cases q
      exact hl rfl
    · obtain ⟨n, hn⟩ : ∃ n, k.toNat = n + 1 := ⟨k.toNat - 1, by omega⟩
      rw [hn, List.replicate_succ] at q
      cases q
      exact in97.1
  · rcases List.mem_append.mp q with q | q
    · rcases List.mem_append.mp q with q | q
      · rw [List.eq_of_mem_replicate q]; exact in97.2
      · rw [List.mem_singleton.mp q]; exact hs
    · rw [List.eq_of_mem_replicate q]; exact in97.2
theorem glued_list : ∀ (cs : List Nat), (Str.join Str.empty (cs.map fun c => (⟨#[c]⟩ : Str))).cps.toList = cs
  | [] => rfl
  | [c] => rfl
  | c :: d :: r => by
    have ih := glued_list (d :: r)
    have e : Str.join Str.empty ((c :: d :: r).map fun c => (⟨#[c]⟩ : Str)) = (⟨#[c]⟩ : Str) ++ Str.empty ++ Str.join Str.empty ((d :: r).map fun c => (⟨#[c]⟩ : Str)) := rfl
    rw [e, app_list, app_list, ih]
    rfl
theorem name_join {cs : List Nat} (ne : cs ≠ []) (ln : cs.length ≤ 12) (h1 : ∀ c r, cs = c :: r → inL c = true) (h2 : ∀ c ∈ cs, inS c = true) : nameB (.str (Txt.join (PySem.Str.ofString "") (cs.map fun c => (⟨#[c]⟩ : Str)))) = true := by
  have e : Txt.join (PySem.Str.ofString "") (cs.map fun c => (⟨#[c]⟩ : Str)) = Str.join Str.empty (cs.map fun c => (⟨#[c]⟩ : Str)) := (StrLaws.glued_eq_join (PySem.Str.ofString "") _).trans rfl
  rw [e]
  exact name_of (glued_list cs) ne ln h1 h2
theorem cut_list (x : Str) : (cutS x none (some 11)).cps.toList = x.cps.toList.take 11 := by
  unfold cutS
  rw [lenL]
  simp [HT.sIx]
theorem name_cut {x : Str} {c : Nat} (h : nameB (.str x) = true) (hc : inS c = true) : nameB (.str (cutS x none (some 11) ++ ⟨#[c]⟩)) = true := by
  obtain ⟨a1, a2, a3, a4⟩ := name_has h
  have e : (cutS x none (some 11) ++ (⟨#[c]⟩ : Str)).cps.toList = x.cps.toList.take 11 ++ [c] := by rw [app_list, cut_list]
  refine name_of e (by simp) (by simp; omega) (fun c' r' q => ?_) (fun c' q => ?_)
  · cases z : x.cps.toList with
    | nil => exact absurd z a1
    | cons d r =>
      rw [z] at q
      have q : d :: (r.take 10 ++ [c]) = c' :: r' := q
      injection q with q1 _
      rw [← q1]
      exact a3 d r z
  · rcases List.mem_append.mp q with q | q
    · exact a4 c' (List.mem_of_mem_take q)
    · rw [List.mem_singleton.mp q]; exact hc
/-! ## Some letter is free -/
theorem pigeon {α : Type} [DecidableEq α] : ∀ {l m : List α}, l.Nodup → (∀ x ∈ l, x ∈ m) → l.length ≤ m.length
  | [], _, _, _ => Nat.zero_le _
  | x :: l, m, n, h => by
    obtain ⟨n1, n2⟩ := List.nodup_cons.mp n
    have hx := h x List.mem_cons_self
    have := pigeon (l := l) (m := m.erase x) n2 fun y hy => (List.mem_erase_of_ne (fun e => n1 (by rw [← e]; exact hy))).mpr (h y (List.mem_cons_of_mem _ hy))
    rw [List.length_erase_of_mem hx] at this
    have := List.length_pos_of_mem hx
    rw [List.length_cons]
    omega
theorem in_strs {z : Str} {ss : List Str} : inV (.str z) (ss.map V.str) = decide (z ∈ ss) := by
  rw [Bool.eq_iff_iff, decide_eq_true_iff]
  unfold inV
  rw [List.any_eq_true]
  constructor
  · rintro ⟨y, hy, e⟩
    obtain ⟨s, hs, rfl⟩ := List.mem_map.mp hy
    have : s = z := by simpa [eqV] using e
    rw [← this]; exact hs
  · intro h
    exact ⟨.str z, List.mem_map.mpr ⟨z, h, rfl⟩, by simp [eqV]⟩
theorem free_letter {x : Str} {ss : List Str} (l : ss.length < 36) (h : ∀ c ∈ signs.cps.toList, cutS x none (some 11) ++ (⟨#[c]⟩ : Str) ∈ ss) : False := by
  have inj : ∀ c d : Nat, cutS x none (some 11) ++ (⟨#[c]⟩ : Str) = cutS x none (some 11) ++ (⟨#[d]⟩ : Str) → c = d := fun c d e => by
    have e := congrArg (fun s : Str => s.cps.toList) e
    simp only [app_list] at e
    have := List.append_cancel_left e
    simpa using this
  have nd : signs.cps.toList.Nodup := by decide +kernel
  have := pigeon (l := signs.cps.toList.map fun c => cutS x none (some 11) ++ (⟨#[c]⟩ : Str)) (m := ss) (List.Pairwise.map _ (fun a b n e => n (inj a b e)) nd) fun y hy => by
    obtain ⟨c, hc, rfl⟩ := List.mem_map.mp hy
    exact h c hc
  rw [List.length_map, signs_len] at this
  omega
end Lc
set_option Elab.async false
set_option linter.all false
set_option maxRecDepth 100000
set_option maxHeartbeats 4000000
namespace Lc
open PySem PySem.Spec PyProof.Rows L2
/-! ## o.m(e, .., k = v, ..) -/
def tMethK (C : Addr) (m : Str) (n l : Nat) (sp : Sp) (gV : List V → List V → List V) (E : XK) (ta : TE) (t tk : TA) : TE := fun σ H Q => ta σ H fun x H1 => ∃ a dx fs, x = .ref a ∧ H1 a = some (.ins C dx fs) ∧ fs.lookup m = none ∧
  t σ H1 fun vs H2 => tk σ H2 fun zs H3 => vs.length = n ∧ zs.length = l ∧ sp (gV (x :: vs) zs) H3 Q E
section
variable {X : Cx} {CX : CXT} {k n : Nat} {f C : Addr} {fd : FuncData} {ps ks : List Str} {sp : Sp} {E : XK} {m : Str} {pos apos : Pos} {e o : Expr} {es : List Expr} {kws : List Keyword} {ta : TE} {t tk : TA} {g : List Value → List Value → List Value} {gV : List V → List V → List V}
theorem pe_methK {pl : Sem Bool} (he : PE X o ta) (c : Cls X.K C) (hm : Meth X.K C m f) (F : FnOk X.prog X.w X.K X.mg X.base CX k f fd ps sp) (hr : Room k X.A) (hb : KBn X.K fd ps (n + 1) ks g gV) (hx : Passes CX X E) (ha : PA X (e :: es) t) (hkw : PK X kws tk)
    (hall : (backToKw pos (keywordEach kws X.env)).all (·.1.isSome) = true := by rfl) (hks : (backToKw pos (keywordEach kws X.env)).filterMap (·.1) = ks := by rfl) (hst : starEach (e :: es) X.env = (false, eval e X.env) :: starEach es X.env := by rfl)
    (hpl : ((backTo pos (starEach (e :: es) X.env)).any (·.1) || (backToKw pos (keywordEach kws X.env)).any (·.1.isNone)) = false := by rfl)
    (ht : eval (.Call (.Attribute o m apos) (e :: es) kws pos) X.env = (do
      let ov ← eval o X.env
      standAt apos.atName
      let (f, first) ← holding [ov] (getMethod ov m pl)
      callWith pos f first (backTo pos (starEach (e :: es) X.env)) (backToKw pos (keywordEach kws X.env))) := by rfl) :
    PE X (.Call (.Attribute o m apos) (e :: es) kws pos) (tMethK C m n ks.length sp gV E ta t tk) := by
  refine ⟨fun pins s σ H Q I h => ?_⟩
  refine PySem.W.methodCall_KW (pl := pl) (thn (he.run pins s σ H _ I h) fun u s1 ⟨x, H1, I1, rx, a, dx, fs, ex, ea, l, q⟩ => ?_) ht
  subst ex
  obtain rfl : u = Value.ref a := rx
  refine getmeth_ok I1 ea c hm l ?_
  refine PySem.W.callWith_KW (first := [.ref a]) (h₀ := X.base) I.ok.mod.kin hm.kp hall (thn (ha.run pos pins s1 σ H1 _ I1 q) fun us s2 ⟨vs, H2, I2, r, q2⟩ => ?_) hpl hst
  refine thn (hkw.run pos pins s2 σ H2 _ I2 q2) fun ws s3 ⟨zs, H3, I3, rz, l1, l2, q3⟩ => ⟨I3.kIn, ?_⟩
  rw [hks]
  exact run_fnN (us := .ref a :: us) (vs := .ref a :: vs) F hr hb hx I3 (.cons rfl r) rz (by rw [List.length_cons, l1]) l2 q3
end
theorem kbN {K : PySem.W.Frag} {x qual : Str} {params : Arguments} {body : List Stmt} {scope : Scope} {kws : List (Str × V)} {f : Addr} {fd : FuncData} {ps ks : List Str} {n : Nat} (F : FunD K x qual params body scope [] kws f fd)
    (h : ∀ (kV doc pm : Value) (an : Option Addr) (cdv ct : Value) (us ws : List Value), us.length = n → ws.length = ks.length → bindArgs (PySem.W.fnOf x qual params body scope .none kV doc pm an cdv ct) ⟨us, ks.zip ws⟩ = pure (ps.zip (us ++ ws))) : KBn K fd ps n ks (fun us ws => us ++ ws) (fun vs zs => vs ++ zs) := by
  obtain ⟨oc, od, dV, kV, doc, pm, an, cdv, ct, osl, rfl, lk, hcd, hD, hK⟩ := F.ex
  rcases hD with ⟨_, rfl⟩ | ⟨e, _⟩
  · exact ⟨fun s us ws X l1 l2 => .of_eq (h kV doc pm an cdv ct us ws l1 l2), fun r1 r2 => r1.append r2⟩
  · exact absurd rfl e
/-! ## Data without lists: it stands as long as the tuples stand -/
def SameT (H H' : Hp) : Prop := ∀ b xs, H b = some (.tup xs) → H' b = some (.tup xs)
theorem SameT.refl (H : Hp) : SameT H H := fun _ _ e => e
theorem SameT.trans {H H1 H2 : Hp} (a : SameT H H1) (b : SameT H1 H2) : SameT H H2 := fun c xs e => b c xs (a c xs e)
theorem SameT.of {H H' : Hp} (s : Same H H') : SameT H H' := fun b xs e => s _ _ e
theorem SameT.b {t : Addr} {H H' : Hp} (T : Tape H t) (s : SameB t H H') : SameT H H' := fun b xs e => s _ _ (T.neT e) e
theorem SameT.at {a : Addr} {H H' : Hp} {o : HO} (h : H a = some o) (n : ∀ xs, o ≠ .tup xs) (s : SameB a H H') : SameT H H' := fun b xs e => s _ _ (fun z => by rw [z, h] at e; exact n xs (Option.some.inj e)) e
theorem SameT.lst {H : Hp} {a : Addr} {ys : List V} {o : HO} (h : H a = some (.lst ys)) : SameT H (upd H a o) := fun b xs e => by rw [upd_ne (ne_of e h nofun)]; exact e
mutual
def noL : PyData → Bool
  | .list _ => false
  | .dict _ => false
  | .tuple ds => noLs ds
  | _ => true
def noLs : List PyData → Bool
  | [] => true
  | d :: ds => noL d && noLs ds
end
mutual
theorem Dh.t {H H' : Hp} (s : SameT H H') : ∀ {v : V} {d : PyData}, Dh H v d → noL d = true → Dh H' v d
  | _, _, .non, _ => .non
  | _, _, .bl b, _ => .bl b
  | _, _, .int i, _ => .int i
  | _, _, .str x, _ => .str x
  | _, _, .tup e h, n => .tup (s _ _ e) (DhAll.t s h (by simpa [noL] using n))
  | _, _, .lst e h, n => by simp [noL] at n
  | _, _, .dct e, n => by simp [noL] at n
theorem DhAll.t {H H' : Hp} (s : SameT H H') : ∀ {vs : List V} {ds : List PyData}, DhAll H vs ds → noLs ds = true → DhAll H' vs ds
  | _, _, .nil, _ => .nil
  | _, _, .cons h r, n => by
    rw [noLs, Bool.and_eq_true_iff] at n
    exact .cons (Dh.t s h n.1) (DhAll.t s r n.2)
end
theorem noLs_app {a b : List PyData} : noLs (a ++ b) = (noLs a && noLs b) := by
  induction a with
  | nil => rfl
  | cons x a ih => rw [List.cons_append, noLs, noLs, ih, Bool.and_assoc]
theorem noLs_all {a : List PyData} : noLs a = true ↔ ∀ d ∈ a, noL d = true := by
  induction a with
  | nil => exact ⟨fun _ => nofun, fun _ => rfl⟩
  | cons x a ih =>
    rw [noLs, Bool.and_eq_true_iff, ih]
    constructor
    · rintro ⟨h1, h2⟩ d hd
      rcases List.mem_cons.mp hd with rfl | hd
      · exact h1
      · exact h2 d hd
    · exact fun h => ⟨h x List.mem_cons_self, fun d hd => h d (List.mem_cons_of_mem _ hd)⟩
end Lc
set_option Elab.async false
set_option linter.all false
set_option maxRecDepth 100000
set_option maxHeartbeats 4000000
namespace Lc
open PySem PySem.Spec PyProof.Rows L2
/-! ## a dict comprehension that is stored in a local name -/
section
variable {X : Cx}
theorem sw_dict {e1 e2 : Expr} {cs : List Comprehension} {sc : Scope} {p1 p2 : Pos} {nm : Str} {ln : Nat} {en : Env} (h1 : en.scope.kind = .function) (h2 : en.scope.names.lookup nm = some .local) (h3 : (p2.line == p1.line) = true)
    (h4 : (sc.names.any fun (a, b) => a == nm && (b == .local || b == .cell)) = false) : swapsWith (.DictComp e1 e2 cs sc p1) (some (.Name nm p2)) ln en = pure true := by
  have k1 : en.kindOf nm = some .local := h2
  have k2 : en.blockKind = .function := by
    unfold Env.blockKind
    rw [h1]
    rfl
  unfold swapsWith
  simp only [k2, k1, h4, Expr.pos, h3]
  rfl
theorem ps_setDc {i : Nat} {nm : Str} {p2 p1 p3 : Pos} {kx vx tg it : Expr} {ifs : List Expr} {sc : Scope} {own : List (Str × Nat)} {wi : TI} {g : TG} {tt : TT} {tk tv : TE} (calm : X.calm = true) (nd : X.N.Nodup) (at_ : X.N[i]? = some nm) (loc : X.env.scope.names.lookup nm = some .local)
    (sw : swapsWith (.DictComp kx vx [⟨tg, it, ifs, 0⟩] sc p1) (some (.Name nm p2)) p3.line X.env = pure true) (hi : PI X tg it wi) (ok : BlkOk X.N X.env.scope sc own)
    (hg : ∀ (s : Shared) (H : Hp) (C : Addr) (cl : List (Str × Addr)) (fp : List Addr), PG (X.blk s H sc (compEnvC sc cl C X.env) fp) tg g) (ht : ∀ (s : Shared) (H : Hp) (C : Addr) (cl : List (Str × Addr)) (fp : List Addr), PTs (X.blk s H sc (compEnvC sc cl C X.env) fp) ifs tt)
    (hk : ∀ (s : Shared) (H : Hp) (C : Addr) (cl : List (Str × Addr)) (fp : List Addr), PE (X.blk s H sc (compEnvC sc cl C X.env) fp) kx tk) (hv : ∀ (s : Shared) (H : Hp) (C : Addr) (cl : List (Str × Addr)) (fp : List Addr), PE (X.blk s H sc (compEnvC sc cl C X.env) fp) vx tv) (hs : ∀ x, foldedSetIterable it X.env x = pure x := by intro _; rfl) :
    PS X (.Assign [.Name nm p2] (.DictComp kx vx [⟨tg, it, ifs, 0⟩] sc p1) p3) (tAsg (tDc wi g tt tk tv (own.map (·.2))) (gName i)) := by
  refine ⟨fun pins st σ H D I q0 => ?_⟩
  rw [exec_Assign_Name_used _ _ _ _ sw]
  refine wpAny_bind (wpAny_standAt (wpAny_bind ?_))
  show wpAny _ X.A (do let _ ← comprehension (.DictComp kx vx [⟨tg, it, ifs, 0⟩] sc p1) sc X.env (firstIterPos [⟨tg, it, ifs, 0⟩] p1) newDict false (eval it X.env) (some (assign (.Name nm p2) X.env))) _ _ st
  have q1 : tDc wi g tt tk tv (own.map (·.2)) σ H (fun x H1 => gName i x σ H1 D.nx) := q0
  refine wpAny_bind (thn (dc_core (Qf := fun _ s' => SP X pins D .next s') calm nd I hi ok hg ht hk hv hs q1 fun L C s' mm H' I' qq hn fr => ?_) fun _ s' z => wpAny_pure (wpAny_pure z))
  show wpAny _ _ (assign (.Name nm p2) X.env (.ref L)) _ _ _
  refine wpAny_assign_Name (store_ok2 (v := V.ref L) I' nd at_ (.inl loc) rfl (fun s2 I2 ⟨a, sb, ha⟩ => ?_) (.inr loc))
  obtain ⟨g0, g1, _, g3, g4, g5⟩ := fr
  have ne : C ≠ a := by
    rcases ha with z | z
    · exact z ▸ g1
    · exact fun e => g4 nm a z e.symm
  refine ⟨mm, hn.sameBut sb ne, fun h3 sb3 => ?_⟩
  refine ⟨_, H', I2.turned (t' := s2.toks) (fun b o hb e => ?_) g0 g1 g3 g4 g5, qq⟩
  exact (sb3.2 b hb).trans e
end
/-- a dict comprehension over zip of two tuples of one length -/
theorem dc_zip {K : PySem.W.Frag} {a b : Addr} {xs ys : List V} {g : TG} {tt : TT} {tk tv : TE} {vs : List Nat} {σ : L2.St} {H1 : Hp} {D : Addr} {Qd : Hp → Prop} (hl : xs.length = ys.length) (Pv : Nat → Hp → Prop) (h0 : Pv 0 (upd H1 D (.dK []))) (hq : ∀ i H, Pv i H → SqT K H a xs ∧ SqT K H b ys)
    (hs : ∀ (i : Nat) (x y : V) (T : Addr) (H : Hp), xs[i]? = some x → ys[i]? = some y → Pv i H → H T = none → g (.ref T) (wipe σ vs) (upd H T (.tup [x, y])) fun σ2 H2 => wipe σ2 vs = wipe σ vs ∧ tt σ2 H2 fun c H3 =>
      if c = true then tk σ2 H3 fun k H4 => tv σ2 H4 fun z H5 => ∃ kvs kk, k = kV kk ∧ H5 D = some (.dK kvs) ∧ kvs.length < sizeLine ∧ Pv (i + 1) (upd H5 D (.dK (putK kvs kk z))) else Pv (i + 1) H3) (hd : ∀ H, Pv xs.length H → Qd H) :
    ∃ W : Nat → Nat → Hp → Prop, (∃ m, W 0 m (upd H1 D (.dK []))) ∧ ∀ i m H, W i m H →
      ((RZ.ItzT K a b).stop i H ∧ Qd H) ∨ ((RZ.ItzT K a b).go i H ∧ ∃ N : Hp → Prop, (∀ H', N H' → ∃ m', m' < m ∧ W (i + 1) m' H') ∧ ∀ v H', (RZ.ItzT K a b).yld i H v H' → g v (wipe σ vs) H' fun σ2 H2 => wipe σ2 vs = wipe σ vs ∧ tt σ2 H2 fun c H3 =>
        if c = true then tk σ2 H3 fun k H4 => tv σ2 H4 fun z H5 => ∃ kvs kk, k = kV kk ∧ H5 D = some (.dK kvs) ∧ kvs.length < sizeLine ∧ N (upd H5 D (.dK (putK kvs kk z))) else N H3) := by
  refine ⟨fun i m H => i + m = xs.length ∧ Pv i H, ⟨xs.length, Nat.zero_add _, h0⟩, ?_⟩
  rintro i m H ⟨em, pv⟩
  obtain ⟨q1, q2⟩ := hq i H pv
  cases m with
  | zero =>
    obtain rfl : i = xs.length := by omega
    exact .inl ⟨⟨xs, ys, q1, q2, .inl (Nat.le_refl _)⟩, hd H pv⟩
  | succ m =>
    have l1 : i < xs.length := by omega
    have l2 : i < ys.length := by omega
    refine .inr ⟨⟨xs, ys, _, _, q1, q2, List.getElem?_eq_getElem l1, List.getElem?_eq_getElem l2⟩, Pv (i + 1), fun H' p' => ⟨m, by omega, by omega, p'⟩, fun v H' yl => ?_⟩
    obtain ⟨T, x', y', rfl, hT, rfl, f1, f2⟩ := yl
    exact hs i x' y' T H (f1 xs q1) (f2 ys q2) pv hT
section
variable {X : Cx} {k : Nat} {f : Addr} {fd : FuncData} {ps : List Str} {sp : Sp} {x : Str} {p pos : Pos}
/-- f(), f kept under FnG -/
theorem pe_callG0 (F : FnG X.prog X.w X.K X.mg X.base k f fd ps sp) (gg : X.A.guards = some []) (hr : Room k X.A) (hg : Gl X x) (hm : X.mg x = some (.ref f)) (hk : PySem.W.keepIn X.K (.ref f) = true) (hb : Binds X.K fd ps []) (hdb : (x == ("__debug__" : Str)) = false := by decide) :
    PE X (.Call (.Name x p) [] [] pos) (tCall sp [] E0 tNil) := by
  refine ⟨fun pins s σ H Q I h => wpAny_Call_Name_kw (ld_glob I hg hm ?_ hdb)⟩
  refine PySem.W.callWith_K0 I.kIn hk ?_
  have q : sp [] H Q E0 := h
  have hl : ([] : List V).length = ps.length := F.len _ _ _ _ q
  have b := hb s [] I.kIn hl
  refine wpAny_call (codeAny_mono (F.run X.A X.stack s H ⟨[], []⟩ [] [] Q E0 gg hr I.env0 b .nil q) fun rr s' hq => ?_)
  cases rr with
  | error er => exact hq.elim
  | ok fl =>
    cases fl with
    | ret u => exact I.after hq
    | next => exact hq.elim
    | brk => exact hq.elim
    | cont => exact hq.elim
end
/-- a list comprehension over zip of two tuples of one length -/
theorem lc_zip {K : PySem.W.Frag} {a b : Addr} {xs ys : List V} {g : TG} {tt : TT} {te : TE} {vs : List Nat} {σ : L2.St} {H1 : Hp} {D : Addr} {Qd : Hp → Prop} (hl : xs.length = ys.length) (Pv : Nat → Hp → Prop) (h0 : Pv 0 (upd H1 D (.lst []))) (hq : ∀ i H, Pv i H → SqT K H a xs ∧ SqT K H b ys)
    (hs : ∀ (i : Nat) (x y : V) (T : Addr) (H : Hp), xs[i]? = some x → ys[i]? = some y → Pv i H → H T = none → g (.ref T) (wipe σ vs) (upd H T (.tup [x, y])) fun σ2 H2 => wipe σ2 vs = wipe σ vs ∧ tt σ2 H2 fun c H3 =>
      if c = true then te σ2 H3 fun z H4 => ∃ acc, H4 D = some (.lst acc) ∧ acc.length < sizeLine ∧ Pv (i + 1) (upd H4 D (.lst (acc ++ [z]))) else Pv (i + 1) H3) (hd : ∀ H, Pv xs.length H → Qd H) :
    ∃ W : Nat → Nat → Hp → Prop, (∃ m, W 0 m (upd H1 D (.lst []))) ∧ ∀ i m H, W i m H →
      ((RZ.ItzT K a b).stop i H ∧ Qd H) ∨ ((RZ.ItzT K a b).go i H ∧ ∃ N : Hp → Prop, (∀ H', N H' → ∃ m', m' < m ∧ W (i + 1) m' H') ∧ ∀ v H', (RZ.ItzT K a b).yld i H v H' → g v (wipe σ vs) H' fun σ2 H2 => wipe σ2 vs = wipe σ vs ∧ tt σ2 H2 fun c H3 =>
        if c = true then te σ2 H3 fun z H4 => ∃ acc, H4 D = some (.lst acc) ∧ acc.length < sizeLine ∧ N (upd H4 D (.lst (acc ++ [z]))) else N H3) := by
  refine ⟨fun i m H => i + m = xs.length ∧ Pv i H, ⟨xs.length, Nat.zero_add _, h0⟩, ?_⟩
  rintro i m H ⟨em, pv⟩
  obtain ⟨q1, q2⟩ := hq i H pv
  cases m with
  | zero =>
    obtain rfl : i = xs.length := by omega
    exact .inl ⟨⟨xs, ys, q1, q2, .inl (Nat.le_refl _)⟩, hd H pv⟩
  | succ m =>
    have l1 : i < xs.length := by omega
    have l2 : i < ys.length := by omega
    refine .inr ⟨⟨xs, ys, _, _, q1, q2, List.getElem?_eq_getElem l1, List.getElem?_eq_getElem l2⟩, Pv (i + 1), fun H' p' => ⟨m, by omega, by omega, p'⟩, fun v H' yl => ?_⟩
    obtain ⟨T, x', y', rfl, hT, rfl, f1, f2⟩ := yl
    exact hs i x' y' T H (f1 xs q1) (f2 ys q2) pv hT
theorem paired_snoc {α β : Type} {R : α → β → Prop} {a : α} {b : β} (h : R a b) : ∀ {l : List α} {m : List β}, Paired R l m → Paired R (l ++ [a]) (m ++ [b])
  | _, _, .nil => .cons h .nil
  | _, _, .cons g r => .cons g (paired_snoc h r)
theorem paired_imp {α β : Type} {R S : α → β → Prop} (h : ∀ a b, R a b → S a b) : ∀ {l : List α} {m : List β}, Paired R l m → Paired S l m
  | _, _, .nil => .nil
  | _, _, .cons g r => .cons (h _ _ g) (paired_imp h r)
end Lc
set_option Elab.async false
set_option linter.all false
set_option maxRecDepth 100000
set_option maxHeartbeats 4000000
namespace Lc
open PySem PySem.Spec PyProof.Rows L2 PySem.NumText
/-! ## Digits -/
def digs (m : Nat) : List Nat := (Nat.toDigits 10 m).map Char.toNat
theorem digs_small {m : Nat} (h : m < 10) : digs m = [48 + m] := by
  unfold digs
  rw [Nat.toDigits_of_lt_base h]
  have : ∀ k < 10, (Nat.digitChar k).toNat = 48 + k := by decide
  show [(Nat.digitChar m).toNat] = _
  rw [this m h]
theorem digs_big {m : Nat} (h : 10 ≤ m) : digs m = digs (m / 10) ++ [48 + m % 10] := by
  have hm : m % 10 < 10 := Nat.mod_lt m (by decide)
  have t : Nat.toDigits 10 (m / 10) ++ Nat.toDigits 10 (m % 10) = Nat.toDigits 10 (10 * (m / 10) + m % 10) := Nat.toDigits_append_toDigits (by decide) (by omega) hm
  rw [Nat.div_add_mod] at t
  have e := digs_small hm
  unfold digs at e ⊢
  rw [← t, List.map_append, e]
theorem digs_val (m : Nat) : digitsVal (digs m) = m := W.KIN.val_back m
theorem digs_all : ∀ m, AllDigits (digs m) := by
  intro m
  induction m using Nat.strongRecOn with
  | _ m ih =>
    by_cases h : m < 10
    · rw [digs_small h]
      intro c hc
      have : c = 48 + m := by simpa using hc
      omega
    · rw [digs_big (by omega)]
      intro c hc
      rcases List.mem_append.mp hc with hc | hc
      · exact ih (m / 10) (by omega) c hc
      · have : c = 48 + m % 10 := by simpa using hc
        omega
theorem digs_head : ∀ m, ∃ c r, digs m = c :: r ∧ (c = 48 → r = []) := by
  intro m
  have key : ∀ m, ∃ c r, digs m = c :: r ∧ (0 < m → 49 ≤ c) := by
    intro m
    induction m using Nat.strongRecOn with
    | _ m ih =>
      by_cases h : m < 10
      · exact ⟨48 + m, [], digs_small h, fun _ => by omega⟩
      · obtain ⟨c, r, e, g⟩ := ih (m / 10) (by omega)
        refine ⟨c, r ++ [48 + m % 10], ?_, fun _ => g (by omega)⟩
        rw [digs_big (by omega), e]
        rfl
  by_cases z : m = 0
  · exact ⟨48, [], by rw [z]; exact digs_small (by decide), fun _ => rfl⟩
  · obtain ⟨c, r, e, g⟩ := key m
    exact ⟨c, r, e, fun h => by have := g (by omega); omega⟩
theorem digs_len : ∀ (p m : Nat), 0 < p → m < 10 ^ p → (digs m).length ≤ p := by
  intro p
  induction p with
  | zero => intro m h; omega
  | succ p ih =>
    intro m _ h
    by_cases z : m < 10
    · rw [digs_small z]
      simp
    · rw [digs_big (by omega), List.length_append]
      have hp : 0 < p := by
        cases p with
        | zero => omega
        | succ q => omega
      have : m / 10 < 10 ^ p := by
        rw [Nat.div_lt_iff_lt_mul (by decide)]
        rw [Nat.pow_succ] at h
        exact h
      have := ih (m / 10) hp this
      simp only [List.length_cons, List.length_nil]
      omega
def zf (p r : Nat) : List Nat := List.replicate (p - (digs r).length) 48 ++ digs r
theorem zf_len {p r : Nat} (hp : 0 < p) (h : r < 10 ^ p) : (zf p r).length = p := by
  have := digs_len p r hp h
  unfold zf
  rw [List.length_append, List.length_replicate]
  omega
theorem zf_all (p r : Nat) : AllDigits (zf p r) := by
  intro c hc
  rcases List.mem_append.mp hc with hc | hc
  · have := List.eq_of_mem_replicate hc
    omega
  · exact digs_all r c hc
theorem val_from (l : List Nat) : ∀ a : Nat, l.foldl (fun acc c => acc * 10 + (c - 48)) a = a * 10 ^ l.length + digitsVal l := by
  induction l with
  | nil => intro a; simp [digitsVal]
  | cons c l ih =>
    intro a
    show l.foldl _ (a * 10 + (c - 48)) = _
    have e2 : digitsVal (c :: l) = l.foldl (fun acc c => acc * 10 + (c - 48)) (0 * 10 + (c - 48)) := rfl
    rw [ih, e2, ih, List.length_cons, Nat.pow_succ, Nat.zero_mul, Nat.zero_add, Nat.add_mul, Nat.mul_assoc, Nat.mul_comm 10]
    omega
theorem val_app (a b : List Nat) : digitsVal (a ++ b) = digitsVal a * 10 ^ b.length + digitsVal b := by
  unfold digitsVal
  rw [List.foldl_append]
  exact val_from b _
theorem val_zeros (k : Nat) : digitsVal (List.replicate k 48) = 0 := by
  induction k with
  | zero => rfl
  | succ k ih =>
    rw [List.replicate_succ, digitsVal_zero]
    exact ih
theorem zf_val (p r : Nat) : digitsVal (zf p r) = r := by
  unfold zf
  rw [val_app, val_zeros, digs_val]
  omega
/-! ## A text cut at the point -/
def jl : List (List Nat) → List Nat
  | [] => []
  | [x] => x
  | x :: y :: r => x ++ 46 :: jl (y :: r)
theorem cut_eq : ∀ {a b x y : List Nat}, 46 ∉ a → 46 ∉ b → a ++ 46 :: x = b ++ 46 :: y → a = b ∧ x = y
  | [], [], _, _, _, _, e => ⟨rfl, (List.cons.inj e).2⟩
  | [], c :: b, _, _, _, hb, e => absurd (List.cons.inj e).1 (fun z => hb (by rw [z]; exact List.mem_cons_self))
  | c :: a, [], _, _, ha, _, e => absurd (List.cons.inj e).1.symm (fun z => ha (by rw [z]; exact List.mem_cons_self))
  | c :: a, d :: b, x, y, ha, hb, e => by
    obtain ⟨e1, e2⟩ := List.cons.inj e
    obtain ⟨h1, h2⟩ := cut_eq (fun z => ha (List.mem_cons_of_mem _ z)) (fun z => hb (List.mem_cons_of_mem _ z)) e2
    exact ⟨by rw [e1, h1], h2⟩
theorem jl_one {ps : List (List Nat)} {a : List Nat} (hne : a ≠ []) (ha : 46 ∉ a) (e : jl ps = a) : ps = [a] := by
  match ps, e with
  | [], e => exact absurd e.symm hne
  | [x], e => rw [← show x = a from e]
  | x :: y :: r, e => exact absurd (by rw [← show x ++ 46 :: jl (y :: r) = a from e]; simp) ha
theorem jl_two {ps : List (List Nat)} {a b : List Nat} (hf : ∀ p ∈ ps, 46 ∉ p) (ha : 46 ∉ a) (hb : 46 ∉ b) (hne : b ≠ []) (e : jl ps = a ++ 46 :: b) : ps = [a, b] := by
  match ps, hf, e with
  | [], _, e => exact absurd e (by simp [jl])
  | [x], hf, e => exact absurd (by rw [show x = a ++ 46 :: b from e]; simp) (hf x List.mem_cons_self)
  | x :: y :: r, hf, e =>
    obtain ⟨h1, h2⟩ := cut_eq (hf x List.mem_cons_self) ha (show x ++ 46 :: jl (y :: r) = a ++ 46 :: b from e)
    rw [h1, jl_one hne hb h2]
theorem toL_join : ∀ ps : List Str, (Str.join ⟨#[46]⟩ ps).cps.toList = jl (ps.map fun p => p.cps.toList)
  | [] => rfl
  | [x] => rfl
  | x :: y :: r => by
    have ih := toL_join (y :: r)
    have e : Str.join ⟨#[46]⟩ (x :: y :: r) = x ++ ⟨#[46]⟩ ++ Str.join ⟨#[46]⟩ (y :: r) := rfl
    rw [e]
    show (x.cps ++ #[46] ++ (Str.join ⟨#[46]⟩ (y :: r)).cps).toList = _
    rw [Array.toList_append, Array.toList_append, ih]
    show x.cps.toList ++ [46] ++ jl (y.cps.toList :: r.map fun p => p.cps.toList) = x.cps.toList ++ 46 :: jl (y.cps.toList :: r.map fun p => p.cps.toList)
    rw [List.append_assoc]
    rfl
theorem dot_eq : PySem.Str.ofString "." = ⟨#[46]⟩ := by decide +kernel
theorem map_toL {ps : List Str} {ls : List (List Nat)} (h : ps.map (fun p => p.cps.toList) = ls) : ps = ls.map fun l => (⟨l.toArray⟩ : Str) := by
  rw [← h, List.map_map]
  have : ((fun l => (⟨l.toArray⟩ : Str)) ∘ fun p : Str => p.cps.toList) = id := by
    funext p
    obtain ⟨⟨l⟩⟩ := p
    rfl
  rw [this, List.map_id]
theorem split_jl (x : Str) : jl ((Txt.split x ⟨#[46]⟩).map fun p => p.cps.toList) = x.cps.toList := by
  rw [← toL_join, StrLaws.join_split]
theorem split_one {x : Str} (h : 46 ∉ x.cps.toList) (hne : x.cps.toList ≠ []) : Txt.split x ⟨#[46]⟩ = [x] := by
  have e := map_toL (jl_one hne h (split_jl x))
  rw [e]
  obtain ⟨⟨l⟩⟩ := x
  rfl
theorem split_two {x : Str} {a b : List Nat} (e : x.cps.toList = a ++ 46 :: b) (ha : 46 ∉ a) (hb : 46 ∉ b) (hne : b ≠ []) : Txt.split x ⟨#[46]⟩ = [⟨a.toArray⟩, ⟨b.toArray⟩] := by
  refine map_toL (jl_two (fun p hp => ?_) ha hb hne ((split_jl x).trans e))
  obtain ⟨q, hq, rfl⟩ := List.mem_map.mp hp
  exact StrLaws.split_free x 46 q hq
/-! ## Rounding -/
def ab (n : Int) : Int := if n < 0 then -n else n
def nu (n d s : Int) : Int := if n < 0 then -((2 * ab n * s + d) / (2 * d)) else (2 * ab n * s + d) / (2 * d)
theorem ab_nonneg (n : Int) : 0 ≤ ab n := by unfold ab; split <;> omega
theorem ab_nat (n : Int) : ab n = (n.natAbs : Int) := by unfold ab; split <;> omega
theorem nu_ab {n d s : Int} (hd : 0 < d) (hs : 0 < s) : ab (nu n d s) = (2 * ab n * s + d) / (2 * d) ∧ (nu n d s < 0 → n < 0) := by
  have h0 : 0 ≤ (2 * ab n * s + d) / (2 * d) := Int.ediv_nonneg (by have := Int.mul_nonneg (Int.mul_nonneg (by decide : (0:Int) ≤ 2) (ab_nonneg n)) (Int.le_of_lt hs); omega) (by omega)
  unfold nu
  generalize (2 * ab n * s + d) / (2 * d) = q at h0
  split
  · exact ⟨by unfold ab; split <;> omega, fun _ => by assumption⟩
  · exact ⟨by unfold ab; split <;> omega, fun h => by omega⟩
theorem nu_near {n d s : Int} (hd : 0 < d) (hs : 0 < s) : 2 * (ab (nu n d s) * d) ≤ 2 * (ab n * s) + d ∧ 2 * (ab n * s) < 2 * (ab (nu n d s) * d) + d := by
  rw [(nu_ab hd hs).1]
  have e := Int.mul_ediv_add_emod (2 * ab n * s + d) (2 * d)
  have r0 := Int.emod_nonneg (2 * ab n * s + d) (by omega : 2 * d ≠ 0)
  have r1 := Int.emod_lt_of_pos (2 * ab n * s + d) (by omega : 0 < 2 * d)
  generalize (2 * ab n * s + d) / (2 * d) = q at e
  generalize (2 * ab n * s + d) % (2 * d) = r at e r0 r1
  rw [Int.mul_assoc 2 d q, Int.mul_comm d q, Int.mul_assoc 2 (ab n) s] at e
  omega
/-- the same units again -/
theorem nu_again {u s a b : Int} (hs : 0 < s) (hb : 0 < b) (h : a * s = u * b) (hsg : (a < 0) ↔ (u < 0)) : nu a b s = u := by
  have e1 : ab a * s = ab u * b := by
    unfold ab
    by_cases z : a < 0
    · rw [if_pos z, if_pos (hsg.mp z), Int.neg_mul, Int.neg_mul, h]
    · rw [if_neg z, if_neg (fun q => z (hsg.mpr q)), h]
  have e2 : (2 * ab a * s + b) / (2 * b) = ab u := by
    have : 2 * ab a * s + b = b + 2 * b * ab u := by
      rw [Int.mul_assoc, e1, Int.mul_comm (ab u) b, ← Int.mul_assoc]
      omega
    rw [this, Int.add_mul_ediv_left _ _ (by omega : 2 * b ≠ 0), Int.ediv_eq_zero_of_lt (by omega) (by omega)]
    omega
  unfold nu
  rw [e2]
  unfold ab
  by_cases z : a < 0
  · rw [if_pos z, if_pos (hsg.mp z)]
    omega
  · rw [if_neg z, if_neg (fun q => z (hsg.mpr q))]
/-! ## What a decimal looks like -/
def tenP (p : Nat) : Nat := 10 ^ p
def decB (u : Int) (p : Nat) : List Nat := digs (u.natAbs / 10 ^ p) ++ (if p = 0 then [] else 46 :: zf p (u.natAbs % 10 ^ p))
def decL (u : Int) (p : Nat) : List Nat := (if u < 0 then [45] else []) ++ decB u p
end Lc
namespace Lc
open PySem PySem.Spec PyProof.Rows L2 PySem.NumText
theorem appL (x y : Str) : (x ++ y).cps.toList = x.cps.toList ++ y.cps.toList := by
  show (x.cps ++ y.cps).toList = _
  simp
theorem numL (m : Nat) : (PySem.Str.ofString (toString ((m : Nat) : Int))).cps.toList = digs m := W.KIN.signs_num m
theorem zfillL {a : Str} {k r : Nat} (h : a.cps.toList = digs r) : (Txt.zfill a (k : Int)).cps.toList = zf k r := by
  have ln : a.length = (digs r).length := by rw [lenL, h]
  unfold Txt.zfill
  by_cases z : (k : Int) ≤ a.length
  · rw [if_pos z, h]
    unfold zf
    rw [show k - (digs r).length = 0 by omega]
    rfl
  · rw [if_neg z]
    obtain ⟨c, rr, e, _⟩ := digs_head r
    have c0 : a.cps[0]? = some c := by
      rw [← Array.getElem?_toList, h, e]
      rfl
    have cd := digs_all r c (by rw [e]; exact List.mem_cons_self)
    have e2 : zfilled a ((k : Int).toNat - a.length) = Builtin.Str.padded a ((k : Int).toNat - a.length) 0 48 := by
      unfold zfilled
      rw [c0]
      split
      · rename_i q
        injection q with q
        omega
      · rename_i q
        injection q with q
        omega
      · rfl
    rw [e2]
    unfold Builtin.Str.padded zf
    show (Array.replicate ((k : Int).toNat - a.length) 48 ++ a.cps ++ Array.replicate 0 48).toList = _
    rw [Array.toList_append, Array.toList_append, Array.toList_replicate, Array.toList_replicate, h, ln]
    simp
theorem nu_le {n d s : Int} (hd : 0 < d) (hs : 0 < s) : ab (nu n d s) ≤ ab n * s := by
  have h := (nu_near (n := n) hd hs).1
  have N0 : 0 ≤ ab n * s := Int.mul_nonneg (ab_nonneg n) (Int.le_of_lt hs)
  generalize ab n * s = N at h N0
  generalize ab (nu n d s) = U at h
  rcases (by omega : N < U ∨ U ≤ N) with z | z
  · have a1 : (N + 1) * d ≤ U * d := Int.mul_le_mul_of_nonneg_right (by omega) (by omega)
    have a2 : N * 1 ≤ N * d := Int.mul_le_mul_of_nonneg_left (by omega) N0
    rw [Int.add_mul, Int.one_mul] at a1
    omega
  · exact z
inductive Pk (H : Hp) : V → Prop
  | ty {v : V} {t : String} (h : TyN H v t) (n : t ≠ "int") : Pk H v
  | out {k : Int} (h : k < 0 ∨ 9 < k) : Pk H (.int k)
theorem Pk.same {H H' : Hp} {v : V} (h : Pk H v) (s : Same H H') : Pk H' v := by
  cases h with
  | ty h n => exact .ty (h.same s) n
  | out h => exact .out h
theorem pad9 {k : Nat} (h : k ≤ 9) : PadOk (k : Int) = true := by
  have : ∀ k ≤ 9, PadOk ((k : Nat) : Int) = true := by decide +kernel
  exact this k h
theorem ten_pos (k : Nat) : (0 : Int) < 10 ^ k := Int.pow_pos (by decide)
theorem ten_small {k : Nat} (h : k ≤ 9) : ((10 : Int) ^ k).natAbs < 2 ^ 40 := by
  have : ∀ k ≤ 9, ((10 : Int) ^ k).natAbs < 2 ^ 40 := by decide +kernel
  exact this k h
end Lc
namespace Lc
open PySem PySem.Spec PyProof.Rows L2 PySem.NumText
theorem cut_first (x : Str) : (cutS x none (some 1)).cps.toList = x.cps.toList.take 1 := by
  have e : HT.sIx x.length 0 none = 0 := rfl
  have e2 : HT.sIx x.length x.length (some 1) = min 1 x.length := rfl
  unfold cutS
  rw [e, e2]
  show (x.cps.toList.drop 0).take (min 1 x.length - 0) = _
  rw [List.drop_zero, Nat.sub_zero, lenL]
  cases x.cps.toList with
  | nil => rfl
  | cons c r => simp
theorem cut_rest (x : Str) : (cutS x (some 1) none).cps.toList = x.cps.toList.drop 1 := by
  have e : HT.sIx x.length 0 (some 1) = min 1 x.length := rfl
  have e2 : HT.sIx x.length x.length none = x.length := rfl
  unfold cutS
  rw [e, e2]
  show (x.cps.toList.drop (min 1 x.length)).take (x.length - min 1 x.length) = _
  rw [lenL]
  cases x.cps.toList with
  | nil => rfl
  | cons c r => simp
theorem str_ext {x y : Str} (h : x.cps.toList = y.cps.toList) : x = y := by
  obtain ⟨⟨l⟩⟩ := x
  obtain ⟨⟨m⟩⟩ := y
  have : l = m := h
  rw [this]
theorem dec_head (u : Int) (k : Nat) : ∃ c r, decB u k = c :: r ∧ 48 ≤ c ∧ c ≤ 57 := by
  obtain ⟨c, r, e, _⟩ := digs_head (u.natAbs / 10 ^ k)
  have h := digs_all (u.natAbs / 10 ^ k) c (by rw [e]; exact List.mem_cons_self)
  exact ⟨c, _, by unfold decB; rw [e]; rfl, h.1, h.2⟩
theorem minus_is {x : Str} {u : Int} {k : Nat} (h : x.cps.toList = decL u k) : decide (V.str (cutS x none (some 1)) = V.str "-") = decide (u < 0) := by
  rw [Bool.eq_iff_iff, decide_eq_true_iff, decide_eq_true_iff]
  have e45 : (PySem.Str.ofString "-").cps.toList = [45] := by decide +kernel
  constructor
  · intro q
    injection q with q
    have z := cut_first x
    rw [q, h, e45] at z
    rcases (by omega : u < 0 ∨ ¬ u < 0) with g | g
    · exact g
    · obtain ⟨c, r, e, h1, h2⟩ := dec_head u k
      unfold decL at z
      rw [if_neg g, e] at z
      have : (45 : Nat) = c := by simpa using z
      omega
  · intro q
    have : cutS x none (some 1) = PySem.Str.ofString "-" := by
      apply str_ext
      rw [cut_first, h, e45]
      unfold decL
      rw [if_pos q]
      rfl
    rw [this]
theorem below_is {x : Str} {u : Int} {k : Nat} (h : x.cps.toList = decL u k) (n : u < 0) : (cutS x (some 1) none).cps.toList = decB u k := by
  rw [cut_rest, h]
  unfold decL
  rw [if_pos n]
  rfl
theorem digs_len_le {m : Nat} (h : m < 2 ^ 1100) : (digs m).length ≤ 1921 := by
  rw [← numL, ← lenL]
  refine int_text_len_1921 ?_
  rw [Int.natAbs_natCast]
  by_cases z : m = 0
  · rw [z]
    decide
  · exact Nat.lt_of_lt_of_le ((Nat.log2_lt z).mpr h) (by decide)
theorem decL_len {u : Int} {k : Nat} (h : u.natAbs < 2 ^ 1100) (k9 : k ≤ 9) : (decL u k).length ≤ 1940 ∧ (decB u k).length ≤ 1939 := by
  have h1 := digs_len_le (Nat.lt_of_le_of_lt (Nat.div_le_self u.natAbs (10 ^ k)) h)
  have h2 : (decB u k).length ≤ 1939 := by
    unfold decB
    rw [List.length_append]
    split
    · simp; omega
    · have := zf_len (p := k) (r := u.natAbs % 10 ^ k) (by omega) (Nat.mod_lt _ (Nat.pow_pos (by decide)))
      rw [List.length_cons, this]
      omega
  refine ⟨?_, h2⟩
  unfold decL
  rw [List.length_append]
  split
  · simp only [List.length_cons, List.length_nil]; omega
  · simp only [List.length_nil]; omega
theorem joinL_toL (ys : List Str) : (Txt.join (PySem.Str.ofString "") ys).cps.toList = (ys.map fun y => y.cps.toList).flatten := by
  have e : Txt.join (PySem.Str.ofString "") ys = Str.join Str.empty ys := (StrLaws.glued_eq_join (PySem.Str.ofString "") ys).trans rfl
  rw [e]
  have key : ∀ ys : List Str, (Str.join Str.empty ys).cps.toList = (ys.map fun y => y.cps.toList).flatten := by
    intro ys
    induction ys with
    | nil => rfl
    | cons x r ih =>
      cases r with
      | nil =>
        show x.cps.toList = _
        simp
      | cons y r =>
        have e : Str.join Str.empty (x :: y :: r) = x ++ Str.empty ++ Str.join Str.empty (y :: r) := rfl
        rw [e, appL, appL, ih]
        simp [Str.empty]
  exact key ys
def ten10 : Str := "0123456789"
theorem index_ten {c : Nat} (h : 48 ≤ c ∧ c ≤ 57) : Builtin.Str.occurrences ten10 ⟨#[c]⟩ 0 ten10.length 1 = [c - 48] := by
  have key : ∀ d < 10, Builtin.Str.occurrences ten10 ⟨#[48 + d]⟩ 0 ten10.length 1 = [d] := by decide +kernel
  have := key (c - 48) (by omega)
  rw [show 48 + (c - 48) = c by omega] at this
  exact this
theorem in_ten {c : Nat} (h : 48 ≤ c ∧ c ≤ 57) : decide (c ∈ ten10.cps.toList) = true := by
  have key : ∀ d < 10, decide (48 + d ∈ ten10.cps.toList) = true := by decide +kernel
  have := key (c - 48) (by omega)
  rw [show 48 + (c - 48) = c by omega] at this
  exact this
end Lc
set_option Elab.async false
set_option linter.all false
set_option maxRecDepth 100000
set_option maxHeartbeats 4000000
namespace K17
open PySem PySem.Spec PyProof.Rows L2 Lc
def top (i : Nat) : Stmt := PySem.Challenge.pw_liveclaims_k17_sorted_rows.main.body.getD i (.Pass ⟨0, 0, 0, 0⟩)
/-! ## is_whole, common_divisor, is_rational -/
abbrev sWhole : Stmt := top 8
abbrev sCd : Stmt := top 9
abbrev sIsR : Stmt := top 10
def spWhole : Sp := fun vs H Q _ => ∃ (v : V) (t : String), vs = [v] ∧ TyN H v t ∧ Q (.bl (t == "int")) H
def spCd : Sp := fun vs H Q _ => ∃ a b : Int, vs = [.int a, .int b] ∧ 0 ≤ a ∧ 0 ≤ b ∧ Q (.int (gd a b)) H
def spIsR : Sp := fun vs H Q _ => ∃ (v : V) (b : Bool), vs = [v] ∧ Rk H v b ∧ Q (.bl b) H
section
variable {P : Program} {w : World} {K : PySem.W.Frag} {mg : Str → Option Value} {base : Heap} {f C : Addr} {fd : FuncData}
theorem scWhole : FnScope ["value"] ["value"] (defScope sWhole) := ⟨rfl, rfl, rfl, by decide +kernel, rfl, by decide +kernel, by decide +kernel⟩
theorem ok_whole (F : Fun K "is_whole" "is_whole" sWhole f fd) (T : Bt mg) : FnOk P w K mg base CX0 1 f fd ["value"] spWhole := by
  refine F.ok scWhole (fun vs H Q E h => ?_) (fun cdv A outer s H vs Q E hr h => ?_)
  · obtain ⟨v, t, rfl, _⟩ := h
    rfl
  · obtain ⟨v, t, rfl, ty, k⟩ := h
    refine ⟨_, pss_one (ps_ret (pe_and (pe_callB call_isi (by rfl) T.isi boot_isinstance (pa_cons (pv 0) (pa_cons (pe_bltn (v := .ty "int") (by rfl) T.int boot_int rfl) pa_nil)))
      (pe_one (pe_not (pe_callB call_isi (by rfl) T.isi boot_isinstance (pa_cons (pv 0) (pa_cons (pe_bltn (v := .ty "bool") (by rfl) T.bool boot_bool rfl) pa_nil))))))), ?_⟩
    refine ⟨_, rfl, v, .ty "int", _, _, _, rfl, .ty "int", ty.x, kit_int ty.mem, _, rfl, ?_⟩
    refine ite2 (fun hi => ?_) (fun hi => ?_)
    · refine ⟨_, rfl, v, .ty "bool", _, _, _, rfl, .ty "bool", ty.x, kit_bool ty.mem, _, rfl, ?_⟩
      have e : (!(t == "bool")) = (t == "int") := by cases ty <;> first | rfl | exact absurd hi (by decide)
      show Q (.bl (!(t == "bool"))) H
      rw [e]
      exact k
    · have e : false = (t == "int") := by cases ty <;> first | rfl | exact absurd rfl hi
      show Q (.bl false) H
      rw [e]
      exact k
theorem scCd : FnScope ["a", "b"] ["a", "b"] (defScope sCd) := ⟨rfl, rfl, rfl, by decide +kernel, rfl, by decide +kernel, by decide +kernel⟩
theorem ok_cd (F : Fun K "common_divisor" "common_divisor" sCd f fd) : FnOk P w K mg base CX0 1 f fd ["a", "b"] spCd := by
  refine F.ok scCd (fun vs H Q E h => ?_) (fun cdv A outer s H vs Q E hr h => ?_)
  · obtain ⟨a, b, rfl, _⟩ := h
    rfl
  · obtain ⟨a, b, rfl, ha, hb, k⟩ := h
    refine ⟨_, pss_cons (ps_while PassesOwn.never (pt_cmpR op_ne (pv 1) pe_int (nomark _)) (pss_one (ps_par (i := 0) (j := 1) (by rfl) scCd.nd rfl rfl (by decide) rfl rfl (pa_cons (pv 1) (pa_cons (pe_op op_mod (pv 0) (pv 1)) pa_nil)) (by rfl))))
      (pss_one (ps_ret (pv 0))), ?_⟩
    refine ⟨fun m σ H' => ∃ a' b' : Int, σ = [some (.int a'), some (.int b')] ∧ 0 ≤ a' ∧ 0 ≤ b' ∧ b'.toNat = m ∧ gd a' b' = gd a b ∧ H' = H, ⟨_, a, b, rfl, ha, hb, rfl, rfl, rfl⟩, ?_⟩
    rintro m σ H' ⟨a', b', rfl, ha', hb', rfl, e, rfl⟩
    refine ⟨_, rfl, rfl, _, rfl, ?_⟩
    rw [show (decide (V.int b' = V.int 0)) = decide (b' = 0) from dec_int.trans (by rw [Bool.eq_iff_iff]; simp)]
    by_cases z : b' = 0
    · rw [decide_eq_true z]
      refine iteF ⟨_, rfl, ?_⟩
      rw [← e, z, gd_zero ha'] at k
      exact k
    · rw [decide_eq_false z]
      have pb : 0 < b' := by omega
      refine iteT ⟨fun σ' H'' => ∃ a2 b2 : Int, σ' = [some (.int a2), some (.int b2)] ∧ 0 ≤ a2 ∧ 0 ≤ b2 ∧ b2.toNat < b'.toNat ∧ gd a2 b2 = gd a b ∧ H'' = H', ?_, ?_⟩
      · rintro σ' H'' ⟨a2, b2, h1, h2, h3, h4, h5, h6⟩
        exact ⟨_, h4, a2, b2, h1, h2, h3, rfl, h5, h6⟩
      · refine ⟨_, rfl, _, rfl, _, rfl, _, _, rfl, rfl, pb, _, _, rfl, b', a' % b', rfl, hb', Int.emod_nonneg _ (by omega), ?_, ?_, rfl⟩
        · have := Int.emod_lt_of_pos a' pb
          have := Int.emod_nonneg a' (by omega : b' ≠ 0)
          omega
        · rw [gd_step ha' pb]
          exact e
theorem scIsR : FnScope ["value", "n", "d"] ["value"] (defScope sIsR) := ⟨rfl, rfl, rfl, by decide +kernel, rfl, by decide +kernel, by decide +kernel⟩
theorem ok_isr {fW fC : Addr} {fdW fdC : FuncData} (F : Fun K "is_rational" "is_rational" sIsR f fd) (T : Bt mg) (GW : FnOk P w K mg base CX0 1 fW fdW ["value"] spWhole) (mW : mg "is_whole" = some (.ref fW)) (kW : PySem.W.keepIn K (.ref fW) = true) (bW : Binds K fdW ["value"] [])
    (GC : FnOk P w K mg base CX0 1 fC fdC ["a", "b"] spCd) (mC : mg "common_divisor" = some (.ref fC)) (kC : PySem.W.keepIn K (.ref fC) = true) (bC : Binds K fdC ["a", "b"] []) : FnOk P w K mg base CX0 2 f fd ["value"] spIsR := by
  refine F.ok scIsR (fun vs H Q E h => ?_) (fun cdv A outer s H vs Q E hr h => ?_)
  · obtain ⟨v, b, rfl, _⟩ := h
    rfl
  · obtain ⟨v, b, rfl, hk, k⟩ := h
    refine ⟨_, pss_cons (ps_if (PW.pt (pw_or (pt_not (pt_val (pe_callB call_isi (by rfl) T.isi boot_isinstance (pa_cons (pv 0) (pa_cons (pe_bltn (v := .ty "tuple") (by rfl) T.tuple boot_tuple rfl) pa_nil)))))
        (pw_or1 (pt_cmpR op_ne (pe_callB call_len_seq (by rfl) T.len PySem.boot_len (pa_cons (pv 0) pa_nil)) pe_int (nomark _))))) (pss_one (ps_ret pe_bl)) pss_nil)
      (pss_cons (ps_asg (pv 0) (pg_tup rfl (pgs_cons (pg_name (i := 1) scIsR.nd rfl (.inl rfl)) (pgs_cons (pg_name (i := 2) scIsR.nd rfl (.inl rfl)) pgs_nil))))
      (pss_cons (ps_if (PW.pt (pw_or (pt_not (pt_val (pe_call GW hr (by rfl) mW kW bW .nil pass0 (pa_cons (pv 1) pa_nil)))) (pw_or (pt_not (pt_val (pe_call GW hr (by rfl) mW kW bW .nil pass0 (pa_cons (pv 2) pa_nil))))
        (pw_or1 (pt_cmpR op_lt (pv 2) pe_int (nomark _)))))) (pss_one (ps_ret pe_bl)) pss_nil)
      (pss_one (ps_ret (pe_cmpR op_eq (pe_call GC hr (by rfl) mC kC bC .nil pass0 (pa_cons (pe_callB call_abs (by rfl) T.abs boot_abs (pa_cons (pv 1) pa_nil)) (pa_cons (pv 2) pa_nil))) pe_int (nomark _)))))), ?_⟩
    cases hk with
    | @other _ t ty n =>
      refine ⟨_, rfl, v, .ty "tuple", _, _, _, rfl, .ty "tuple", ty.x, kit_tuple ty.mem, _, rfl, ?_⟩
      have e : (t == "tuple") = false := by simpa using n
      rw [e]
      exact iteT (iteT k)
    | @len a xs e n =>
      refine ⟨_, rfl, .ref a, .ty "tuple", _, _, _, rfl, .ty "tuple", (TyN.tup e).x, kit_tuple (by decide), _, rfl, ?_⟩
      refine iteF ⟨_, rfl, a, xs, rfl, .inr (SqT.of e), rfl, _, rfl, ?_⟩
      have z : decide (V.int (xs.length : Int) = V.int 2) = false := decide_eq_false (fun q => n (by injection q with q; omega))
      rw [z]
      exact iteT k
    | @pair a x y tx ty e hx hy =>
      refine ⟨_, rfl, .ref a, .ty "tuple", _, _, _, rfl, .ty "tuple", (TyN.tup e).x, kit_tuple (by decide), _, rfl, ?_⟩
      refine iteF ⟨_, rfl, a, _, rfl, .inr (SqT.of e), rfl, _, rfl, ?_⟩
      refine iteF ?_
      refine ⟨_, rfl, a, _, rfl, SqT.of e, rfl, _, _, rfl, _, _, rfl, rfl, ?_⟩
      refine ⟨_, rfl, x, tx, rfl, hx, _, rfl, ?_⟩
      by_cases ix : tx = "int"
      · obtain ⟨n, rfl⟩ := hx.isInt ix
        subst ix
        · refine iteF ⟨_, rfl, y, ty, rfl, hy, _, rfl, ?_⟩
          by_cases iy : ty = "int"
          · obtain ⟨d, rfl⟩ := hy.isInt iy
            subst iy
            · refine iteF ⟨_, rfl, _, _, rfl, rfl, _, rfl, ?_⟩
              by_cases hd : d < 1
              · rw [decide_eq_true hd]
                have z : ratB (.int n) (.int d) = false := by
                  show (decide (0 < d) && _) = false
                  rw [decide_eq_false (by omega : ¬ 0 < d)]
                  rfl
                rw [z] at k
                exact iteT k
              · rw [decide_eq_false hd]
                refine iteF ?_
                refine ⟨_, rfl, n, rfl, _, rfl, _, d, rfl, by split <;> omega, by omega, rfl, ?_⟩
                have z : ratB (.int n) (.int d) = decide (V.int (gd (if n < 0 then -n else n) d) = V.int 1) := by
                  show (decide (0 < d) && decide (gd n d = 1)) = _
                  rw [decide_eq_true (by omega : 0 < d), gd_abs]
                  rw [Bool.eq_iff_iff]
                  simp
                rw [z] at k
                exact k
          · have z : (ty == "int") = false := by simpa using iy
            have z2 : ratB (.int n) y = false := by
              cases hy <;> first | rfl | exact absurd rfl iy
            rw [z2] at k
            rw [z]
            exact iteT (iteT k)
      · have z : (tx == "int") = false := by simpa using ix
        have z2 : ratB x y = false := by
          cases hx <;> first | rfl | exact absurd rfl ix
        rw [z2] at k
        rw [z]
        exact iteT (iteT k)
end
abbrev sTape : Stmt := top 124
section
variable {P : Program} {w : World} {K : PySem.W.Frag} {mg : Str → Option Value} {base : Heap} {f : Addr} {fd : FuncData}
theorem scTape : FnScope ["_law_script"] ["_law_script"] (defScope sTape) := ⟨rfl, rfl, rfl, by decide +kernel, rfl, by decide +kernel, by decide +kernel⟩
theorem ok_tape (F : Fun K "_law_tape" "_law_tape" sTape f fd) (T : Bt mg) : FnOk P w K mg base CX0 1 f fd ["_law_script"] (spTape K) := by
  refine F.ok scTape (fun vs H Q E h => ?_) (fun cdv A outer s H vs Q E hr h => ?_)
  · obtain ⟨a, ns, rfl, _⟩ := h
    rfl
  · obtain ⟨a, ns, rfl, hS, k⟩ := h
    refine ⟨_, pss_one (ps_ret (pe_lst (pa_cons (pe_callTy call_list_of (by rfl) T.list boot_list (pa_cons (pe_slice sl_list (pv 0) po_none (po_some pe_int)) pa_nil)) (pa_cons pe_int (pa_cons pe_int (pa_cons pe_int pa_nil)))))), ?_⟩
    obtain ⟨ms, e⟩ := cut_ints ns none (some 63)
    refine ⟨_, rfl, _, rfl, a, _, rfl, hS, fun p hp => ⟨p, _, rfl, .inl (SqL.of upd_same), fun l hl => ⟨by show 4 ≤ sizeLine; decide, fun t ht => ?_⟩⟩⟩
    have s1 : Same H (upd H p (.lst (cutV (ns.map V.int) none (some 63)))) := Same.upd hp
    have s2 := Same.upd (o := .lst (cutV (ns.map V.int) none (some 63))) hl
    have s3 := Same.upd (o := .lst [.ref l, .int 0, .int 0, .int 17]) ht
    refine k t _ ((s1.trans s2).trans s3) ((s1.trans s2).free ht) ⟨l, ms, 0, 0, 17, upd_same, ?_, by decide, by decide, by decide, by decide⟩
    rw [← e]
    exact s3 _ _ upd_same
end
abbrev sDraw : Stmt := top 125
section
variable {P : Program} {w : World} {K : PySem.W.Frag} {mg : Str → Option Value} {base : Heap} {f : Addr} {fd : FuncData}
theorem scDraw : FnScope ["_law_tape_here", "_law_many", "_law_digit", "_law_cell", "_law_near"] ["_law_tape_here", "_law_many"] (defScope sDraw) := ⟨rfl, rfl, rfl, by decide +kernel, rfl, by decide +kernel, by decide +kernel⟩
theorem ok_draw (F : Fun K "_law_draw" "_law_draw" sDraw f fd) (T : Bt mg) : FnOk P w K mg base CX0 1 f fd ["_law_tape_here", "_law_many"] spDrawL := by
  refine F.ok scDraw (fun vs H Q E h => ?_) (fun cdv A outer s H vs Q E hr h => ?_)
  · obtain ⟨t, l, m, rfl, _⟩ := h
    rfl
  · obtain ⟨t, l, m, rfl, ⟨ns, pos, rest, mix, ht, hl, p0, r0, m0, m1⟩, hm, hm2, k⟩ := h
    refine ⟨_, pss_cons (ps_if (pt_cmpR op_gt (pe_ix ix_list (pv 0) pe_int (fun _ _ => rfl)) pe_int (nomark _))
        (pss_cons (ps_set (i := 2) scDraw.nd rfl (Or.inl rfl) (pe_op op_mod (pe_ix ix_list (pv 0) pe_int (fun _ _ => rfl)) (pv 1)))
        (pss_cons (ps_asg (pe_op op_fdivW (pe_ix ix_list (pv 0) pe_int (fun _ _ => rfl)) (pv 1)) (pg_sub (pv 0) pe_int set_list)) (pss_one (ps_ret (pv 2))))) pss_nil)
      (pss_cons (ps_set (i := 3) scDraw.nd rfl (Or.inl rfl) pe_int)
      (Evl.pss_cut (ps_if (pt_cmpR op_lt (pe_ix ix_list (pv 0) pe_int (fun _ _ => rfl)) (pe_callB call_len_seq (by rfl) T.len PySem.boot_len (pa_cons (pe_ix ix_list (pv 0) pe_int (fun _ _ => rfl)) pa_nil)) (nomark _))
        (pss_one (ps_set (i := 3) scDraw.nd rfl (Or.inl rfl) (pe_ix ix_list (pe_ix ix_list (pv 0) pe_int (fun _ _ => rfl)) (pe_ix ix_list (pv 0) pe_int (fun _ _ => rfl)) (fun _ _ => rfl)))) pss_nil)
      (pss_cons (ps_asg (pe_op op_add (pe_ix ix_list (pv 0) pe_int (fun _ _ => rfl)) pe_int) (pg_sub (pv 0) pe_int set_list))
      (pss_cons (ps_if (pt_cmpR op_ge (pv 3) (pe_op op_pow pe_int pe_int) (nomark _))
        (pss_cons (ps_asg (pe_op op_fdivW (pv 3) (pv 1)) (pg_sub (pv 0) pe_int set_list)) (pss_one (ps_ret (pe_op op_mod (pv 3) (pv 1))))) pss_nil)
      (pss_cons (ps_set (i := 4) scDraw.nd rfl (Or.inl rfl) (pe_op op_add (pe_op op_add (pe_op op_mod (pv 3) pe_int) (pe_op op_mul pe_int (pe_ix ix_list (pv 0) pe_int (fun _ _ => rfl)))) pe_int))
      (pss_cons (ps_asg (pe_op op_mod (pe_op op_add (pe_op op_mul (pe_ix ix_list (pv 0) pe_int (fun _ _ => rfl)) pe_int) (pv 4)) pe_int) (pg_sub (pv 0) pe_int set_list))
      (pss_one (ps_ret (pe_op op_mod (pe_op op_mod (pe_op op_pow (pe_ix ix_list (pv 0) pe_int (fun _ _ => rfl)) pe_int) pe_int) (pv 1)))))))))), ?_⟩
    have nl := tape_ne ht hl
    have dv : ∀ c : Int, CDivW c m := fun c => ⟨hm, log_lt' hm2⟩
    have M0 : (0 : Int) < 2147483647 := by decide
    refine ⟨_, rfl, t, _, _, _, rfl, rfl, SqL.of ht, rfl, _, _, rfl, rfl, _, rfl, ?_⟩
    refine ite2 (fun z => ?_) (fun z => ?_)
    · have z' : 0 < rest := of_decide_eq_true z
      refine ⟨_, rfl, t, _, _, _, rfl, rfl, SqL.of ht, rfl, _, rfl, _, _, rfl, rfl, hm, ?_⟩
      refine ⟨_, rfl, t, _, _, _, rfl, rfl, SqL.of ht, rfl, _, rfl, _, _, rfl, rfl, dv _, _, rfl, t, _, _, 2, rfl, rfl, ht, rfl, ?_⟩
      refine ⟨_, rfl, ?_⟩
      refine k _ _ (Int.emod_nonneg _ (by omega)) (Int.emod_lt_of_pos _ hm) ⟨ns, pos, rest / m, mix, upd_same, by rw [upd_ne nl]; exact hl, p0, Int.ediv_nonneg r0 (by omega), m0, m1⟩ SameB.upd
    · refine ⟨fun σ' H' => ∃ c : Int, σ' = [some (.ref t), some (.int m), none, some (.int c), none] ∧ H' = H, ?_, ?_⟩
      · refine ⟨_, rfl, t, _, _, _, rfl, rfl, SqL.of ht, rfl, _, rfl, t, _, _, _, rfl, rfl, SqL.of ht, rfl, l, _, rfl, .inl (SqL.of hl), _, _, rfl, rfl, _, rfl, ?_⟩
        refine ite2 (fun y => ?_) (fun y => ?_)
        · have y' : pos < ((ns.map V.int).length : Int) := of_decide_eq_true y
          rw [List.length_map] at y'
          have g : (ns.map V.int)[pos.toNat]? = some (.int (ns[pos.toNat]'(by omega))) := by
            rw [List.getElem?_map, List.getElem?_eq_getElem (by omega : pos.toNat < ns.length)]
            rfl
          exact ⟨_, rfl, t, _, _, _, rfl, rfl, SqL.of ht, rfl, _, rfl, t, _, _, _, rfl, rfl, SqL.of ht, rfl, l, _, _, _, rfl, rfl, SqL.of hl, at_of (by omega) g, _, rfl, rfl⟩
        · exact ⟨0, rfl, rfl⟩
      · rintro σ' H' ⟨c, rfl, rfl⟩
        refine ⟨_, rfl, t, _, _, _, rfl, rfl, SqL.of ht, rfl, _, _, rfl, rfl, _, rfl, t, _, _, 1, rfl, rfl, ht, rfl, ?_⟩
        refine ⟨_, rfl, _, _, rfl, rfl, ⟨by decide, by decide, by decide⟩, _, _, rfl, rfl, _, rfl, ?_⟩
        refine ite2 (fun y => ?_) (fun y => ?_)
        · have y' : (10 : Int) ^ (18 : Int).toNat ≤ c := of_decide_eq_true y
          have c0 : 0 ≤ c := Int.le_trans (by decide) y'
          refine ⟨_, rfl, _, rfl, _, _, rfl, rfl, dv _, _, rfl, t, _, _, 2, rfl, rfl, upd_same, rfl, ?_⟩
          refine ⟨_, rfl, _, rfl, _, _, rfl, rfl, hm, ?_⟩
          exact k _ _ (Int.emod_nonneg _ (by omega)) (Int.emod_lt_of_pos _ hm) ⟨ns, pos + 1, c / m, mix, upd_same, by rw [upd_ne nl, upd_ne nl]; exact hl, by omega, Int.ediv_nonneg c0 (by omega), m0, m1⟩ (SameB.upd.trans SameB.upd)
        · refine ⟨_, rfl, _, _, rfl, rfl, M0, _, rfl, t, _, _, _, rfl, rfl, SqL.of upd_same, rfl, _, _, rfl, rfl, .inl ⟨by decide, by decide⟩, _, _, rfl, rfl, _, _, rfl, rfl, ?_⟩
          refine ⟨_, rfl, t, _, _, _, rfl, rfl, SqL.of upd_same, rfl, _, _, rfl, rfl, .inl ⟨by omega, by omega⟩, _, rfl, _, _, rfl, rfl, _, _, rfl, rfl, M0, _, rfl, t, _, _, 3, rfl, rfl, upd_same, rfl, ?_⟩
          have q0 := Int.emod_nonneg (mix * 48271 + (c % 2147483647 + 7919 * (pos + 1) + 11)) (by decide : (2147483647 : Int) ≠ 0)
          have q1 := Int.emod_lt_of_pos (mix * 48271 + (c % 2147483647 + 7919 * (pos + 1) + 11)) M0
          refine ⟨_, rfl, t, _, _, _, rfl, rfl, SqL.of upd_same, rfl, _, _, rfl, rfl, ⟨by decide, by decide, ?_⟩, _, _, rfl, rfl, M0, _, rfl, _, _, rfl, rfl, hm, ?_⟩
          · omega
          · exact k _ _ (Int.emod_nonneg _ (by omega)) (Int.emod_lt_of_pos _ hm) ⟨ns, pos + 1, rest, _, upd_same, by rw [upd_ne nl, upd_ne nl]; exact hl, by omega, r0, q0, q1⟩ (SameB.upd.trans SameB.upd)
end
abbrev sLst : Stmt := top 126
section
variable {P : Program} {w : World} {K : PySem.W.Frag} {mg : Str → Option Value} {base : Heap} {f : Addr} {fd : FuncData}
theorem scLst : FnScope ["_law_n", "_law_d", "_law_a", "_law_b", "_law_rest"] ["_law_n", "_law_d"] (defScope sLst) := ⟨rfl, rfl, rfl, by decide +kernel, rfl, by decide +kernel, by decide +kernel⟩
theorem ok_lst (F : Fun K "_law_lowest" "_law_lowest" sLst f fd) (T : Bt mg) : FnOk P w K mg base CX0 1 f fd ["_law_n", "_law_d"] spLowest := by
  refine F.ok scLst (fun vs H Q E h => ?_) (fun cdv A outer s H vs Q E hr h => ?_)
  · obtain ⟨n, d, rfl, _⟩ := h
    rfl
  · obtain ⟨n, d, rfl, hd, hd2, k⟩ := h
    refine ⟨_, pss_cons (ps_set (i := 2) scLst.nd rfl (Or.inl rfl) (pe_callB call_abs (by rfl) T.abs boot_abs (pa_cons (pv 0) pa_nil)))
      (pss_cons (ps_set (i := 3) scLst.nd rfl (Or.inl rfl) (pv 1))
      (pss_cons (ps_while PassesOwn.never (pt_cmpR op_gt (pv 3) pe_int (nomark _))
        (pss_cons (ps_set (i := 4) scLst.nd rfl (Or.inl rfl) (pe_op op_mod (pv 2) (pv 3))) (pss_cons (ps_set (i := 2) scLst.nd rfl (Or.inl rfl) (pv 3)) (pss_one (ps_set (i := 3) scLst.nd rfl (Or.inl rfl) (pv 4))))))
      (pss_one (ps_ret (pe_tup (pa_cons (pe_op op_fdivW (pv 0) (pv 2)) (pa_cons (pe_op op_fdivW (pv 1) (pv 2)) pa_nil))))))), ?_⟩
    refine ⟨_, rfl, n, rfl, _, rfl, ?_⟩
    refine ⟨fun m σ H' => ∃ (a' b' : Int) (r : Option V), σ = [some (.int n), some (.int d), some (.int a'), some (.int b'), r] ∧ 0 ≤ a' ∧ 0 ≤ b' ∧ b'.toNat = m ∧ gd a' b' = gd n d ∧ H' = H, ⟨_, _, d, none, rfl, by split <;> omega, by omega, rfl, gd_abs n d, rfl⟩, ?_⟩
    rintro m σ H' ⟨a', b', r, rfl, ha', hb', rfl, e, rfl⟩
    refine ⟨_, rfl, _, _, rfl, rfl, _, rfl, ?_⟩
    refine ite2 (fun z => ?_) (fun z => ?_)
    · have pb : 0 < b' := of_decide_eq_true z
      refine ⟨fun σ' H'' => ∃ (a2 b2 : Int) (r : Option V), σ' = [some (.int n), some (.int d), some (.int a2), some (.int b2), r] ∧ 0 ≤ a2 ∧ 0 ≤ b2 ∧ b2.toNat < b'.toNat ∧ gd a2 b2 = gd n d ∧ H'' = H', ?_, ?_⟩
      · rintro σ' H'' ⟨a2, b2, r2, h1, h2, h3, h4, h5, h6⟩
        exact ⟨_, h4, a2, b2, r2, h1, h2, h3, rfl, h5, h6⟩
      · refine ⟨_, rfl, _, rfl, _, _, rfl, rfl, pb, _, rfl, _, rfl, b', a' % b', _, rfl, hb', Int.emod_nonneg _ (by omega), ?_, ?_, rfl⟩
        · have := Int.emod_lt_of_pos a' pb
          have := Int.emod_nonneg a' (by omega : b' ≠ 0)
          omega
        · rw [gd_step ha' pb]
          exact e
    · have zb : ¬ 0 < b' := fun q => z (decide_eq_true q)
      have z0 : b' = 0 := by omega
      rw [z0, gd_zero ha'] at e
      subst e
      have g0 : 0 < gd n d := gd_pos (by omega)
      have gl : (gd n d).natAbs < 2 ^ 4000 := Nat.lt_of_le_of_lt (gd_natAbs_le (by omega)) hd2
      exact ⟨_, rfl, _, rfl, _, _, rfl, rfl, ⟨g0, log_lt' gl⟩, _, rfl, _, rfl, _, _, rfl, rfl, ⟨g0, log_lt' gl⟩, by show 2 ≤ sizeLine; decide, k⟩
end
abbrev sName : Stmt := top 25
section
variable {P : Program} {w : World} {K : PySem.W.Frag} {mg : Str → Option Value} {base : Heap} {f : Addr} {fd : FuncData} {u1 u2 : Tok} {u3 : Tok}
theorem scName : FnScope ["value", "sign"] ["value"] (defScope sName) := ⟨rfl, rfl, rfl, by decide +kernel, rfl, by decide +kernel, by decide +kernel⟩
theorem ok_name (F : Fun K "is_name" "is_name" sName f fd) (T : Bt mg) (m1 : mg "LETTERS" = some (.str letters u1)) (m2 : mg "NAME_SIGNS" = some (.str signs u2)) (m3 : mg "LONGEST_NAME" = some (.int 12 u3)) : FnOk P w K mg base CX0 1 f fd ["value"] spName := by
  refine F.ok scName (fun vs H Q E h => ?_) (fun cdv A outer s H vs Q E hr h => ?_)
  · obtain ⟨v, t, rfl, _⟩ := h
    rfl
  · obtain ⟨v, t, rfl, ty, hl, k⟩ := h
    refine ⟨_, pss_cons (ps_if (PW.pt (pw_or (pt_not (pt_val (pe_callB call_isi (by rfl) T.isi boot_isinstance (pa_cons (pv 0) (pa_cons (pe_bltn (v := .ty "str") (by rfl) T.str boot_str rfl) pa_nil))))) (pw_or (pt_cmpR op_eq (pv 0) pe_str (nomark _))
        (pw_or1 (pt_cmpR op_gt (pe_callB call_len_str (by rfl) T.len PySem.boot_len (pa_cons (pv 0) pa_nil)) (pe_glob (v := .int 12) (by rfl) m3 ⟨_, rfl⟩) (nomark _)))))) (pss_one (ps_ret pe_bl)) pss_nil)
      (pss_one (ps_ret (pe_and (pe_cmpR op_in_sign (pe_ix ix_str (pv 0) pe_int (fun _ _ => rfl)) (pe_glob (v := .str letters) (by rfl) m1 ⟨_, rfl⟩) (by rfl))
        (pe_one (pe_callB (cr_all rfl) (by rfl) T.all (by decide +kernel) (pa_cons (pe_lc (own := [("sign", 1)]) (g := gName 1) (tt := tYes) (te := tOp Lc.rInS (tVar 1) (tC (.str signs))) (by rfl) scName.nd (pi_str (pv 0)) (blkOk_by (own := [("sign", 1)]) (N := ["value", "sign"]) (sc := defScope sName) (by decide +kernel))
          (fun _ _ _ _ _ => pg_name (i := 1) scName.nd rfl (Or.inl rfl)) (fun _ _ _ _ _ => pts_nil) (fun _ _ _ _ _ => pe_cmpR op_in_sign (pv 1) (pe_glob (v := .str signs) (by rfl) m2 ⟨_, rfl⟩) (by rfl))) pa_nil)))))), ?_⟩
    refine ⟨_, rfl, v, .ty "str", _, _, _, rfl, .ty "str", ty.x, kit_str ty.mem, _, rfl, ?_⟩
    by_cases ts : t = "str"
    · obtain ⟨x, rfl⟩ := ty.isStr ts
      subst ts
      have hx := hl x rfl
      refine iteF ⟨_, rfl, rfl, _, rfl, ?_⟩
      rw [dec_empty]
      cases e : x.cps.toList with
      | nil =>
        rw [decide_eq_true rfl]
        have k0 := k H (Same.refl H)
        rw [name_nil e] at k0
        exact iteT (iteT k0)
      | cons c r =>
        rw [decide_eq_false (by simp)]
        refine iteF ⟨_, rfl, x, rfl, hx, _, _, rfl, rfl, _, rfl, ?_⟩
        rw [lenL x]
        by_cases l12 : x.cps.toList.length ≤ 12
        · rw [decide_eq_false (by omega)]
          refine iteF ?_
          have ni := name_is e l12
          refine ⟨_, rfl, x, 0, c, rfl, rfl, hx, (show atI x.cps.toList ((0 : Nat) : Int) = some c from atI_nat (by rw [e]; rfl)), c, letters, rfl, rfl, _, rfl, ?_⟩
          show if inL c = true then _ else _
          refine ite2 (fun z => ?_) (fun z => ?_)
          · refine ⟨_, rfl, x, rfl, fun D hD => lc_it walk_str (fun i H' => H' = upd H D (.lst ((x.cps.toList.take i).map fun c => .bl (inS c)))) rfl (fun _ _ _ _ => True.intro) ?_ ?_⟩
            · rintro i y H' H'' hi rfl ⟨rfl, c', hc', rfl⟩
              refine ⟨rfl, ?_⟩
              change tOp Lc.rInS (tVar 1) (tC (.str signs)) _ _ _
              refine ⟨_, rfl, c', signs, rfl, rfl, _, upd_same, ?_, ?_⟩
              · rw [List.length_map, List.length_take]
                exact Nat.lt_of_le_of_lt (Nat.min_le_right _ _) (Nat.lt_of_le_of_lt l12 (by decide))
              · rw [upd_upd]
                exact congrArg (fun z => upd H D (.lst z)) (grow hc' inS)
            · rintro H' rfl
              have ez : x.cps.size = x.cps.toList.length := by simp
              refine ⟨D, x.cps.toList.map inS, rfl, SqL.of (by rw [upd_same, ez, List.take_length, List.map_map]; rfl), ?_⟩
              have k1 := k _ (Same.upd (o := .lst ((x.cps.toList.take x.cps.size).map fun c => .bl (inS c))) hD)
              rw [ni, z, ← e] at k1
              rw [List.all_map]
              exact k1
          · have k0 := k H (Same.refl H)
            rw [ni, show inL c = false by simpa using z] at k0
            exact k0
        · rw [decide_eq_true (by omega)]
          have k0 := k H (Same.refl H)
          rw [name_long l12] at k0
          exact iteT k0
    · have z : (t == "str") = false := by simpa using ts
      rw [z]
      have k0 := k H (Same.refl H)
      have nb : nameB v = false := by cases ty <;> first | rfl | exact absurd rfl ts
      rw [nb] at k0
      exact iteT (iteT k0)
end
end K17
set_option Elab.async false
set_option linter.all false
set_option maxRecDepth 100000
set_option maxHeartbeats 4000000
namespace Lc
open PySem PySem.Spec PyProof.Rows L2 He
/-! ## The head's facts, with one more Bool -/
abbrev AlE : Type := AlD × Bool
def obsE (n : Nat) (fa : List Fa) (fn : List DefD) (ex : PySem.W.Frag → Bool) (g : Addr → Option Obj) : AlE := (obsD fa fn (frG g (asD g n)), ex (frG g (asD g n)))
def hookE (n : Nat) (fa : List Fa) (fn : List DefD) (ex : PySem.W.Frag → Bool) : PySem.W.Hook where
  α := AlE
  obs := fun s => obsE n fa fn ex s.heap.get?
  val := fun _ => (valD fn, true)
  says := fun _ h => ∃ K : PySem.W.Frag, K.In h ∧ SaysD fa fn K ∧ ex K = true
  of := fun _ _ e => ⟨_, frG_in, congrArg (fun z : AlE => z.1) e, congrArg (fun z : AlE => z.2) e⟩
  keeps := fun _ _ _ ⟨K, hK, c⟩ k => ⟨K, PySem.W.Frag.In.keeps hK k, c⟩
theorem obsE_eq {n : Nat} {fa : List Fa} {fn : List DefD} {ex : PySem.W.Frag → Bool} {g : Addr → Option Obj} {s : Shared} (h : ∀ a, g a = s.heap.get? a) : obsE n fa fn ex g = (hookE n fa fn ex).obs s := by
  have e : g = s.heap.get? := funext h
  rw [e] <;> rfl
/-! ## What is asked of the error classes -/
def optB (a b : Option Bool) : Bool := decide (a = b)
def optV (a b : Option Value) : Bool := decide (a = b)
def oexB (K : PySem.W.Frag) (C : Addr) : Bool := (match K.lookup C with
  | some ⟨.type "type", _, .cls cd, sl⟩ => (match cd.mro, sl.toList with
    | .ref C' :: bm, [_, _, _, _, some (.builtin n), _] => C' == C && n == "ValueError.__new__" && !cd.hasDel && cd.hasDict && PySem.HandSPX.refsVE bm
    | _, _ => false)
  | _ => false) && (eqO (PySem.W.findIn K (.ref C) "__setattr__") (some (some (.builtin "object.__setattr__"))) && (optB (PySem.W.subIn K (.ref C) (.type "BaseException")) (some true) && (optV (PySem.W.typeIn K (.ref C)) (some (.type "type")) && PySem.W.keepIn K (.ref C))))
theorem oexB_ok {K : PySem.W.Frag} {C : Addr} (h : oexB K C = true) : OexC K C := by
  obtain ⟨q, h⟩ := ba h
  obtain ⟨h1, h⟩ := ba h
  obtain ⟨h2, h⟩ := ba h
  obtain ⟨h3, h4⟩ := ba h
  refine ⟨?_, eqO_ok h1, of_decide_eq_true h2, of_decide_eq_true h3, h4⟩
  split at q
  · rename_i dd cd sl ho
    split at q
    · rename_i C' bm k0 k1 k2 k3 n k5 hm hs
      simp only [Bool.and_eq_true, beq_iff_eq, Bool.not_eq_true'] at q
      obtain ⟨⟨⟨⟨rfl, rfl⟩, hdel⟩, hdi⟩, ht⟩ := q
      obtain ⟨nm, bs, mro, ns, qn, hd, sn, sub, ab, col, del⟩ := cd
      dsimp only at hm hdel hdi
      subst hm hdel hdi
      have hsl : sl = #[k0, k1, k2, k3, some (.builtin "ValueError.__new__"), k5] := by
        obtain ⟨l⟩ := sl
        simp only at hs
        rw [hs]
      subst hsl
      exact ⟨nm, qn, ns, bs, bm, sn, sub, ab, col, dd, k0, k1, k2, k3, k5, ho, ht⟩
    · cases q
  · cases q
def xisB (K : PySem.W.Frag) (C : Addr) : Bool := (PySem.W.clsIn K C).isSome && (eqO (PySem.W.findIn K (.ref C) "__getattribute__") (some (some (.builtin "BaseException.__getattribute__"))) && (eqO (PySem.W.findIn K (.ref C) "__getattr__") (some none) &&
  (optB (PySem.W.subIn K (.ref C) (.type "BaseException")) (some true) && (eqO (PySem.W.findIn K (.ref C) "__class__") (some (some (.builtin "object.__class__"))) && (eqO (PySem.W.specialIn K (.builtin "object.__class__") "__get__") (some (some (.builtin "getset_descriptor.__get__"))) &&
  (optB (PySem.W.takesIn K (.builtin "object.__class__")) (some true) && optB (PySem.W.mroIn K C (.type "object")) (some true)))))))
theorem xisB_ok {K : PySem.W.Frag} {C : Addr} (h : xisB K C = true) : XisC K C := by
  obtain ⟨h1, h⟩ := ba h
  obtain ⟨h2, h⟩ := ba h
  obtain ⟨h3, h⟩ := ba h
  obtain ⟨h4, h⟩ := ba h
  obtain ⟨h5, h⟩ := ba h
  obtain ⟨h6, h⟩ := ba h
  obtain ⟨h7, h8⟩ := ba h
  exact ⟨h1, eqO_ok h2, eqO_ok h3, of_decide_eq_true h4, eqO_ok h5, eqO_ok h6, of_decide_eq_true h7, of_decide_eq_true h8⟩
/-- a def without defaults -/
theorem fun_of {K : PySem.W.Frag} {x qual : Str} {st : Stmt} {f : Addr} {fd : FuncData} (F : FunD K x qual (defArgs st) (defBody st) (defScope st) [] [] f fd) : Fun K x qual st f fd := by
  obtain ⟨oc, od, dV, kV, doc, pm, an, cdv, ct, osl, rfl, lk, hcd, hD, hK⟩ := F.ex
  rcases hD with ⟨_, rfl⟩ | ⟨e, _⟩
  · exact ⟨⟨oc, od, kV, doc, pm, an, cdv, ct, osl, rfl, lk, hcd⟩, F.kp⟩
  · exact absurd rfl e
/-! ## The end of a law whose defs are promised where no repr is under way -/
theorem walk_GE {l : PySem.W.OpenLaw} {n k : Nat} {q : Program} {loose : List Str} {XP : (Str → Option Value) → Heap → Prop} {YP : World → Heap → Prop} {d : DefRec} {x : Str}
    (hn : l.most = some n) (hn2 : n ≤ sizeLine) (hdf : d.params.defaults = []) (hr : Room k callerA)
    (F : ∀ (w : World) (mg : Str → Option Value) (fa : Addr) (h : Heap), YP w h → h.Ns mainGlobals mg → mg d.name = some (.ref fa) →
      ∃ (K : PySem.W.Frag) (fd : FuncData) (sp : Sp), K.In h ∧ (∀ (s : Shared) (u : Value), BindsTo s fd ⟨[u], []⟩ [(x, u)]) ∧
        (∀ (H : Hp) (a : Addr) (ns : List Int), ns.length ≤ n → SqL K H a (ns.map V.int) → sp [.ref a] H (fun v _ => v = .bl true) fun _ _ _ => False) ∧
        ∀ base : Heap, K.In base → base.Ns mainGlobals mg → FnG l.prog w K mg base k fa fd [x] sp) :
    PySem.W.WalkO q loose XP YP l.row.toRowW d [] (fun f vs => PySem.call f vs) := by
  refine Att.attach_call hn hdf fun w _ s mg mb fa _ _ _ _ a vs ns G Y _ _ _ hmg hobj hints hlen hg => ?_
  obtain ⟨K, fd, sp, KX, hb, hsp, hF⟩ := F w mg fa _ Y G.T.g hmg
  exact law_callG KX G.T.g G.T.b G.T.builtins G.T.nolimit hg hobj hints (Nat.le_trans hlen hn2) hr hF hb fun H hS => hsp H a ns hlen hS
end Lc
namespace Lc
theorem all_at {l : List Bool} (h : l.all id = true) (i : Nat) {b : Bool} (e : l[i]? = some b := by rfl) : b = true := List.all_eq_true.mp h b (List.mem_of_getElem? e)
end Lc
set_option Elab.async false
set_option linter.all false
set_option maxRecDepth 100000
set_option maxHeartbeats 4000000
namespace Lc
open PySem PySem.Spec PyProof.Rows L2 He
/-! ## The head's facts, with dicts of the module that have text keys -/
abbrev AlF : Type := AlE × List (Option (List (Option (Str × Int))))
def obsF (n : Nat) (fa : List Fa) (fn : List DefD) (ex : PySem.W.Frag → Bool) (ts : List Tab) (g : Addr → Option Obj) : AlF := (obsE n fa fn ex g, ts.map fun t => dicW (frG g (asD g n)) (t.1 (frG g (asD g n))))
def TabsOk (ts : List Tab) (w : World) (K : PySem.W.Frag) : Prop := ∀ (i : Nat) (t : Tab), ts[i]? = some t → ∃ es n, KDict K w (t.1 K) es n
theorem tabs_of {ts : List Tab} {w : World} {K : PySem.W.Frag} (e : ts.map (fun t => dicW K (t.1 K)) = ts.map fun t => some (keysIn w.params t.2)) : TabsOk ts w K := by
  intro i t h
  have e2 : (ts.map fun t => dicW K (t.1 K))[i]? = (ts.map fun t => some (keysIn w.params t.2))[i]? := congrArg (fun l => l[i]?) e
  rw [List.getElem?_map, h, List.getElem?_map, h] at e2
  exact dicW_ok (Option.some.inj e2)
def hookF (n : Nat) (fa : List Fa) (fn : List DefD) (ex : PySem.W.Frag → Bool) (ts : List Tab) : PySem.W.Hook where
  α := AlF
  obs := fun s => obsF n fa fn ex ts s.heap.get?
  val := fun w => ((valD fn, true), ts.map fun t : Tab => some (keysIn w.params t.2))
  says := fun w h => ∃ K : PySem.W.Frag, K.In h ∧ SaysD fa fn K ∧ ex K = true ∧ TabsOk ts w K
  of := fun _ _ e => ⟨_, frG_in, congrArg (fun z : AlF => z.1.1) e, congrArg (fun z : AlF => z.1.2) e, tabs_of (show _ = _ from congrArg (fun z : AlF => z.2) e)⟩
  keeps := fun _ _ _ ⟨K, hK, c⟩ k => ⟨K, PySem.W.Frag.In.keeps hK k, c⟩
theorem obsF_eq {n : Nat} {fa : List Fa} {fn : List DefD} {ex : PySem.W.Frag → Bool} {ts : List Tab} {g : Addr → Option Obj} {s : Shared} (h : ∀ a, g a = s.heap.get? a) : obsF n fa fn ex ts g = (hookF n fa fn ex ts).obs s := by
  have e : g = s.heap.get? := funext h
  rw [e] <;> rfl
/-! ## what stands in such a dict -/
def atD (K : PySem.W.Frag) (d : Addr) (x : Str) : Addr := match PySem.W.nsIn K d x with
  | some (some (.ref a)) => a
  | _ => 0
def tupA (K : PySem.W.Frag) (a : Addr) (vs : List Dv) : Bool := match K.lookup a with
  | some ⟨.type c, _, .seq its _, _⟩ => decide (c = "tuple") && (decide (its.size ≤ sizeLine) && relAll (vs.map (Dv.v K)) its.toList)
  | _ => false
theorem tupA_ok {K : PySem.W.Frag} {a : Addr} {vs : List Dv} (h : tupA K a vs = true) (H : Hp) : SqT K H a (vs.map (Dv.v K)) := by
  unfold tupA at h
  split at h
  · rename_i c od its n osl q
    obtain ⟨h1, h2⟩ := ba h
    obtain ⟨h3, h4⟩ := ba h2
    exact .inr ⟨_, its, n, q, congrArg Value.type (of_decide_eq_true h1), rfl, of_decide_eq_true h3, relAll_ok h4⟩
  · cases h
/-- at the key x a tuple of these -/
def dtB (K : PySem.W.Frag) (d : Addr) (x : Str) (vs : List Dv) : Bool := eqO (PySem.W.nsIn K d x) (some (some (.ref (atD K d x)))) && tupA K (atD K d x) vs
theorem kdct_of {K : PySem.W.Frag} {w : World} {d a : Addr} {x : Str} (D : ∃ es n, KDict K w d es n) (h : PySem.W.nsIn K d x = some (some (.ref a))) : KDct K w d x (.ref a) := by
  obtain ⟨es, n, D⟩ := D
  exact ⟨es, n, _, D.at_, D.lit, h, rfl⟩
theorem dt_ok {K : PySem.W.Frag} {w : World} {d : Addr} {x : Str} {vs : List Dv} (D : ∃ es n, KDict K w d es n) (h : dtB K d x vs = true) : ∃ a, KDct K w d x (.ref a) ∧ PySem.W.nsIn K d x = some (some (.ref a)) ∧ ∀ H, SqT K H a (vs.map (Dv.v K)) := by
  obtain ⟨h1, h2⟩ := ba h
  exact ⟨_, kdct_of D (eqO_ok h1), eqO_ok h1, fun H => tupA_ok h2 H⟩
/-- at the key x the def y -/
def dfB (K : PySem.W.Frag) (d : Addr) (x y : Str) : Bool := eqO (PySem.W.nsIn K d x) (some (some (.ref (ga K y))))
def dnB (K : PySem.W.Frag) (d : Addr) (x : Str) : Bool := eqO (PySem.W.nsIn K d x) (some none)
end Lc
set_option Elab.async false
set_option linter.all false
set_option maxRecDepth 100000
set_option maxHeartbeats 4000000
namespace Lc
open PySem PySem.Spec PyProof.Rows L2 He
/-! ## The head's facts from a few globals alone: what is reached from the named ones, but not through the globals' own dict -/
def growN (g : Addr → Option Obj) (as : List Addr) : List Addr := ((as ++ as.flatMap fun a => match g a with
  | some o => refsD o
  | none => []).filter fun a => !Nat.beq a mainGlobals).eraseDups
def asN (names : List Str) (g : Addr → Option Obj) : Nat → List Addr
  | 0 => (names.map fun x => ga (frG g [mainGlobals]) x).eraseDups
  | n + 1 => growN g (asN names g n)
def asM (sm : Bool) (names : List Str) (g : Addr → Option Obj) (n : Nat) : List Addr := mainGlobals :: (if sm = true then [sysModules] else []) ++ asN names g n
def obsK (fa : List Fa) (fn : List DefD) (ex : PySem.W.Frag → Bool) (ts : List Tab) (K : PySem.W.Frag) : AlF := ((obsD fa fn K, ex K), ts.map fun t => dicW K (t.1 K))
def obsN (sm : Bool) (names : List Str) (n : Nat) (fa : List Fa) (fn : List DefD) (ex : PySem.W.Frag → Bool) (ts : List Tab) (g : Addr → Option Obj) : AlF := obsK fa fn ex ts (frG g (asM sm names g n))
def hookN (sm : Bool) (names : List Str) (n : Nat) (fa : List Fa) (fn : List DefD) (ex : PySem.W.Frag → Bool) (ts : List Tab) : PySem.W.Hook where
  α := AlF
  obs := fun s => obsN sm names n fa fn ex ts s.heap.get?
  val := fun w => ((valD fn, true), ts.map fun t : Tab => some (keysIn w.params t.2))
  says := fun w h => ∃ K : PySem.W.Frag, K.In h ∧ SaysD fa fn K ∧ ex K = true ∧ TabsOk ts w K
  of := fun _ _ e => ⟨_, frG_in, congrArg (fun z : AlF => z.1.1) e, congrArg (fun z : AlF => z.1.2) e, tabs_of (show _ = _ from congrArg (fun z : AlF => z.2) e)⟩
  keeps := fun _ _ _ ⟨K, hK, c⟩ k => ⟨K, PySem.W.Frag.In.keeps hK k, c⟩
theorem obsN_eq {sm : Bool} {names : List Str} {n : Nat} {fa : List Fa} {fn : List DefD} {ex : PySem.W.Frag → Bool} {ts : List Tab} {g : Addr → Option Obj} {s : Shared} (h : ∀ a, g a = s.heap.get? a) : obsN sm names n fa fn ex ts g = (hookN sm names n fa fn ex ts).obs s := by
  have e : g = s.heap.get? := funext h
  rw [e] <;> rfl
theorem smN_of {K : PySem.W.Frag} (h : (K.lookup sysModules).isSome = true) : ∃ o, K.lookup sysModules = some o := Option.isSome_iff_exists.mp h
end Lc
set_option Elab.async false
set_option linter.all false
set_option maxRecDepth 100000
set_option maxHeartbeats 4000000
namespace Lc
open PySem PySem.Spec PyProof.Rows L2 He LamX
/-! ## The head of a law that makes lambdas: the empty tables of code objects are left out -/
def noTab (o : Obj) : Bool := match o.data with
  | .fields vs => decide (0 < vs.size)
  | _ => true
def asT (g : Addr → Option Obj) (n : Nat) : List Addr := (asD g n).filter fun a => match g a with
  | some o => noTab o
  | none => true
def obsT (n : Nat) (fa : List Fa) (fn : List DefD) (ex : PySem.W.Frag → Bool) (g : Addr → Option Obj) : AlE := (obsD fa fn (frG g (asT g n)), ex (frG g (asT g n)))
def hookT (n : Nat) (fa : List Fa) (fn : List DefD) (ex : PySem.W.Frag → Bool) : PySem.W.Hook where
  α := AlE
  obs := fun s => obsT n fa fn ex s.heap.get?
  val := fun _ => (valD fn, true)
  says := fun _ h => ∃ K : PySem.W.Frag, K.In h ∧ SaysD fa fn K ∧ ex K = true
  of := fun _ _ e => ⟨_, frG_in, congrArg (fun z : AlE => z.1) e, congrArg (fun z : AlE => z.2) e⟩
  keeps := fun _ _ _ ⟨K, hK, c⟩ k => ⟨K, PySem.W.Frag.In.keeps hK k, c⟩
theorem obsT_eq {n : Nat} {fa : List Fa} {fn : List DefD} {ex : PySem.W.Frag → Bool} {g : Addr → Option Obj} {s : Shared} (h : ∀ a, g a = s.heap.get? a) : obsT n fa fn ex g = (hookT n fa fn ex).obs s := by
  have e : g = s.heap.get? := funext h
  rw [e] <;> rfl
theorem look_mem {α β : Type} [BEq α] [LawfulBEq α] {p : α} {o : β} : ∀ {K : List (α × β)}, K.lookup p = some o → (p, o) ∈ K
  | [], e => nomatch e
  | (b, u) :: r, e => by
    rw [List.lookup_cons] at e
    by_cases z : p = b
    · subst z
      rw [beq_self_eq_true] at e
      cases e
      exact List.mem_cons_self
    · rw [show (p == b) = false by simpa using z] at e
      exact List.mem_cons_of_mem _ (look_mem e)
def tabB (K : PySem.W.Frag) : Bool := K.all fun p => noTab p.2
def EmptyTab (h : Heap) (p : Addr) : Prop := h.get? p = some { cls := .none, data := .fields #[] }
theorem tabB_ok {K : PySem.W.Frag} (h : tabB K = true) {hp : Heap} {p : Addr} (X : K.In hp) (e : EmptyTab hp p) : K.lookup p = none := by
  cases q : K.lookup p with
  | none => rfl
  | some o =>
    have z : hp.get? p = some { cls := .none, data := .fields #[] } := e
    rw [X p o q] at z
    have m := List.all_eq_true.mp h _ (look_mem q)
    rw [Option.some.inj z] at m
    exact nomatch (show decide (0 < (#[] : Array Value).size) = true from m)
/-! ## The law is called -/
section
variable {P : Program} {w : World} {K : PySem.W.Frag} {mg mb : Str → Option Value} {k : Nat} {fa a c p : Addr} {fd : FuncData} {x : Str} {sp : Sp} {s : Shared} {vs : List Value} {ns : List Int}
/-- what may stand in the abstract heap: the script and the table -/
structure Only (K : PySem.W.Frag) (a p : Addr) (H : Hp) : Prop where
  tab : H p = some (.tbl #[])
  oth : ∀ b, b ≠ a → b ≠ p → H b = none
  frz : ∀ o, H a = some o → K.lookup a = none ∧ ∃ ob xs, o = .frz ob (.lst xs)
theorem call_ofT {H : Hp} (KX : K.In s.heap) (hns : s.heap.Ns mainGlobals mg) (hb : s.heap.Ns builtinsNs mb) (hbb : ∀ x : Str, x ≠ "__name__" → mb x = bootBuiltins x) (hlim : s.heap.NoLimit) (hg : s.gens = #[])
    (ha : s.heap.get? a = some { cls := .type "list", data := .seq vs.toArray }) (ht : EmptyTab s.heap p) (np : K.lookup p = none) (C : PySem.W.CodeHd s.heap c p)
    (hbm : ∃ (bm : Addr) (ob : Obj), mg "__builtins__" = some (.ref bm) ∧ bm ≠ builtinsNs ∧ s.heap.get? bm = some ob ∧ ob.cls = .type "module" ∧ ob.dict = some builtinsNs ∧ ob.data = .plain)
    (hok : HOk P w H s.heap) (O : Only K a p H) : K.In (hidT s.heap H) ∧ (hidT s.heap H).Ns mainGlobals mg ∧ Env0 P w K mg (hidT s.heap H) callerA [] s H ∧ TabB (hidT s.heap H) mg c p := by
  -- what is neither the script nor the table is seen
  have see : ∀ {b : Addr} {o : Obj}, s.heap.get? b = some o → o.data ≠ .seq vs.toArray → o.data ≠ .fields #[] → (hidT s.heap H).get? b = some o := fun {b o} e n1 n2 => by
    refine hidT_get e (O.oth b (fun z => ?_) fun z => ?_)
    · rw [z, ha] at e
      cases e
      exact n1 rfl
    · rw [z, show s.heap.get? p = _ from ht] at e
      cases e
      exact n2 rfl
  have ns_ : ∀ {b : Addr} {m : Str → Option Value}, s.heap.Ns b m → (hidT s.heap H).Ns b m := by
    rintro b m ⟨o, es, ep, e, d, r⟩
    exact ⟨o, es, ep, see e (by rw [d]; nofun) (by rw [d]; nofun), d, r⟩
  have kin : K.In (hidT s.heap H) := fun b o e => hidT_get (KX b o e) (by
    by_cases zp : b = p
    · rw [zp, np] at e
      cases e
    · by_cases za : b = a
      · cases q : H b with
        | none => rfl
        | some u =>
          rw [za] at q e
          rw [(O.frz u q).1] at e
          cases e
      · exact O.oth b za zp)
  obtain ⟨mc, l1, l2⟩ := hlim
  refine ⟨kin, ns_ hns, ⟨rfl, ⟨kin, ns_ hns, ⟨mb, ns_ hb, hbb⟩, ⟨mc, ns_ l1, l2⟩⟩, fun b o e => of_hidT e, Nat.le_of_eq (hidT_size _ _), trivial, fun b z => absurd (show b ∈ ([] : List Addr) from z) (by simp), hok, .of_eq hg⟩, ?_, ?_, ?_⟩
  · obtain ⟨o, us, file, tf, flags, tg, inF, text, tt, e1, r1, r2, r3, rest⟩ := C
    refine ⟨o, us, file, tf, flags, tg, inF, text, tt, see e1 (by rw [r2]; nofun) (fun z => ?_), r1, r2, r3, rest⟩
    rw [r2] at z
    have z' : us = #[] := by injection z
    rw [z'] at r3
    exact nomatch r3
  · obtain ⟨bm, ob, b1, b2, b3, b4, b5, b6⟩ := hbm
    refine ⟨bm, ob, b1, b2, fun z => ?_, fun z => ?_, see b3 (by rw [b6]; nofun) (by rw [b6]; nofun), b4, b5, b6⟩
    · obtain ⟨o, es, ep, e, d, _⟩ := hns
      rw [← z, b3] at e
      cases e
      rw [b6] at d
      cases d
    · rw [z, show s.heap.get? p = _ from ht] at b3
      cases b3
      cases b6
  · intro z
    obtain ⟨o, es, ep, e, d, _⟩ := hns
    rw [z, show s.heap.get? p = _ from ht] at e
    cases e
    cases d
theorem law_callT (KX : K.In s.heap) (hns : s.heap.Ns mainGlobals mg) (hb : s.heap.Ns builtinsNs mb) (hbb : ∀ x : Str, x ≠ "__name__" → mb x = bootBuiltins x) (hlim : s.heap.NoLimit) (hg : s.gens = #[])
    (ha : s.heap.get? a = some { cls := .type "list", data := .seq vs.toArray }) (ht : EmptyTab s.heap p) (np : K.lookup p = none) (C : PySem.W.CodeHd s.heap c p) (TA : s.heap.TableAt c p #[])
    (hbm : ∃ (bm : Addr) (ob : Obj), mg "__builtins__" = some (.ref bm) ∧ bm ≠ builtinsNs ∧ s.heap.get? bm = some ob ∧ ob.cls = .type "module" ∧ ob.dict = some builtinsNs ∧ ob.data = .plain)
    (hi : IntsAre vs ns) (hl : ns.length ≤ sizeLine) (hr : Room k callerA)
    (F : ∀ base : Heap, K.In base → base.Ns mainGlobals mg → TabB base mg c p → FnG P w K mg base k fa fd [x] sp) (hbind : ∀ (s : Shared) (u : Value), BindsTo s fd ⟨[u], []⟩ [(x, u)])
    (hsp : ∀ H : Hp, H p = some (.tbl #[]) → SqL K H a (ns.map V.int) → sp [.ref a] H (fun v _ => v = .bl true) fun _ _ _ => False) :
    codeAny (model P w) callerA (.call (.ref fa) ⟨[.ref a], []⟩) (fun r s' => r = .ok (.ret (.bool true)) ∧ OldK s.heap s'.heap ∧ s'.os = s.os ∧ AllBare s'.gens) s := by
  have rv := vals_ints hi
  have pa : p ≠ a := fun z => by
    have e : s.heap.get? p = some { cls := .none, data := .fields #[] } := ht
    rw [z, ha] at e
    cases e
  have go : ∀ H : Hp, SqL K H a (ns.map V.int) → HOk P w H s.heap → Only K a p H →
      codeAny (model P w) callerA (.call (.ref fa) ⟨[.ref a], []⟩) (fun r s' => r = .ok (.ret (.bool true)) ∧ OldK s.heap s'.heap ∧ s'.os = s.os ∧ AllBare s'.gens) s := by
    intro H hS hok O
    obtain ⟨k1, k2, e0, tb⟩ := call_ofT KX hns hb hbb hlim hg ha ht np C hbm hok O
    refine codeAny_mono ((F _ k1 k2 tb).run callerA [] s H ⟨[.ref a], []⟩ [.ref a] [.ref a] _ _ rfl hr e0 (hbind s (.ref a)) (.cons rfl .nil) (hsp H O.tab hS)) fun r s' h => ?_
    cases r with
    | error _ => exact False.elim h
    | ok fl =>
      cases fl with
      | next => exact False.elim h
      | brk => exact False.elim h
      | cont => exact False.elim h
      | ret u =>
        obtain ⟨v, H', os, bare, un, hok', ru, ev⟩ := h
        subst ev
        obtain rfl : u = Value.bool true := ru
        obtain ⟨more, zt⟩ := un.tbls p #[] O.tab
        have now := hok' p _ zt
        have kept : ∀ b o, b ≠ p → s.heap.get? b = some o → s'.heap.get? b = some o := fun b o nb e => by
          cases q : H b with
          | none => exact un.keep b o e q (fun z => absurd (show b ∈ ([] : List Addr) from z) (by simp)) (by simp)
          | some oo =>
            have zb : b = a := Classical.byContradiction fun z => by rw [O.oth b z nb] at q; cases q
            subst zb
            obtain ⟨_, ob, xs, rfl⟩ := O.frz oo q
            obtain ⟨e1, _⟩ := hok b _ q
            obtain ⟨e2, _⟩ := hok' b _ (un.frzs b ob _ q)
            rw [e] at e1
            cases e1
            exact e2
        refine ⟨rfl, ⟨fun b o e => ?_, fun b o e => ?_⟩, os, bare⟩
        · by_cases zb : b = p
          · subst zb
            rw [show s.heap.get? b = _ from ht] at e
            cases e
            exact .inr (.inl ⟨TA.isCodeTable, rfl, #[], more, rfl, by rw [Array.empty_append] at now ⊢; exact now⟩)
          · exact .inl (kept b o zb e)
        · by_cases zb : b = p
          · exact ⟨_, by rw [zb]; exact now⟩
          · exact ⟨o, kept b o zb e⟩
  cases hk : K.lookup a with
  | some o =>
    have e := KX a o hk
    rw [ha] at e
    cases e
    refine go (upd (fun _ => none) p (.tbl #[])) (.inr ⟨_, vs.toArray, _, hk, rfl, rfl, rfl, by rw [List.size_toArray, hi.length]; exact hl, by simpa using rv⟩) (fun b u z => ?_) ⟨upd_same, fun b _ n => upd_ne n, fun o z => ?_⟩
    · by_cases q : b = p
      · subst q
        rw [upd_same] at z
        cases z
        exact ht
      · rw [upd_ne q] at z
        cases z
    · rw [upd_ne pa.symm] at z
      cases z
  | none =>
    let ob : Obj := { cls := .type "list", data := .seq vs.toArray }
    refine go (upd (upd (fun _ => none) p (.tbl #[])) a (.frz ob (.lst (ns.map V.int)))) (.inl (.inr ⟨ob, upd_same⟩)) (fun b u z => ?_) ⟨by rw [upd_ne pa, upd_same], fun b n1 n2 => by rw [upd_ne n1, upd_ne n2], fun o z => ?_⟩
    · by_cases q : b = a
      · subst q
        rw [upd_same] at z
        cases z
        exact ⟨ha, by rw [List.length_map]; exact hl, vs, _, rv, ha⟩
      · rw [upd_ne q] at z
        by_cases q2 : b = p
        · subst q2
          rw [upd_same] at z
          cases z
          exact ht
        · rw [upd_ne q2] at z
          cases z
    · rw [upd_same] at z
      cases z
      exact ⟨hk, ob, _, rfl⟩
end
/-- the end of a law that makes lambdas; p: its table -/
theorem walk_TE {l : PySem.W.OpenLaw} {n k : Nat} {q : Program} {loose : List Str} {XP : (Str → Option Value) → Heap → Prop} {YP : World → Heap → Prop} {d : DefRec} {x : Str}
    (hn : l.most = some n) (hn2 : n ≤ sizeLine) (hdf : d.params.defaults = []) (hr : Room k callerA) (hrec : ((recsOf q).any fun e => e.name == d.name) = true)
    (F : ∀ (w : World) (mg : Str → Option Value) (fa : Addr) (h : Heap), YP w h → h.Ns mainGlobals mg → mg d.name = some (.ref fa) →
      ∃ (K : PySem.W.Frag) (fd : FuncData) (c : Addr) (sp : Addr → Sp), K.In h ∧ tabB K = true ∧ (∃ o, K.lookup fa = some o ∧ o.data = .func fd ∧ fd.code = .ref c) ∧ (∀ (s : Shared) (u : Value), BindsTo s fd ⟨[u], []⟩ [(x, u)]) ∧
        (∀ (p : Addr) (H : Hp) (a : Addr) (ns : List Int), ns.length ≤ n → H p = some (.tbl #[]) → SqL K H a (ns.map V.int) → sp p [.ref a] H (fun v _ => v = .bl true) fun _ _ _ => False) ∧
        ∀ (p : Addr) (base : Heap), K.In base → base.Ns mainGlobals mg → TabB base mg c p → FnG l.prog w K mg base k fa fd [x] (sp p)) :
    PySem.W.WalkO q loose XP YP l.row.toRowW d [] (fun f vs => PySem.call f vs) := by
  refine Att.attach_call hn hdf fun w _ s mg mb fa _ _ _ _ a vs ns G Y _ _ _ hmg hobj hints hlen hg => ?_
  obtain ⟨K, fd, c, sp, KX, tb, ⟨o, lo, od, oc⟩, hb, hsp, hF⟩ := F w mg fa _ Y G.T.g hmg
  obtain ⟨dL, hm, hn1⟩ := List.any_eq_true.mp hrec
  obtain ⟨a', o', fd', c', p, h1, h2, h3, h4, h5, h6⟩ := G.T.tab dL hm
  rw [beq_iff_eq.mp hn1, hmg] at h1
  cases h1
  rw [KX _ _ lo] at h2
  cases h2
  rw [od] at h3
  cases h3
  rw [oc] at h4
  cases h4
  have ht : EmptyTab s.heap p := h6.2
  exact law_callT KX G.T.g G.T.b G.T.builtins G.T.nolimit hg hobj ht (tabB_ok tb KX ht) (PySem.W.CodeHd.of h5 h6) h6 G.T.bmain hints (Nat.le_trans hlen hn2) hr (hF p) hb fun H h1 h2 => hsp p H a ns hlen h1 h2
/-! ## A def whose code object is known -/
section
variable {P : Program} {w : World} {K : PySem.W.Frag} {mg : Str → Option Value} {base : Heap}
theorem Fun.okGc {x qual : Str} {st : Stmt} {f c : Addr} {fd : FuncData} {N ps : List Str} {k : Nat} {sp : Sp} (F : Fun K x qual st f fd) (hc : fd.code = .ref c) (S : FnScope N ps (defScope st)) (len : ∀ vs H Q E, sp vs H Q E → vs.length = ps.length)
    (go : ∀ (A : Around) (outer : List Env) (s : Shared) (H : Hp) (vs : List V) (Q : VK) (E : XK), A.guards = some [] → Room k (A.deeper (envOfC qual (defScope st) s.heap.objs.size f (.ref c))) → sp vs H Q E →
      ∃ t, PSs (cxOf CX0 P w K mg base N qual (defScope st) f (.ref c) A outer s H E).nox (defBody st) t ∧ t { nx := fun _ H' => Q .non H', rt := Q } (start N vs) H) : FnG P w K mg base (k + 1) f fd ps sp := by
  obtain ⟨oc, od, kV, doc, pm, an, cdv, ct, osl, rfl, lk, hcd⟩ := F.ex
  obtain rfl : cdv = .ref c := hc
  refine ⟨len, fun A outer s H args us vs Q E hg hr e0 hb r hsp => ?_⟩
  have up : ∀ b o, base.get? b = some o → s.heap.get? b = some o := fun b o z => (e0.bs b o z).1
  have KX := e0.mod.kin.keeps up
  refine codeAny_call_function hr.depth (KX _ _ lk) rfl S.co S.gen rfl (PySem.W.codeRec_of KX hcd) (hb _ _ _ _ ?_)
  refine wpAny_newFunctionEnv_cells S.kind (fun y hy => ?_) fun env he s1 x => ?_
  · rcases S.par y.1 (List.of_mem_zip (a := y.1) (b := y.2) hy).1 with z | z
    · exact .inl z
    · exact .inr ⟨z, PySem.W.cellsFrom_some _ _ _ (.inl z)⟩
  subst he
  obtain ⟨t, ht, hq⟩ := go A outer s H vs Q E hg (hr.deeper _) hsp
  have I : Inv (cxOf CX0 P w K mg base N qual (defScope st) f (.ref c) A outer s H E) [] (start N vs) H s1 := inv_start S hr.hd e0 (len _ _ _ _ hsp) r x
  refine ⟨(e0.mod.nolimit.keeps up).keeps x.toInCall.keep, codeAny_func (wpAny_mono (ht.nox.run [] s1 (start N vs) H _ I hq) (fun fl s' hs => ?_) fun _ _ z => z)⟩
  cases fl with
  | ret u => obtain ⟨v, _, H', J, rv, q⟩ := hs; exact ⟨v, H', J.os, J.bare, J.base, J.hok, rv, q⟩
  | next => obtain ⟨_, H', J, q⟩ := hs; exact ⟨V.non, H', J.os, J.bare, J.base, J.hok, rfl, q⟩
  | brk => obtain ⟨_, _, _, q⟩ := hs; exact q.elim
  | cont => obtain ⟨_, _, _, q⟩ := hs; exact q.elim
end
/-! ## What stays: all but the tape and the tables -/
def Stp (t : Addr) (H H' : Hp) : Prop := ∀ b o, b ≠ t → (∀ ps, o ≠ .tbl ps) → H b = some o → H' b = some o
theorem Stp.refl (t : Addr) (H : Hp) : Stp t H H := fun _ _ _ _ e => e
theorem Stp.trans {t : Addr} {H H1 H2 : Hp} (a : Stp t H H1) (b : Stp t H1 H2) : Stp t H H2 := fun c o n m e => b c o n m (a c o n m e)
theorem Stp.of {t : Addr} {H H' : Hp} (s : Same H H') : Stp t H H' := fun b o _ _ e => s b o e
theorem Stp.b {t : Addr} {H H' : Hp} (s : SameB t H H') : Stp t H H' := fun b o n _ e => s b o n e
theorem Stp.n {t : Addr} {H H' : Hp} (s : ExtN H H') : Stp t H H' := fun b o _ m e => s b o e m
/-- the tape and the tables stand -/
structure Stands (T : List (Addr × Str)) (t : Addr) (H : Hp) : Prop where
  tp : Tape H t
  tb : Tabs T H
theorem Stands.same {T : List (Addr × Str)} {t : Addr} {H H' : Hp} (J : Stands T t H) (s : Same H H') : Stands T t H' := ⟨J.tp.same s, J.tb.ext s⟩
theorem Stands.b {T : List (Addr × Str)} {t : Addr} {H H' : Hp} (J : Stands T t H) (s : SameB t H H') (z : Tape H' t) : Stands T t H' := by
  refine ⟨z, fun p hp => ?_⟩
  obtain ⟨l, _, _, _, _, ht, _⟩ := J.tp
  obtain ⟨ps, h1, h2, h3⟩ := J.tb p hp
  have ne : ∀ {b : Addr} {o : HO}, H b = some o → (∀ xs, o ≠ .lst xs) → b ≠ t := fun {b o} e n z => by
    rw [z, ht] at e
    exact n _ (Option.some.inj e).symm
  refine ⟨ps, s _ _ (ne h1 nofun) h1, h2, fun pos cv hc => ?_⟩
  obtain ⟨c, e1, e2⟩ := h3 pos cv hc
  exact ⟨c, e1, s _ _ (ne e2 fun xs z => by unfold CodeO at z; cases z) e2⟩
theorem Stands.n {T : List (Addr × Str)} {t : Addr} {H H' : Hp} (J : Stands T t H) (s : ExtN H H') (z : Tabs T H') : Stands T t H' := by
  obtain ⟨l, ns, p, r, m, h1, h2, h3⟩ := J.tp
  exact ⟨⟨l, ns, p, r, m, s _ _ h1 nofun, s _ _ h2 nofun, h3⟩, z⟩
theorem code_of {K : PySem.W.Frag} {x qual : Str} {params : Arguments} {body : List Stmt} {scope : Scope} {dvs : List V} {kws : List (Str × V)} {f : Addr} {fd : FuncData} (F : FunD K x qual params body scope dvs kws f fd) : ∃ c, ∃ o, K.lookup f = some o ∧ o.data = .func fd ∧ fd.code = .ref c := by
  obtain ⟨oc, od, dV, kV, doc, pm, an, cdv, ct, osl, rfl, lk, hcd, _, _⟩ := F.ex
  cases cdv with
  | ref c => exact ⟨c, _, lk, rfl, rfl⟩
  | _ => cases hcd
end Lc
set_option Elab.async false
set_option linter.all false
set_option maxRecDepth 100000
set_option maxHeartbeats 4000000
namespace Lc
open PySem PySem.Spec PyProof.Rows L2 He LamX
/-! ## The head's facts from a few globals alone, the empty tables of code objects left out -/
def asU (sm : Bool) (names : List Str) (g : Addr → Option Obj) (n : Nat) : List Addr := (asM sm names g n).filter fun a => match g a with
  | some o => noTab o
  | none => true
def obsU (sm : Bool) (names : List Str) (n : Nat) (fa : List Fa) (fn : List DefD) (ex : PySem.W.Frag → Bool) (ts : List Tab) (g : Addr → Option Obj) : AlF := obsK fa fn ex ts (frG g (asU sm names g n))
def hookU (sm : Bool) (names : List Str) (n : Nat) (fa : List Fa) (fn : List DefD) (ex : PySem.W.Frag → Bool) (ts : List Tab) : PySem.W.Hook where
  α := AlF
  obs := fun s => obsU sm names n fa fn ex ts s.heap.get?
  val := fun w => ((valD fn, true), ts.map fun t : Tab => some (keysIn w.params t.2))
  says := fun w h => ∃ K : PySem.W.Frag, K.In h ∧ SaysD fa fn K ∧ ex K = true ∧ TabsOk ts w K
  of := fun _ _ e => ⟨_, frG_in, congrArg (fun z : AlF => z.1.1) e, congrArg (fun z : AlF => z.1.2) e, tabs_of (show _ = _ from congrArg (fun z : AlF => z.2) e)⟩
  keeps := fun _ _ _ ⟨K, hK, c⟩ k => ⟨K, PySem.W.Frag.In.keeps hK k, c⟩
theorem obsU_eq {sm : Bool} {names : List Str} {n : Nat} {fa : List Fa} {fn : List DefD} {ex : PySem.W.Frag → Bool} {ts : List Tab} {g : Addr → Option Obj} {s : Shared} (h : ∀ a, g a = s.heap.get? a) : obsU sm names n fa fn ex ts g = (hookU sm names n fa fn ex ts).obs s := by
  have e : g = s.heap.get? := funext h
  rw [e] <;> rfl
/-- the end of a law behind a def that makes lambdas; p: the def's table -/
theorem walk_TE2 {l : PySem.W.OpenLaw} {n k : Nat} {q : Program} {loose : List Str} {XP : (Str → Option Value) → Heap → Prop} {YP : World → Heap → Prop} {d : DefRec} {x x2 : Str}
    (hn : l.most = some n) (hn2 : n ≤ sizeLine) (hdf : d.params.defaults = []) (hr : Room k callerA) (hrec : ((recsOf q).any fun e => e.name == x2) = true)
    (F : ∀ (w : World) (mg : Str → Option Value) (fa : Addr) (h : Heap), YP w h → h.Ns mainGlobals mg → mg d.name = some (.ref fa) →
      ∃ (K : PySem.W.Frag) (fd fd2 : FuncData) (c f2 : Addr) (sp : Addr → Sp), K.In h ∧ tabB K = true ∧ mg x2 = some (.ref f2) ∧ (∃ o, K.lookup f2 = some o ∧ o.data = .func fd2 ∧ fd2.code = .ref c) ∧ (∀ (s : Shared) (u : Value), BindsTo s fd ⟨[u], []⟩ [(x, u)]) ∧
        (∀ (p : Addr) (H : Hp) (a : Addr) (ns : List Int), ns.length ≤ n → H p = some (.tbl #[]) → SqL K H a (ns.map V.int) → sp p [.ref a] H (fun v _ => v = .bl true) fun _ _ _ => False) ∧
        ∀ (p : Addr) (base : Heap), K.In base → base.Ns mainGlobals mg → TabB base mg c p → FnG l.prog w K mg base k fa fd [x] (sp p)) :
    PySem.W.WalkO q loose XP YP l.row.toRowW d [] (fun f vs => PySem.call f vs) := by
  refine Att.attach_call hn hdf fun w _ s mg mb fa _ _ _ _ a vs ns G Y _ _ _ hmg hobj hints hlen hg => ?_
  obtain ⟨K, fd, fd2, c, f2, sp, KX, tb, m2, ⟨o, lo, od, oc⟩, hb, hsp, hF⟩ := F w mg fa _ Y G.T.g hmg
  obtain ⟨dL, hm, hn1⟩ := List.any_eq_true.mp hrec
  obtain ⟨a', o', fd', c', p, h1, h2, h3, h4, h5, h6⟩ := G.T.tab dL hm
  rw [beq_iff_eq.mp hn1, m2] at h1
  cases h1
  rw [KX _ _ lo] at h2
  cases h2
  rw [od] at h3
  cases h3
  rw [oc] at h4
  cases h4
  have ht : EmptyTab s.heap p := h6.2
  exact law_callT KX G.T.g G.T.b G.T.builtins G.T.nolimit hg hobj ht (tabB_ok tb KX ht) (PySem.W.CodeHd.of h5 h6) h6 G.T.bmain hints (Nat.le_trans hlen hn2) hr (hF p) hb fun H h1 h2 => hsp p H a ns hlen h1 h2
end Lc
set_option Elab.async false
set_option linter.all false
set_option maxRecDepth 100000
set_option maxHeartbeats 4000000
namespace Lc
open PySem PySem.Spec PyProof.Rows L2 He
/-! ## an int in a dict of the module with text keys -/
def diB (K : PySem.W.Frag) (d : Addr) (x : Str) (n : Int) : Bool := match PySem.W.nsIn K d x with
  | some (some (.int m _)) => decide (m = n)
  | _ => false
theorem di_ok {K : PySem.W.Frag} {w : World} {d : Addr} {x : Str} {n : Int} (D : ∃ es n, KDict K w d es n) (h : diB K d x n = true) : KDct K w d x (.int n) ∧ ∃ u, PySem.W.nsIn K d x = some (some u) := by
  unfold diB at h
  split at h
  · rename_i m t q
    obtain ⟨es, k, D⟩ := D
    have e : m = n := of_decide_eq_true h
    exact ⟨⟨es, k, _, D.at_, D.lit, q, ⟨t, by rw [e]⟩⟩, _, q⟩
  · cases h
end Lc
set_option Elab.async false
set_option linter.all false
set_option maxRecDepth 100000
set_option maxHeartbeats 8000000
namespace K17
open PySem PySem.Spec PyProof.Rows L2 Lc He
/-! ## the head -/
def dOf (x : Str) (st : Stmt) : DefD := ⟨(x, none), x, x, defArgs st, defBody st, defScope st, [], []⟩
def dMt (c m q : Str) (st : Stmt) : DefD := ⟨(c, some m), m, q, defArgs st, defBody st, defScope st, [], []⟩
def dKw (x : Str) (st : Stmt) (kw : List (Str × Dv)) : DefD := ⟨(x, none), x, x, defArgs st, defBody st, defScope st, [], kw⟩
def dDf (x : Str) (st : Stmt) (df : List Dv) : DefD := ⟨(x, none), x, x, defArgs st, defBody st, defScope st, df, []⟩
def dMd (c m q : Str) (st : Stmt) (df : List Dv) : DefD := ⟨(c, some m), m, q, defArgs st, defBody st, defScope st, df, []⟩
def fn : List DefD := [dMt "Table" "__init__" "Table.__init__" (inClass (top 58) 0), dMt "Table" "columns" "Table.columns" (inClass (top 58) 1), dMt "Table" "rows" "Table.rows" (inClass (top 58) 2), dOf "names_of" (top 57), dOf "kind_in" (top 80), dOf "behind_sort" (top 87), dOf "word_of" (top 97), dOf "columns_behind" (top 98), dOf "resolved" (top 100), dOf "by_size" (top 62), dOf "order_key" (top 110), dOf "sorted_rows" (top 111), dKw "run" (top 122) [("setting", .non)], dOf "_law_tape" (top 124), dOf "_law_draw" (top 125), dOf "_law_lowest" (top 126), dOf "_law_rational" (top 127), dOf "_law_name" (top 128), dOf "_law_fresh" (top 129), dOf "_law_columns" (top 130), dOf "_law_value" (top 131), dOf "_law_values" (top 132), dOf "_law_sort_step" (top 133), dOf "_law_less" (top 134), dOf "_law_ahead" (top 135), dOf "_law_sorted" (top 136), dOf "law" (top 137)]
def gl : List Str := (["Table", "LENGTHS", "BEHIND", "ROWS_BEHIND", "ORDERS", "names_of", "kind_in", "behind_sort", "word_of", "columns_behind", "resolved", "by_size", "order_key", "sorted_rows", "run", "_law_tape", "_law_draw", "_law_lowest", "_law_rational", "_law_name"] : List Str) ++ (["_law_fresh", "_law_columns", "_law_value", "_law_values", "_law_sort_step", "_law_less", "_law_ahead", "_law_sorted"] : List Str)
def loose : List Str := gl ++ (["BadNumber", "BadExpression", "UnknownName", "DivisionByZero", "TooLarge", "BadChoice", "is_whole", "common_divisor", "is_rational", "check_rational", "lowest_terms", "add", "subtract", "multiply", "divide", "compare", "LETTERS", "NAME_SIGNS", "LONGEST_NAME", "KINDS"] : List Str) ++ (["LIMIT", "MOST_COLUMNS", "is_name", "within_limit", "is_value", "DEEPEST", "OPERANDS", "ARITHMETIC", "PAIRED", "kind_of", "kind_or_none", "kind_at", "has_word", "leaf_kind", "kind_of_value", "check_operands", "result_kind", "limited", "plus", "minus"] : List Str) ++ (["times", "over", "less", "same", "both", "either", "STRICT", "LENIENT", "evaluate", "worth", "worth_of_two", "union_of", "FUNCTIONS", "total", "common_scale", "scaled", "sum_of", "mean_of", "median_of", "least_of"] : List Str) ++ (["greatest_of", "OF_SOME", "MOST_COUNT", "MOST_WHOLE", "MOST_SEED", "MOST_KEYS", "MOST_TOTALS", "is_between", "is_tuple_of", "are_columns", "bounded", "behind_keep", "behind_set", "behind_select", "behind_rename", "behind_first", "behind_sample", "behind_join", "behind_union", "is_total"] : List Str) ++ (["behind_group", "behind_distinct", "chosen_index", "MOST_ROWS", "draw", "places_of", "picked", "kept_rows", "set_rows", "selected_rows", "all_rows", "first_rows", "sampled_rows", "grouped", "check_size", "joined_rows", "united_rows", "limited_total", "group_rows", "distinct_rows"] : List Str)
def fa : List Fa := (.glo "law") :: gl.map Fa.glo ++ (btNames ++ (["sorted"] : List Str)).map Fa.free ++ [.int "LIMIT" lim]
def exL (K : PySem.W.Frag) : List Bool := [tabB K, Fa.ok K (.mkr "Table"), Fa.ok K (.cls "Table"), Fa.ok K (.noat "Table" "shape"), Fa.ok K (.noat "Table" "body"), Fa.ok K (.meth "Table" "columns"), Fa.ok K (.meth "Table" "rows"), tupB K "ORDERS" [.str "up", .str "down"], diB K (ga K "LENGTHS") "sort" 3, dfB K (ga K "BEHIND") "sort" "behind_sort", dfB K (ga K "ROWS_BEHIND") "sort" "sorted_rows"]
def ex (K : PySem.W.Frag) : Bool := (exL K).all id
def ts : List Tab := [((fun K => ga K "LENGTHS"), ["keep", "set", "select", "rename", "sort", "first", "sample", "join", "union", "group", "distinct"]), ((fun K => ga K "BEHIND"), ["keep", "set", "select", "rename", "sort", "first", "sample", "join", "union", "group", "distinct"]), ((fun K => ga K "ROWS_BEHIND"), ["keep", "set", "select", "rename", "sort", "first", "sample", "join", "union", "group", "distinct"])]
abbrev R : PySem.W.OpenRow := PySem.W.OpenLaw.row PySem.Challenge.rw_liveclaims_k17_sorted_rows
abbrev hk : PySem.W.Hook := hookU false ("law" :: gl) 4 fa fn ex ts
def ob (s : PySem.W.SharedT) : AlF := obsU false ("law" :: gl) 4 fa fn ex ts (HandSHeadRun.getT s)
theorem ob_eq (s : PySem.W.SharedT) : ob s = hk.obs s.abs := obsU_eq (HandSHeadRun.getT_eq s)
theorem run_false (w : World) : HandSHeadRun.RunEq R (PySem.W.view R.prog [111, 137]) hk ob 20000 loose (w.withFollow "special-get-raises" false) := by
  intro os
  kernel_rfl
theorem run_true (w : World) : HandSHeadRun.RunEq R (PySem.W.view R.prog [111, 137]) hk ob 20000 loose (w.withFollow "special-get-raises" true) := by
  intro os
  kernel_rfl
theorem run (w : World) : HandSHeadRun.RunEq R (PySem.W.view R.prog [111, 137]) hk ob 20000 loose w := PySem.W.byRow2 "special-get-raises" (P := fun w => HandSHeadRun.RunEq R (PySem.W.view R.prog [111, 137]) hk ob 20000 loose w) run_false run_true w
end K17
set_option Elab.async false
set_option linter.all false
set_option maxRecDepth 100000
set_option maxHeartbeats 4000000
namespace K17
open PySem PySem.Spec PyProof.Rows L2 Lc
def spLNm : Sp := fun vs H Q _ => ∃ (t l : Addr), vs = [.ref t] ∧ TapeL l H t ∧ ∀ (x : Str) (H' : Hp), Sh 12 x → nameB (.str x) = true → TapeL l H' t → SameB t H H' → Q (.str x) H'
abbrev sLnm : Stmt := top 128
section
variable {P : Program} {w : World} {K : PySem.W.Frag} {mg : Str → Option Value} {base : Heap} {f fD : Addr} {fd fdD : FuncData}
theorem scLnm : FnScope ["_law_tape_here", "_law_letters", "_law_size", "_law_place", "_law_sign", "_law_k"] ["_law_tape_here"] (defScope sLnm) := ⟨rfl, rfl, rfl, by decide +kernel, rfl, by decide +kernel, by decide +kernel⟩
theorem ok_lnm (F : Fun K "_law_name" "_law_name" sLnm f fd) (T : Bt mg) (GD : FnOk P w K mg base CX0 1 fD fdD ["_law_tape_here", "_law_many"] spDrawL) (mD : mg "_law_draw" = some (.ref fD)) (kD : PySem.W.keepIn K (.ref fD) = true) (bD : Binds K fdD ["_law_tape_here", "_law_many"] []) :
    FnOk P w K mg base CX0 2 f fd ["_law_tape_here"] spLNm := by
  refine F.ok scLnm (fun vs H Q E h => ?_) (fun cdv A outer s H vs Q E hr h => ?_)
  · obtain ⟨t, l, rfl, _⟩ := h
    rfl
  · obtain ⟨t, l, rfl, hT, k⟩ := h
    replace hT : TapeL l H t := hT
    refine ⟨_, pss_cons (ps_set (i := 1) scLnm.nd rfl (Or.inr rfl) pe_str)
      (pss_cons (ps_set (i := 2) scLnm.nd rfl (Or.inl rfl) (pe_op op_add pe_int (pe_call GD hr (by rfl) mD kD bD .nil pass0 (pa_cons (pv 0) (pa_cons pe_int pa_nil)))))
      (pss_cons (ps_if (pt_cmpR op_eq (pe_call GD hr (by rfl) mD kD bD .nil pass0 (pa_cons (pv 0) (pa_cons pe_int pa_nil))) pe_int (nomark _))
        (pss_cons (ps_set (i := 3) scLnm.nd rfl (Or.inl rfl) (pe_call GD hr (by rfl) mD kD bD .nil pass0 (pa_cons (pv 0) (pa_cons (pv 2) pa_nil))))
        (pss_cons (ps_set (i := 4) scLnm.nd rfl (Or.inl rfl) (pe_ix ix_str (pv 1) (pe_call GD hr (by rfl) mD kD bD .nil pass0 (pa_cons (pv 0) (pa_cons (pe_op op_add pe_int (pe_op op_mul pe_int (pe_callTy call_int1 (by rfl) T.int boot_int (pa_cons (pe_cmpR op_gt (pv 3) pe_int (nomark _)) pa_nil)))) pa_nil))) (fun _ _ => rfl)))
        (pss_one (ps_ret (pe_op op_add_str (pe_op op_add_str (pe_op op_mulS pe_str (pv 3)) (pv 4)) (pe_op op_mulS pe_str (pe_op op_sub (pe_op op_sub (pv 2) pe_int) (pv 3)))))))) pss_nil)
      (pss_one (ps_ret (pe_join pe_str (pe_lc (own := [("_law_k", 5)]) (g := gName 5) (tt := tYes) (te := tOp rIxS (tVar 1) (tCall spDrawL [] E0 (tCons (tVar 0) (tCons (tOp (rI0 fun i j => .int (i + j)) (tC (.int 26)) (tOp (rI CMul fun i j => .int (i * j)) (tC (.int 10)) (tCB (fun xs H Q => (∃ i, xs = [.int i] ∧ Q (.int i) H) ∨ ∃ k, xs = [.bl k] ∧ Q (.int (if k then 1 else 0)) H) (tCons (tOp (rI0 fun i j => .bl (decide (j < i))) (tVar 5) (tC (.int 0))) tNil)))) tNil)))) (by rfl) scLnm.nd (pi_range1 (by rfl) T.range (pa_cons (pv 2) pa_nil))
        (blkOk_by (own := [("_law_k", 5)]) (N := ["_law_tape_here", "_law_letters", "_law_size", "_law_place", "_law_sign", "_law_k"]) (sc := defScope sLnm) (by decide +kernel)) (fun _ _ _ _ _ => pg_name (i := 5) scLnm.nd rfl (Or.inl rfl)) (fun _ _ _ _ _ => pts_nil)
        (fun _ _ _ _ _ => pe_ix ix_str (pv 1) (pe_call GD hr (by rfl) mD kD bD .nil pass0 (pa_cons (pv 0) (pa_cons (pe_op op_add pe_int (pe_op op_mul pe_int (pe_callTy call_int1 (by rfl) T.int boot_int (pa_cons (pe_cmpR op_gt (pv 5) pe_int (nomark _)) pa_nil)))) pa_nil))) (fun _ _ => rfl)))))))), ?_⟩
    have big : ∀ z : Int, 0 ≤ z → z ≤ 1000 → z.natAbs < 2 ^ 4000 := fun z h1 h2 => big1000 h1 h2
    have sl : (signs.cps.toList.length : Int) = 36 := by rw [signs_len]; rfl
    have sz : signs.length ≤ sizeLine := by rw [lenL, signs_len]; decide
    refine ⟨_, rfl, t, l, _, rfl, hT, by decide, big _ (by decide) (by decide), fun k1 H1 u1 v1 T1 S1 => ⟨_, _, rfl, rfl, ?_⟩⟩
    refine ⟨_, rfl, t, l, _, rfl, T1, by decide, big _ (by decide) (by decide), fun k2 H2 u2 v2 T2 S2 => ⟨rfl, _, rfl, ?_⟩⟩
    refine ite2 (fun _ => ?_) (fun _ => ?_)
    · refine ⟨_, rfl, _, rfl, t, l, _, rfl, T2, by omega, big _ (by omega) (by omega), fun k3 H3 u3 v3 T3 S3 => ?_⟩
      refine ⟨_, rfl, _, rfl, _, rfl, _, _, rfl, rfl, .inr ⟨_, rfl, _, _, rfl, rfl, .inl ⟨by decide, by decide⟩, _, _, rfl, rfl, t, l, _, rfl, T3, by split <;> decide, big _ (by split <;> decide) (by split <;> decide), fun k4 H4 u4 v4 T4 S4 => ?_⟩⟩
      obtain ⟨c, hc, mc, isc, ilc⟩ := sgn_at (i := k4) u4 (by split at v4 <;> omega)
      refine ⟨signs, k4, c, rfl, rfl, sz, hc, ?_⟩
      have m1 : Sh k3.toNat (Txt.mul (PySem.Str.ofString "a") k3) := sh_mul sh_a (Nat.le_refl _) (Nat.le_refl _)
      have m2 : Sh 1 (⟨#[c]⟩ : Str) := sh_one (signs_ok c mc)
      have m3 : Sh (1 + k1 - 1 - k3).toNat (Txt.mul (PySem.Str.ofString "a") (1 + k1 - 1 - k3)) := sh_mul sh_a (Nat.le_refl _) (Nat.le_refl _)
      have ss : (100 : Nat) ≤ sizeLine := by decide
      refine ⟨_, rfl, _, _, rfl, rfl, mul_ok a_size (by omega) (by omega), _, rfl, _, _, rfl, rfl, ?_, _, rfl, _, _, rfl, rfl, _, rfl, _, _, rfl, rfl, _, _, rfl, rfl, mul_ok a_size (by omega) (by omega), _, _, rfl, rfl, ?_, ?_⟩
      · have := sh_len m1
        have := sh_len m2
        omega
      · have := sh_len (sh_app m1 m2)
        have := sh_len m3
        omega
      · exact k _ _ ((sh_app (sh_app m1 m2) m3).mono (by omega)) (name_one u3 (by omega) (by omega) isc (fun z => ilc (by rw [z] at v4; simpa using v4))) T4 (((S1.trans S2).trans S3).trans S4)
    · refine ⟨⟨_, rfl⟩, _, rfl, _, rfl, by omega, by omega, fun D hD => ?_⟩
      have nD : D ≠ t := T2.tape.ne hD
      have nL : D ≠ l := by
        obtain ⟨xs, z⟩ := T2.list
        exact Ne.symm (ne_of_none z hD)
      let one : Nat → Str := fun c => ⟨#[c]⟩
      refine lc_it walk_range (fun i H' => ∃ cs : List Nat, H' D = some (.lst ((cs.map one).map V.str)) ∧ cs.length = i ∧ (∀ c ∈ cs, c ∈ signs.cps.toList ∧ inS c = true) ∧ (∀ c r, cs = c :: r → inL c = true) ∧ TapeL l H' t ∧ SameB t H2 H') ⟨[], upd_same, rfl, by simp, nofun, T2.same (Same.upd hD), Same.b t (Same.upd hD)⟩ (fun _ _ _ _ => True.intro) ?_ ?_
      · rintro i y H' H'' hi ⟨cs, h1, h2, h3, h3b, h4, h5⟩ ⟨rfl, rfl⟩
        refine ⟨rfl, ?_⟩
        change tOp rIxS (tVar 1) _ _ _ _
        refine ⟨_, rfl, _, rfl, _, rfl, _, _, rfl, rfl, .inr ⟨_, rfl, _, _, rfl, rfl, .inl ⟨by decide, by decide⟩, _, _, rfl, rfl, t, l, _, rfl, h4, by split <;> decide, big _ (by split <;> decide) (by split <;> decide), fun k4 H4 u4 v4 T4 S4 => ?_⟩⟩
        obtain ⟨c, hc, mc, isc, ilc⟩ := sgn_at (i := k4) u4 (by split at v4 <;> omega)
        refine ⟨signs, k4, c, rfl, rfl, sz, hc, _, S4 _ _ nD h1, by rw [List.length_map, List.length_map, h2]; exact Nat.lt_trans hi (Nat.lt_of_le_of_lt (show (1 + k1).toNat ≤ 12 by omega) (by decide)), ?_⟩
        refine ⟨cs ++ [c], by rw [upd_same, List.map_append, List.map_append]; rfl, by rw [List.length_append, h2]; rfl, fun y hy => ?_, fun c' r' e => ?_, T4.upd nD nL, fun b o n e => ?_⟩
        · rcases List.mem_append.mp hy with hy | hy
          · exact h3 y hy
          · rw [List.mem_singleton.mp hy]
            exact ⟨mc, isc⟩
        · cases cs with
          | nil =>
            have e : c = c' := by injection e
            rw [← e]
            have i0 : i = 0 := by rw [← h2]; rfl
            subst i0
            exact ilc (by simpa using v4)
          | cons d r =>
            injection e with e _
            rw [← e]
            exact h3b d r rfl
        · rw [upd_ne (ne_of_none e hD)]
          exact (h5.trans S4) b o n e
      · rintro H' ⟨cs, h1, h2, h3, h3b, h4, h5⟩
        have e12 : cs.length ≤ 12 := by omega
        have s1 : ∀ y ∈ cs.map one, Sh 1 y := fun y hy => by
          obtain ⟨c, hc, rfl⟩ := List.mem_map.mp hy
          exact sh_one (signs_ok c (h3 c hc).1)
        have sum : ∀ l : List Str, (∀ y ∈ l, Sh 1 y) → (l.map (·.length)).sum ≤ l.length := by
          intro l
          induction l with
          | nil => intro _; simp
          | cons y l ih =>
            intro h
            have := ih fun z hz => h z (List.mem_cons_of_mem _ hz)
            have := sh_len (h y List.mem_cons_self)
            simp only [List.map_cons, List.sum_cons, List.length_cons]
            omega
        have lm : (cs.map one).length = cs.length := List.length_map ..
        refine ⟨_, D, cs.map one, rfl, rfl, .inl (SqL.of h1), by have := sum _ s1; show _ + (cs.map one).length * 0 ≤ _; omega, ?_⟩
        exact k _ _ ((join_sh _ s1).mono (by omega)) (name_join (fun z => by rw [z] at h2; have : (0 : Nat) = (1 + k1).toNat := h2; omega) e12 h3b (fun c hc => (h3 c hc).2)) h4 ((S1.trans S2).trans h5)
end
end K17
set_option Elab.async false
set_option linter.all false
set_option maxRecDepth 100000
set_option maxHeartbeats 4000000
namespace Lc
open PySem PySem.Spec PyProof.Rows L2
theorem ud_entry : entryFor table "dict.update.loop" = some Builtin.«dict.update.loop» := entryFor_of_tree (by kernel_rfl)
theorem ud_plain : plainId "dict.update.loop" = true := by decide +kernel
section
variable {prog : Program} {w : World} {A : Around} {E : Value → Shared → Prop}
/-- the walk over the pairs -/
theorem upd_loopT {R : Result → Shared → Prop} {S I l : Addr} {items : Array Value} {res : Value} (hh : A.handled = none) (hlI : l ≠ I) (hSI : S ≠ I) (hSl : S ≠ l) :
    ∀ (rest : List (Key × Value)) (i : Nat) (acc : List (Key × Value)) (ix : Int) (t : Tok) (s : Shared), items.size = i + rest.length → acc.length + rest.length ≤ sizeLine →
      (∀ (j : Nat) (q : Key × Value), rest[j]? = some q → ∃ (b : Addr) (u : Value), items[i + j]? = some (.ref b) ∧ b ≠ S ∧ b ≠ I ∧ IsTup s.heap b #[u, q.2] ∧ keyIs q.1 u = true) →
      s.heap.IsTupleIter I l i → s.heap.IsTuple l items → s.heap.DictOf (mixKind prog w) S acc →
      (∀ h' tk, h'.DictOf (mixKind prog w) S (merged acc rest) → (∀ b o, b ≠ S → b ≠ I → s.heap.get? b = some o → h'.get? b = some o) → R (.ok (.ret res)) { s with heap := h', toks := tk }) →
      codeAny (model prog w) A (.builtin "dict.update.loop" ⟨[.ref S, .ref I, .int ix t, res], []⟩) R s
  | [], i, acc, ix, t, s, hsz, hln, ht, hit, hl, hm, hR => by
    refine codeAny_builtin ud_entry ?_
    rw [Around.under_plainId ud_plain _]
    show wpAny _ A.in1 (pyNext (.ref I) >>= _) _ _ s
    refine wpAny_bind (wpAny_pyNext_tuple_end (A := A.in1) hh hit hl (by first | exact Array.getElem?_eq_none (Nat.le_of_eq hsz) | (simp at hsz; simp; omega)) fun h' he => ?_)
    show wpAny _ A.in1 (Builtin.Dict.addKeywords S [] >>= _) _ _ _
    refine wpAny_bind (wpAny_pure (wpAny_pure ?_))
    exact hR h' s.toks (hm.extBut he hSI) fun b o _ hb e => he b o hb e
  | q :: rest, i, acc, ix, t, s, hsz, hln, ht, hit, hl, hm, hR => by
    obtain ⟨b, u, hb, hbS, hbI, htup, hk⟩ := ht 0 q rfl
    rw [List.length_cons] at hsz hln
    refine codeAny_builtin ud_entry ?_
    rw [Around.under_plainId ud_plain _]
    show wpAny _ A.in1 (pyNext (.ref I) >>= _) _ _ s
    refine wpAny_bind (wpAny_pyNext_tuple_item (x := .ref b) hit hl (by simpa using hb) fun h1 hit1 hs1 => ?_)
    have ht1 : IsTup h1 b #[u, q.2] := htup.extBut hs1.extBut hbI
    have hl1 : h1.IsTuple l items := hl.extBut hs1.extBut hlI
    have hm1 : h1.DictOf (mixKind prog w) S acc := hm.extBut hs1.extBut hSI
    obtain ⟨o, ho, hc, n, hd⟩ := id ht1
    show wpAny _ A.in1 (holding [Value.ref b] _ >>= _) _ _ _
    refine wpAny_bind (wpAny_holding ?_)
    refine wpAny_bind (wpAny_tryCatch ?_)
    unfold Builtin.Dict.pairItems
    refine wpAny_bind (wpAny_typeOf (T := "tuple") ⟨o, ho, hc⟩ ?_)
    rw [if_pos (by first | decide | rfl | simp)]
    refine wpAny_bind (wpAny_seqItems ho hd (wpAny_pure ?_))
    show wpAny _ A.in1 (holding [u, q.2] (dictSet S u q.2)) _ _ _
    refine wpAny_holding (wpAny_dictSet_pairs (knd := mixKind prog w) (k := q.1) hk hm1 (fun h2 hm2 hs2 => ?_) (by omega))
    refine wpAny_pure ⟨plainId_quiet ud_plain _, upd_loopT (items := items) hh hlI hSI hSl rest (i + 1) (stored acc q.1 q.2) (ix + 1) 0 _ (show items.size = i + 1 + rest.length by omega) ?_ (fun j q' e => ?_) ?_ ?_ hm2 fun h' tk hd' k => ?_⟩
    · have z := stored_length_le acc q.1 q.2
      omega
    · obtain ⟨b', u', hb', hbS', hbI', htup', hk'⟩ := ht (j + 1) q' (by simpa using e)
      refine ⟨b', u', ?_, hbS', hbI', (htup'.extBut hs1.extBut hbI').extBut hs2.extBut hbS', hk'⟩
      rw [show i + 1 + j = i + (j + 1) by omega]
      exact hb'
    · exact hit1.at fun o' e => hs2.extBut I o' (Ne.symm hSI) e
    · exact hl1.extBut hs2.extBut (Ne.symm hSl)
    · exact hR h' tk hd' fun c oc h3 h4 e => k c oc h3 h4 (hs2.extBut c oc h3 (hs1.extBut c oc h4 e))
/-- dict(t) of a tuple of pairs -/
theorem call_dict_pairsT {s : Shared} {l : Addr} {ol : Obj} {items : Array Value} {n : Nat} {prs : List (Key × Value)} {Q : Value → Shared → Prop} (hh : A.handled = none) (hl : s.heap.get? l = some ol) (hc : ol.cls = .type "tuple") (hd : ol.dict = none)
    (hdat : ol.data = .seq items n) (hsz : items.size = prs.length) (hln : prs.length ≤ sizeLine)
    (ht : ∀ (j : Nat) (q : Key × Value), prs[j]? = some q → ∃ (b : Addr) (u : Value), items[j]? = some (.ref b) ∧ IsTup s.heap b #[u, q.2] ∧ keyIs q.1 u = true)
    (h : ∀ h' tk, h'.DictOf (mixKind prog w) s.heap.objs.size (merged [] prs) → (∀ b o, s.heap.get? b = some o → h'.get? b = some o) → Q (.ref s.heap.objs.size) { s with heap := h', toks := tk }) :
    wpAny (model prog w) A (call (.type "dict") [.ref l]) Q E s := by
  refine callType_codes (Q₁ := fun obj s₁ => obj = .ref s.heap.objs.size ∧ s₁ = { s with heap := s.heap.push { cls := .type "dict", data := .dict #[] } }) PySem.F.kt_called_dict (PySem.F.kt_typeCall_dict_1 _) PySem.F.entry_dict_init (kt_code_dict_new _ ⟨rfl, rfl⟩) ?_
  rintro obj s₁ ⟨rfl, rfl⟩
  have hnew : (s.heap.push { cls := .type "dict", data := .dict #[] }).DictOf (mixKind prog w) s.heap.objs.size [] := Heap.DictOf.new s.heap
  have k0 : ∀ b o, s.heap.get? b = some o → (s.heap.push { cls := .type "dict", data := .dict #[] }).get? b = some o := fun b o e => Heap.get?_push_of_some _ e
  refine ⟨hnew.typeIs, PySem.F.args_dict_init_2 _ _, ?_⟩
  unfold Builtin.«dict.__init__»
  refine wpAny_bind ?_
  unfold Builtin.Dict.selfAndRest
  refine wpAny_bind (wpAny_notOrdered_dict hnew.typeIs ?_)
  show wpAny _ _ (pure (s.heap.objs.size, [Value.ref l])) _ _ _
  refine wpAny_pure ?_
  show wpAny _ _ (Builtin.Dict.updateFrom "dict.__init__" s.heap.objs.size (.ref l) [] .none) _ _ _
  unfold Builtin.Dict.updateFrom
  refine wpAny_bind (wpAny_typeOf (T := "tuple") ⟨ol, k0 _ _ hl, hc⟩ ?_)
  rw [if_pos (by first | decide | rfl | simp)]
  refine wpAny_bind (getAttrOr_miss_tuple (k0 _ _ hl) hc hdat hd tuple_no_keys (by decide +kernel) hh fun h1 tk1 hk1 => ?_)
  rw [if_pos (show (none : Option Value).isNone = true from rfl)]
  refine wpAny_bind (wpAny_rule ?_)
  have hl1 : h1.IsTuple l items := ⟨ol, hk1 _ _ (k0 _ _ hl), hc, n, hdat⟩
  have hS1 : s.heap.objs.size < h1.objs.size := by
    have e : (s.heap.push { cls := .type "dict", data := .dict #[] }).get? s.heap.objs.size = some { cls := .type "dict", data := .dict #[] } := Heap.get?_push_size _ rfl
    exact Heap.lt_size (hk1 _ _ e)
  refine wpAny_bind (wpAny_pyIter_tuple hl1 ?_)
  have k2 : ∀ b o, h1.get? b = some o → (h1.push { cls := .type "tuple_iterator", data := .fields #[.ref l, .int 0 0] }).get? b = some o := fun b o e => Heap.get?_push_of_some _ e
  have hlt : l < s.heap.objs.size := Heap.lt_size hl
  have key := upd_loopT (prog := prog) (w := w) (A := A.in1) (R := wants (fun r s₂ => r = .none ∧ Q (.ref s.heap.objs.size) s₂) E) (S := s.heap.objs.size) (I := h1.objs.size) (l := l) (items := items) (res := Value.none) hh
    (Nat.ne_of_lt (Nat.lt_trans hlt hS1)) (Nat.ne_of_lt hS1) (Nat.ne_of_gt hlt) prs 0 [] 0 0
    { s with heap := h1.push { cls := .type "tuple_iterator", data := .fields #[.ref l, .int 0 0] }, toks := tk1 } (by rw [hsz, Nat.zero_add]) (by rw [List.length_nil, Nat.zero_add]; exact hln)
    (fun j q e => by
      obtain ⟨b, u, e1, e2, e3⟩ := ht j q e
      have hb : b < s.heap.objs.size := e2.lt
      exact ⟨b, u, by rw [Nat.zero_add]; exact e1, Nat.ne_of_lt hb, Nat.ne_of_lt (Nat.lt_trans hb hS1), e2.keeps fun c o z => k2 _ _ (hk1 _ _ (k0 _ _ z)), e3⟩)
    ⟨_, Heap.get?_push_size _ rfl, rfl, rfl⟩ (hl1.at fun o e => k2 _ _ e) ((hnew.at fun o e => hk1 _ _ e).at fun o e => k2 _ _ e)
    (fun h' tk hd' k => ⟨rfl, h h' tk hd' fun b o e => k b o (Nat.ne_of_lt (Heap.lt_size e)) (Nat.ne_of_lt (Nat.lt_trans (Heap.lt_size e) hS1)) (k2 _ _ (hk1 _ _ (k0 _ _ e)))⟩)
  first
    | exact wpAny_pure ⟨plainId_quiet ud_plain _, key⟩
    | exact wpAny_bind (wpAny_pure (wpAny_pure ⟨plainId_quiet ud_plain _, key⟩))
end
/-! ## tuples whose very object is known: they have no table of their own -/
def ZT (H : Hp) (a : Addr) (xs : List V) : Prop := ∃ ob : Obj, ob.cls = .type "tuple" ∧ ob.dict = none ∧ H a = some (.frz ob (.tup xs))
theorem ZT.rd {H : Hp} {a : Addr} {xs : List V} (h : ZT H a xs) : Rd H a (.tup xs) := let ⟨ob, _, _, e⟩ := h; .inr ⟨ob, e⟩
theorem ZT.sq {K : PySem.W.Frag} {H : Hp} {a : Addr} {xs : List V} (h : ZT H a xs) : SqT K H a xs := .inl h.rd
theorem ZT.same {H H' : Hp} {a : Addr} {xs : List V} (h : ZT H a xs) (s : Same H H') : ZT H' a xs := let ⟨ob, c, d, e⟩ := h; ⟨ob, c, d, s _ _ e⟩
theorem _root_.L2.Rd.same {H H' : Hp} {a : Addr} {xs : List V} (h : Rd H a (.tup xs)) (s : Same H H') : Rd H' a (.tup xs) := by
  rcases h with h | ⟨o, h⟩
  · exact .inl (s _ _ h)
  · exact .inr ⟨o, s _ _ h⟩
theorem _root_.L2.Rd.sq {K : PySem.W.Frag} {H : Hp} {a : Addr} {xs : List V} (h : Rd H a (.tup xs)) : SqT K H a xs := .inl h
theorem Tape.neR {t p : Addr} {H : Hp} {xs : List V} (h : Tape H t) (e : Rd H p (.tup xs)) : p ≠ t := by
  intro z
  subst z
  obtain ⟨_, _, _, _, _, h1, _⟩ := h
  rcases e with e | ⟨o, e⟩ <;> (rw [h1] at e; cases e)
theorem _root_.L2.Rd.b {t : Addr} {H H' : Hp} {a : Addr} {xs : List V} (h : Rd H a (.tup xs)) (T : Tape H t) (s : SameB t H H') : Rd H' a (.tup xs) := by
  have n := T.neR h
  rcases h with h | ⟨o, h⟩
  · exact .inl (s _ _ n h)
  · exact .inr ⟨o, s _ _ n h⟩
theorem ZT.b {t : Addr} {H H' : Hp} {a : Addr} {xs : List V} (h : ZT H a xs) (T : Tape H t) (s : SameB t H H') : ZT H' a xs := by
  have n := T.neR h.rd
  obtain ⟨ob, c, d, e⟩ := h
  exact ⟨ob, c, d, s _ _ n e⟩
section
variable {X : Cx}
theorem zt_new {pins : List (Addr × Obj)} {σ : L2.St} {H : Hp} {s : Shared} {ys : List V} {its : List Value} (I : Inv X pins σ H s) (hz : ys.length ≤ sizeLine) (r : Vals ys its) :
    Inv X pins σ (upd H s.heap.objs.size (.frz { cls := .type "tuple", data := .seq its.toArray } (.tup ys))) { s with heap := s.heap.push { cls := .type "tuple", data := .seq its.toArray } } :=
  I.laid (t' := s.toks) (fun b o e => Heap.get?_push_of_some _ e) (Nat.le_refl _) (show ObjOk X.prog X.w _ _ _ (.frz _ (.tup ys)) from ⟨Heap.get?_push_size _ rfl, hz, its, r, IsTup.new _ _⟩)
/-- tuple(list): what is made is known to be plain -/
theorem call_tupleZ : CallR X (.type "tuple") (fun xs H Q => ∃ p ys, xs = [.ref p] ∧ SqL X.K H p ys ∧ ∀ l ob, H l = none → ob.cls = .type "tuple" → ob.dict = none → Q (.ref l) (upd H l (.frz ob (.tup ys)))) := by
  intro pins s σ H xs us Q I r h
  obtain ⟨p, ys, rfl, hq, q⟩ := h
  obtain ⟨u, rfl, rx⟩ := vals1 r
  cases rx
  obtain ⟨its, r', pl, hz⟩ := I.list hq
  have hlen := r'.length
  refine call_tuple_list pl.isList (fun h' kp => ?_) (by simp only [List.size_toArray] <;> omega)
  have I1 : Inv X pins σ H { s with heap := h' } := I.kept (t' := s.toks) kp
  exact ⟨.ref h'.objs.size, _, zt_new I1 hz r', rfl, q _ _ (I1.hok.fresh (Nat.le_refl _)) rfl rfl⟩
abbrev rCatZ (K : PySem.W.Frag) : V → V → Hp → VK → Prop := fun x y H Q => ∃ (a b : Addr) (xs ys : List V), x = .ref a ∧ y = .ref b ∧ SqT K H a xs ∧ SqT K H b ys ∧ xs ≠ [] ∧ xs.length + ys.length ≤ sizeLine ∧ (ys = [] → Q (.ref a) H) ∧ (ys ≠ [] → ∀ p ob, H p = none → ob.cls = .type "tuple" → ob.dict = none → Q (.ref p) (upd H p (.frz ob (.tup (xs ++ ys)))))
theorem op_catZ : OpR X (binaryOp .Add) (rCatZ X.K) := by
  intro pins s σ H x y v u Q I rx ry h
  obtain ⟨a, b, xs, ys, rfl, rfl, ha, hb, hx, hz, q1, q2⟩ := h
  cases rx
  cases ry
  obtain ⟨its, r1, p1, _⟩ := I.tuple ha
  obtain ⟨its2, r2, p2, _⟩ := I.tuple hb
  refine HT.cat_tup p1 p2 (fun z => hx (r1.nil_iff.mp z)) (fun z => ⟨.ref a, H, I, rfl, q1 (r2.nil_iff.mp z)⟩) (fun z => ?_) (by rw [← r1.length, ← r2.length]; exact hz)
  exact ⟨.ref s.heap.objs.size, _, zt_new I (by rw [List.length_append]; exact hz) (r1.append r2), rfl, q2 (fun w => z (r2.nil_iff.mpr w)) _ _ (I.hok.fresh (Nat.le_refl _)) rfl rfl⟩
/-- dict(t) of a plain tuple of pairs: later pairs win -/
theorem call_dictZ (hcalm : X.calm = true) : CallR X (.type "dict") (fun xs H Q => ∃ (a : Addr) (ps : List Addr) (kvs : List (Key × V)), xs = [.ref a] ∧ ZT H a (ps.map V.ref) ∧ Paired (fun p kv => SqT X.K H p [kV kv.1, kv.2]) ps kvs ∧
    ∀ p, H p = none → Q (.ref p) (upd H p (.dK (mergeK [] kvs)))) := by
  intro pins s σ H xs us Q I r q
  obtain ⟨a, ps, kvs, ex, ⟨o, hc, hd, hq⟩, hp, q⟩ := q
  subst ex
  obtain ⟨u, eu, rx⟩ := vals1 r
  subst eu
  cases rx
  obtain ⟨ho, hz, its, rv, o', ho', _, n, hdat⟩ := I.hok a _ hq
  rw [ho] at ho'
  cases ho'
  have ei := refs_at rv
  subst ei
  rw [List.length_map] at hz
  obtain ⟨prs, rel, hl, hpr⟩ := pairs_of I hp
  refine call_dict_pairsT (prs := prs) (I.ok.hd hcalm) ho hc hd hdat (by simp [hl]) (by rw [hl]; exact hz) (fun j q' e => ?_) fun h' tk hd' k => ?_
  · obtain ⟨b, u, e1, e2, e3⟩ := hpr j q' e
    exact ⟨b, u, by simp [e1], e2, e3⟩
  · have hm : (s.heap.objs.size == sysModules) = false := beq_eq_false_iff_ne.mpr (Nat.ne_of_gt I.big)
    have hlen : (mergeK [] kvs).length ≤ sizeLine := by
      refine Nat.le_trans (length_mergeK kvs []) ?_
      rw [List.length_nil, Nat.zero_add, rel.length, hl]
      exact hz
    exact ⟨.ref s.heap.objs.size, upd H s.heap.objs.size (.dK (mergeK [] kvs)), I.laid (t' := tk) k (Nat.le_refl _) (show ObjOk X.prog X.w _ _ _ (.dK (mergeK [] kvs)) from ⟨hlen, hm, merged [] prs, KV.merge rel .nil, hd'⟩), rfl, q _ (I.hok.fresh (Nat.le_refl _))⟩
end
end Lc
namespace Lc
open PySem PySem.Spec PyProof.Rows L2
/-- a tuple, or a list -/
def LT (H : Hp) (a : Addr) (xs : List V) : Prop := H a = some (.tup xs) ∨ H a = some (.lst xs)
theorem LT.same {H H' : Hp} {a : Addr} {xs : List V} (h : LT H a xs) (s : Same H H') : LT H' a xs := h.imp (s _ _) (s _ _)
theorem LT.sq {K : PySem.W.Frag} {H : Hp} {a : Addr} {xs : List V} (h : LT H a xs) : SqL K H a xs ∨ SqT K H a xs := h.symm.imp SqL.of SqT.of
end Lc
set_option Elab.async false
set_option linter.all false
set_option maxRecDepth 100000
set_option maxHeartbeats 4000000
namespace K17
open PySem PySem.Spec PyProof.Rows L2 Lc
abbrev sFr : Stmt := top 129
def spFr : Sp := fun vs H Q _ => ∃ (t c l : Addr) (ss : List Str), vs = [.ref t, .ref l] ∧ TapeL c H t ∧ H l = some (.lst (ss.map V.str)) ∧ ss.length < 36 ∧ ∀ (x : Str) (H' : Hp), Sh 12 x → nameB (.str x) = true → x ∉ ss → TapeL c H' t → SameB t H H' → Q (.str x) H'
theorem ne_tape {H : Hp} {t l : Addr} {ss : List Str} (T : Tape H t) (h : H l = some (.lst (ss.map V.str))) : l ≠ t := fun z => by
  obtain ⟨a, _, _, _, _, ht, _⟩ := T
  rw [z, ht] at h
  cases ss with
  | nil => cases h
  | cons x r =>
    injection h with h
    injection h with h
    injection h with h1 _
    cases h1
section
variable {P : Program} {w : World} {K : PySem.W.Frag} {mg : Str → Option Value} {base : Heap} {f fN : Addr} {fd fdN : FuncData}
theorem scFr : FnScope ["_law_tape_here", "_law_taken", "_law_name_here", "_law_letter"] ["_law_tape_here", "_law_taken"] (defScope sFr) := ⟨rfl, rfl, rfl, by decide +kernel, rfl, by decide +kernel, by decide +kernel⟩
theorem ok_fr (F : Fun K "_law_fresh" "_law_fresh" sFr f fd) (GN : FnOk P w K mg base CX0 2 fN fdN ["_law_tape_here"] spLNm) (mN : mg "_law_name" = some (.ref fN)) (kN : PySem.W.keepIn K (.ref fN) = true) (bN : Binds K fdN ["_law_tape_here"] []) :
    FnOk P w K mg base CX0 3 f fd ["_law_tape_here", "_law_taken"] spFr := by
  refine F.ok scFr (fun vs H Q E h => ?_) (fun cdv A outer s H vs Q E hr h => ?_)
  · obtain ⟨t, c, l, ss, rfl, _⟩ := h
    rfl
  · obtain ⟨t, tl, l, ss, rfl, hT, hl, l36, k⟩ := h
    refine ⟨_, pss_cons (ps_set (i := 2) scFr.nd rfl (Or.inl rfl) (pe_call GN hr (by rfl) mN kN bN .nil pass0 (pa_cons (pv 0) pa_nil)))
      (pss_cons (ps_if (pt_cmpR op_notIn_seq (pv 2) (pv 1) (by rfl)) (pss_one (ps_ret (pv 2))) pss_nil)
      (pss_cons (ps_for PassesOwn.never rfl (pi_str pe_str) (pg_name (i := 3) scFr.nd rfl (Or.inl rfl))
        (pss_one (ps_if (pt_cmpR op_notIn_seq (pe_op op_add_str (pe_slice sl_str (pv 2) po_none (po_some pe_int)) (pv 3)) (pv 1) (by rfl)) (pss_one (ps_ret (pe_op op_add_str (pe_slice sl_str (pv 2) po_none (po_some pe_int)) (pv 3)))) pss_nil)))
      (pss_one (ps_ret (pv 2))))), ?_⟩
    refine ⟨_, rfl, t, tl, rfl, hT, fun x H1 hx nx T1 S1 => ?_⟩
    have hl1 := S1 _ _ (ne_tape hT.tape hl) hl
    have fl : (ss.map V.str).all flatV = true := by simp [flatV]
    have ln := hx.line (by decide)
    refine ⟨_, rfl, _, rfl, l, _, rfl, .inl (SqL.of hl1), rfl, fl, _, rfl, ite2 (fun y => ?_) (fun y => ?_)⟩
    · refine ⟨_, rfl, k x H1 hx nx (fun m => ?_) T1 S1⟩
      rw [if_pos rfl, in_strs, decide_eq_true m] at y
      cases y
    · refine ⟨_, rfl, for_it walk_str (fun i σ H' => (∃ x3 : Option V, σ = [some (.ref t), some (.ref l), some (.str x), x3]) ∧ H' = H1 ∧ ∀ (j : Nat) (c : Nat), j < i → signs.cps[j]? = some c → cutS x none (some 11) ++ (⟨#[c]⟩ : Str) ∈ ss) ⟨⟨_, rfl⟩, rfl, fun j c h => absurd h (Nat.not_lt_zero _)⟩ (fun _ _ _ _ _ => trivial) ?_ ?_⟩
      · rintro i v σ Ha Hb hi ⟨⟨x3, rfl⟩, rfl, all⟩ ⟨rfl, c, hc, rfl⟩
        have hc : signs.cps[i]? = some c := hc
        have mc : c ∈ signs.cps.toList := Array.mem_toList_iff.mpr (Array.mem_of_getElem? hc)
        have isc : inS c = true := decide_eq_true mc
        have cs : c < 1114112 := signs_ok c mc
        have sc : Sh 11 (cutS x none (some 11)) := ⟨by rw [cut_list, List.length_take]; omega, (sh_cut none (some 11) hx).ok⟩
        have so : Sh 1 (⟨#[c]⟩ : Str) := sh_one cs
        have lt : (cutS x none (some 11)).length + (⟨#[c]⟩ : Str).length ≤ sizeLine := Nat.le_trans (Nat.add_le_add (sh_len sc) (sh_len so)) (by decide)
        refine ⟨_, rfl, 11, rfl, x, rfl, ln, _, rfl, _, _, rfl, rfl, lt, _, rfl, l, _, rfl, .inl (SqL.of hl1), rfl, fl, _, rfl, ite2 (fun y => ?_) (fun y => ?_)⟩
        · refine ⟨_, rfl, 11, rfl, x, rfl, ln, _, rfl, _, _, rfl, rfl, lt, k _ _ (sh_app sc so) (name_cut nx isc) (fun m => ?_) T1 S1⟩
          rw [if_pos rfl, in_strs, decide_eq_true m] at y
          cases y
        · refine ⟨⟨_, rfl⟩, rfl, fun j c' hj hc' => ?_⟩
          by_cases e : j = i
          · subst e
            rw [hc] at hc'
            cases hc'
            rw [if_pos rfl, in_strs] at y
            exact of_decide_eq_true (by simpa using y)
          · exact all j c' (by omega) hc'
      · rintro σ H' ⟨⟨x3, rfl⟩, rfl, all⟩
        refine (free_letter (x := x) l36 fun c mc => ?_).elim
        obtain ⟨j, hj⟩ := List.mem_iff_getElem?.mp mc
        rw [Array.getElem?_toList] at hj
        exact all j c (Array.getElem?_eq_some_iff.mp hj).1 hj
end
theorem Same.gone {H H' : Hp} {p : Addr} (s : Same H H') (e : H' p = none) : H p = none := by
  cases q : H p with
  | none => rfl
  | some o => rw [s p o q] at e; cases e
abbrev sCls : Stmt := top 130
/-! ## columns: pairs of texts -/
inductive Cols (H : Hp) : List V → List (Str × Str) → Prop
  | nil : Cols H [] []
  | cons {a : Addr} {z k : Str} {xs : List V} {ps : List (Str × Str)} (e : H a = some (.tup [.str z, .str k])) (r : Cols H xs ps) : Cols H (.ref a :: xs) ((z, k) :: ps)
theorem Cols.t {H H' : Hp} (s : SameT H H') : ∀ {xs : List V} {ps : List (Str × Str)}, Cols H xs ps → Cols H' xs ps
  | _, _, .nil => .nil
  | _, _, .cons e r => .cons (s _ _ e) (Cols.t s r)
theorem Cols.app {H : Hp} : ∀ {xs ys : List V} {ps qs : List (Str × Str)}, Cols H xs ps → Cols H ys qs → Cols H (xs ++ ys) (ps ++ qs)
  | _, _, _, _, .nil, r => r
  | _, _, _, _, .cons e h, r => .cons e (Cols.app h r)
theorem Cols.len {H : Hp} : ∀ {xs : List V} {ps : List (Str × Str)}, Cols H xs ps → xs.length = ps.length
  | _, _, .nil => rfl
  | _, _, .cons _ r => by rw [List.length_cons, List.length_cons, Cols.len r]
def colP (p : Str × Str) : PyData := .tuple [.str p.1, .str p.2]
theorem Cols.dh {H : Hp} : ∀ {xs : List V} {ps : List (Str × Str)}, Cols H xs ps → DhAll H xs (ps.map colP)
  | _, _, .nil => .nil
  | _, _, .cons e r => .cons (.tup e (.cons (.str _) (.cons (.str _) .nil))) (Cols.dh r)
def KindS (k : Str) : Prop := k = "number" ∨ k = "word" ∨ k = "flag"
theorem KindS.sh {k : Str} (h : KindS k) : Sh 100 k := by
  rcases h with rfl | rfl | rfl <;> exact ⟨by decide +kernel, by decide +kernel⟩
def spCls : Sp := fun vs H Q _ => ∃ (t c l n : Addr) (m : Int) (lead tk : List Str), vs = [.ref t, .ref l, .int m, .ref n] ∧ TapeL c H t ∧ LT H l (lead.map V.str) ∧ LT H n (tk.map V.str) ∧ tk.length ≤ 8 ∧ 0 ≤ m ∧ m ≤ 7 ∧ lead.length + m.toNat ≤ 8 ∧ (∀ k ∈ lead, KindS k) ∧
  ∀ (r : Addr) (xs : List V) (ps : List (Str × Str)) (H' : Hp), ZT H' r xs → Cols H' xs ps → (∀ p ∈ ps, Sh 12 p.1 ∧ nameB (.str p.1) = true ∧ KindS p.2) → (ps.map (·.1)).Nodup → (∀ p ∈ ps, p.1 ∉ tk) → lead.length ≤ ps.length → ps.length ≤ lead.length + m.toNat → TapeL c H' t → SameB t H H' → Q (.ref r) H'
section
variable {P : Program} {w : World} {K : PySem.W.Frag} {mg : Str → Option Value} {base : Heap} {f fD fF : Addr} {fd fdD fdF : FuncData}
theorem scCls : FnScope ["_law_tape_here", "_law_lead", "_law_many", "_law_taken", "_law_names", "_law_columns_here", "_law_kinds", "_law_k", "_law_kind"] ["_law_tape_here", "_law_lead", "_law_many", "_law_taken"] (defScope sCls) := ⟨rfl, rfl, rfl, by decide +kernel, rfl, by decide +kernel, by decide +kernel⟩
theorem ok_cls (F : Fun K "_law_columns" "_law_columns" sCls f fd) (T : Bt mg) (GD : FnOk P w K mg base CX0 1 fD fdD ["_law_tape_here", "_law_many"] spDrawL) (mD : mg "_law_draw" = some (.ref fD)) (kD : PySem.W.keepIn K (.ref fD) = true) (bD : Binds K fdD ["_law_tape_here", "_law_many"] [])
    (GF : FnOk P w K mg base CX0 3 fF fdF ["_law_tape_here", "_law_taken"] spFr) (mF : mg "_law_fresh" = some (.ref fF)) (kF : PySem.W.keepIn K (.ref fF) = true) (bF : Binds K fdF ["_law_tape_here", "_law_taken"] []) :
    FnOk P w K mg base CX0 4 f fd ["_law_tape_here", "_law_lead", "_law_many", "_law_taken"] spCls := by
  refine F.ok scCls (fun vs H Q E h => ?_) (fun cdv A outer s H vs Q E hr h => ?_)
  · obtain ⟨t, c, l, n, m, lead, tk, rfl, _⟩ := h
    rfl
  · obtain ⟨t, c, l, n, m, lead, tk, rfl, hT, hl, hn, tk8, m0, m7, ld8, hkl, k⟩ := h
    have hr1 : Room 1 _ := hr.mono (by decide)
    refine ⟨_, pss_cons (ps_set (i := 4) scCls.nd rfl (Or.inl rfl) (pe_callTy call_list_of (by rfl) T.list boot_list (pa_cons (pv 3) pa_nil)))
      (pss_cons (ps_set (i := 5) scCls.nd rfl (Or.inl rfl) (pe_lst pa_nil))
      (pss_cons (ps_set (i := 6) scCls.nd rfl (Or.inl rfl) (pe_callTy call_list_of (by rfl) T.list boot_list (pa_cons (pv 1) pa_nil)))
      (Evl.pss_cut (ps_for PassesOwn.never rfl (pi_range1 (by rfl) T.range (pa_cons (pe_call GD hr1 (by rfl) mD kD bD .nil pass0 (pa_cons (pv 0) (pa_cons (pe_op op_add (pv 2) pe_int) pa_nil))) pa_nil)) (pg_name (i := 7) scCls.nd rfl (Or.inl rfl))
        (pss_one (ps_expr (pe_bm PySem.F.plainAttrs_list PySem.F.slot_list_append PySem.F.type_list_append mt_append (pv 6) (pa_cons (pe_ix ix_list (pe_lst (pa_cons pe_str (pa_cons pe_str (pa_cons pe_str pa_nil)))) (pe_call GD hr1 (by rfl) mD kD bD .nil pass0 (pa_cons (pv 0) (pa_cons pe_int pa_nil))) (fun _ _ => rfl)) pa_nil)))))
      (pss_cons (ps_for PassesOwn.never rfl (pi_list (pv 6)) (pg_name (i := 8) scCls.nd rfl (Or.inl rfl))
        (pss_cons (ps_expr (pe_bm PySem.F.plainAttrs_list PySem.F.slot_list_append PySem.F.type_list_append mt_append (pv 4) (pa_cons (pe_call GF hr (by rfl) mF kF bF .nil pass0 (pa_cons (pv 0) (pa_cons (pv 4) pa_nil))) pa_nil)))
        (pss_one (ps_expr (pe_bm PySem.F.plainAttrs_list PySem.F.slot_list_append PySem.F.type_list_append mt_append (pv 5) (pa_cons (pe_tup (pa_cons (pe_ix ix_list (pv 4) (pe_un un_neg pe_int) (fun _ _ => rfl)) (pa_cons (pv 8) pa_nil))) pa_nil))))))
      (pss_one (ps_ret (pe_callTy call_tupleZ (by rfl) T.tuple boot_tuple (pa_cons (pv 5) pa_nil)))))))), ?_⟩
    refine ⟨_, rfl, n, _, rfl, hn.sq, fun L hL => ⟨by show 0 ≤ sizeLine; decide, fun M hM => ?_⟩⟩
    have yL := Same.upd (o := .lst (tk.map V.str)) hL
    have yM := Same.upd (o := .lst []) hM
    refine ⟨_, rfl, l, _, rfl, (hl.same (yL.trans yM)).sq, fun N hN => ?_⟩
    have yN := Same.upd (o := .lst (lead.map V.str)) hN
    have nLt := hT.tape.ne hL
    have nMt := (hT.same yL).tape.ne hM
    have nNt := (hT.same (yL.trans yM)).tape.ne hN
    obtain ⟨ys, hc⟩ := hT.list
    have nLc : L ≠ c := Ne.symm (ne_of_none hc hL)
    have nMc : M ≠ c := Ne.symm (ne_of_none (yL _ _ hc) hM)
    have nNc : N ≠ c := Ne.symm (ne_of_none ((yL.trans yM) _ _ hc) hN)
    have eL : upd H L (.lst (tk.map V.str)) L = some (.lst (tk.map V.str)) := upd_same
    have nML : L ≠ M := ne_of_none eL hM
    have nNL : L ≠ N := ne_of_none (yM _ _ eL) hN
    have nNM : M ≠ N := ne_of_none (show upd (upd H L (.lst (tk.map V.str))) M (.lst []) M = some (.lst []) from upd_same) hN
    have hL3 := (yM.trans yN) _ _ eL
    have hM3 := yN _ _ (show upd (upd H L (.lst (tk.map V.str))) M (.lst []) M = some (.lst []) from upd_same)
    have hN3 : upd (upd (upd H L (.lst (tk.map V.str))) M (.lst [])) N (.lst (lead.map V.str)) N = some (.lst (lead.map V.str)) := upd_same
    have s3 := yL.trans (yM.trans yN)
    have gM := Same.gone yL hM
    have gN := Same.gone (yL.trans yM) hN
    have hT3 := hT.same s3
    generalize upd (upd (upd H L (.lst (tk.map V.str))) M (.lst [])) N (.lst (lead.map V.str)) = H3 at hL3 hM3 hN3 s3 hT3 yN ⊢
    clear yN yM yL eL
    have o3 : 3 ≤ sizeLine := by decide
    let Md : Option V → Option V → List Str → L2.St → Hp → Prop := fun x7 x8 ks σ H' => σ = [some (.ref t), some (.ref l), some (.int m), some (.ref n), some (.ref L), some (.ref M), some (.ref N), x7, x8] ∧ H' N = some (.lst (ks.map V.str)) ∧ (∀ k ∈ ks, KindS k) ∧ TapeL c H' t ∧ SameB t H H'
    refine ⟨fun σ H' => ∃ x7 ks, Md x7 none ks σ H' ∧ H' L = some (.lst (tk.map V.str)) ∧ H' M = some (.lst []) ∧ lead.length ≤ ks.length ∧ ks.length ≤ lead.length + m.toNat, ?_, ?_⟩
    · refine ⟨_, rfl, _, rfl, _, _, rfl, rfl, t, c, _, rfl, hT3, by omega, big1000 (by omega) (by omega), fun k2 H4 u2 w2 T4 S4 => ⟨k2, rfl, by omega, by omega, for_range (n := k2.toNat) (fun i σ H' => ∃ x7 ks, Md x7 none ks σ H' ∧ H' L = some (.lst (tk.map V.str)) ∧ H' M = some (.lst []) ∧ ks.length = i + lead.length)
        ⟨_, lead, ⟨rfl, S4 _ _ nNt hN3, hkl, T4, (Same.b t s3).trans S4⟩, S4 _ _ nLt hL3, S4 _ _ nMt hM3, (Nat.zero_add _).symm⟩ ?_ ?_⟩⟩
      · rintro i σ H5 hi ⟨x7, ks, ⟨rfl, hN5, hk5, T5, S5⟩, hL5, hM5, e5⟩
        refine ⟨_, rfl, .inl ⟨rfl, _, SqL.of hN5⟩, o3, fun q hq => ?_⟩
        have zq := Same.upd (o := .lst [.str "number", .str "word", .str "flag"]) hq
        have nq := T5.tape.ne hq
        refine ⟨_, rfl, t, c, _, rfl, T5.same zq, by decide, big1000 (by decide) (by decide), fun k3 H6 u3 w3 T6 S6 => ?_⟩
        obtain ⟨kk, hkk, skk⟩ : ∃ kk : Str, ([.str "number", .str "word", .str "flag"] : List V)[k3.toNat]? = some (.str kk) ∧ KindS kk := by
          have : k3.toNat = 0 ∨ k3.toNat = 1 ∨ k3.toNat = 2 := by omega
          rcases this with e | e | e <;> rw [e]
          · exact ⟨_, rfl, .inl rfl⟩
          · exact ⟨_, rfl, .inr (.inl rfl)⟩
          · exact ⟨_, rfl, .inr (.inr rfl)⟩
        have S7 : SameB t H5 H6 := (Same.b t zq).trans S6
        have hN6 := S7 _ _ nNt hN5
        refine ⟨q, _, _, _, rfl, rfl, SqL.of (S6 _ _ nq upd_same), at_of (j := k3.toNat) (by omega) hkk, N, _, _, rfl, rfl, hN6, ?_, ?_⟩
        · rw [List.length_map, e5]
          exact Nat.lt_of_le_of_lt (show i + lead.length ≤ 8 by omega) (by decide)
        · refine ⟨_, ks ++ [kk], ⟨rfl, by rw [upd_same, List.map_append]; rfl, fun k hk => ?_, T6.upd nNt nNc, fun b o n e => ?_⟩, by rw [upd_ne nNL]; exact S7 _ _ nLt hL5, by rw [upd_ne nNM]; exact S7 _ _ nMt hM5, by rw [List.length_append, e5, List.length_singleton]; omega⟩
          · rcases List.mem_append.mp hk with hk | hk
            · exact hk5 k hk
            · rw [List.mem_singleton.mp hk]; exact skk
          · rw [upd_ne (fun z => by rw [z, gN] at e; cases e)]
            exact (S5.trans S7) b o n e
      · rintro σ H5 ⟨x7, ks, h5, hL5, hM5, e5⟩
        exact ⟨x7, ks, h5, hL5, hM5, by omega, by omega⟩
    · rintro σ H5 ⟨x7, ks, ⟨rfl, hN5, hk5, T5, S5⟩, hL5, hM5, e5, e6⟩
      refine ⟨_, rfl, N, rfl, ⟨_, SqL.of hN5⟩, for_list (K := K) (a := N) (xs := ks.map V.str) (fun i σ H' => ∃ (x8 : Option V) (ns : List Str) (xs : List V) (ps : List (Str × Str)), Md x7 x8 ks σ H' ∧ H' L = some (.lst ((tk ++ ns).map V.str)) ∧ H' M = some (.lst xs) ∧ Cols H' xs ps ∧ (∀ p ∈ ps, Sh 12 p.1 ∧ nameB (.str p.1) = true ∧ KindS p.2) ∧ ns.length = i ∧ ps.length = i ∧ ps.map (·.1) = ns ∧ ns.Nodup ∧ ∀ x ∈ ns, x ∉ tk)
        ⟨_, [], [], [], ⟨rfl, hN5, hk5, T5, S5⟩, by rw [List.append_nil]; exact hL5, hM5, .nil, nofun, rfl, rfl, rfl, List.nodup_nil, nofun⟩ (fun i σ H' _ p => by obtain ⟨_, _, _, _, ⟨_, z, _⟩, _⟩ := p; exact SqL.of z) ?_ ?_⟩
      · rintro i x σ H6 hx ⟨x8, ns, xs, ps, ⟨rfl, hN6, _, T6, S6⟩, hL6, hM6, hc6, hp6, e7, e8, en, nd, ntk⟩
        obtain ⟨kk, hkk, rfl⟩ : ∃ kk, ks[i]? = some kk ∧ V.str kk = x := by
          rw [List.getElem?_map] at hx
          cases q : ks[i]? with
          | none => rw [q] at hx; cases hx
          | some kk => rw [q] at hx; exact ⟨kk, rfl, Option.some.inj hx⟩
        have hi8 : i < 8 := Nat.lt_of_lt_of_le (List.getElem?_eq_some_iff.mp hkk).1 (show ks.length ≤ 8 by omega)
        have skk := hk5 kk (List.mem_of_getElem? hkk)
        have lim : ∀ {m : Nat}, m ≤ 8 → m < sizeLine := fun h => Nat.lt_of_le_of_lt h (by decide)
        refine ⟨_, rfl, .inl ⟨rfl, _, SqL.of hL6⟩, _, rfl, _, rfl, t, c, L, tk ++ ns, rfl, T6, hL6, by rw [List.length_append]; omega, fun z H7 hz nz fz T7 S7 => ?_⟩
        have hL7 := S7 _ _ nLt hL6
        have hM7 := S7 _ _ nMt hM6
        have hN7 := S7 _ _ nNt hN6
        have hc7 := hc6.t (SameT.b T6.tape S7)
        refine ⟨L, _, _, rfl, rfl, hL7, by rw [List.length_map, List.length_append, e7]; exact Nat.lt_of_le_of_lt (show _ ≤ 16 by omega) (by decide), ?_⟩
        have hc8 := hc7.t (SameT.lst (o := .lst ((tk ++ ns).map V.str ++ [.str z])) hL7)
        have T8 := T7.upd (o := .lst ((tk ++ ns).map V.str ++ [.str z])) nLt nLc
        have hL8 : upd H7 L (.lst ((tk ++ ns).map V.str ++ [.str z])) L = some (.lst ((tk ++ ns).map V.str ++ [.str z])) := upd_same
        have hM8 : upd H7 L (.lst ((tk ++ ns).map V.str ++ [.str z])) M = some (.lst xs) := by rw [upd_ne (Ne.symm nML)]; exact hM7
        have hN8 : upd H7 L (.lst ((tk ++ ns).map V.str ++ [.str z])) N = some (.lst (ks.map V.str)) := by rw [upd_ne (Ne.symm nNL)]; exact hN7
        have S8 : SameB t H (upd H7 L (.lst ((tk ++ ns).map V.str ++ [.str z]))) := fun b o n e => by
          rw [upd_ne (fun z => by rw [z, hL] at e; cases e)]
          exact (S6.trans S7) b o n e
        generalize upd H7 L (.lst ((tk ++ ns).map V.str ++ [.str z])) = H8 at hc8 T8 hL8 hM8 hN8 S8 ⊢
        refine ⟨_, rfl, .inl ⟨rfl, _, SqL.of hM8⟩, _, rfl, _, rfl, L, _, _, _, rfl, rfl, SqL.of hL8, (show atI ((tk ++ ns).map V.str ++ [.str z]) (-1) = some (.str z) from ?_), _, rfl, by show 2 ≤ sizeLine; decide, fun q hq => ?_⟩
        · unfold atI
          rw [show ixN ((tk ++ ns).map V.str ++ [V.str z]).length (-1) = some (tk ++ ns).length from ?_]
          · simp
          · have hl : ((tk ++ ns).map V.str ++ [V.str z]).length = (tk ++ ns).length + 1 := by rw [List.length_append, List.length_map]; rfl
            unfold ixN
            rw [hl, if_neg (by decide), if_pos (by omega)]
            exact congrArg some (by omega)
        have zq := Same.upd (o := .tup [.str z, .str kk]) hq
        have hM9 := zq _ _ hM8
        have lx := hc6.len
        refine ⟨M, _, _, rfl, rfl, hM9, lim (by omega), ?_⟩
        refine ⟨_, ns ++ [z], xs ++ [.ref q], ps ++ [(z, kk)], ⟨rfl, by rw [upd_ne (Ne.symm nNM)]; exact zq _ _ hN8, hk5, (T8.same zq).upd nMt nMc, fun b o n e => ?_⟩, by rw [upd_ne nML, zq _ _ hL8, ← List.append_assoc, List.map_append (l₁ := tk ++ ns)]; rfl, upd_same, ?_, ?_, by rw [List.length_append, e7]; rfl, by rw [List.length_append, e8]; rfl, by rw [List.map_append, en]; rfl, List.nodup_append.mpr ⟨nd, List.nodup_cons.mpr ⟨nofun, List.nodup_nil⟩, fun a ha b hb => by rw [List.mem_singleton.mp hb]; exact fun e => fz (List.mem_append_right _ (by rw [← e]; exact ha))⟩, fun x hx => ?_⟩
        · rw [upd_ne (fun z => by rw [z, gM] at e; cases e)]
          exact (S8.trans (Same.b t zq)) b o n e
        · have eq : upd H8 q (.tup [.str z, .str kk]) q = some (.tup [.str z, .str kk]) := upd_same
          have hc9 := (hc8.t (SameT.of zq)).app (.cons eq .nil)
          exact hc9.t (SameT.lst hM9)
        · intro p hp
          rcases List.mem_append.mp hp with hp | hp
          · exact hp6 p hp
          · rw [List.mem_singleton.mp hp]; exact ⟨hz, nz, skk⟩
        · rcases List.mem_append.mp hx with hx | hx
          · exact ntk x hx
          · rw [List.mem_singleton.mp hx]; exact fun q => fz (List.mem_append_left _ q)
      · rintro σ H6 ⟨x8, ns, xs, ps, ⟨rfl, hN6, _, T6, S6⟩, hL6, hM6, hc6, hp6, e7, e8, en, nd, ntk⟩
        rw [List.length_map] at e8
        refine ⟨_, rfl, M, xs, rfl, SqL.of hM6, fun r ob hr c1 c2 => ?_⟩
        have zr := Same.upd (o := .frz ob (.tup xs)) hr
        exact k r xs ps _ ⟨ob, c1, c2, upd_same⟩ (hc6.t (SameT.of zr)) hp6 (by rw [en]; exact nd) (fun p hp => ntk p.1 (by rw [← en]; exact List.mem_map_of_mem hp)) (by omega) (by omega) (T6.same zr) (S6.trans (Same.b t zr))
end
end K17
set_option Elab.async false
set_option linter.all false
set_option maxRecDepth 100000
set_option maxHeartbeats 4000000
namespace K17
open PySem PySem.Spec PyProof.Rows L2 Lc
def spRatL : Sp := fun vs H Q _ => ∃ (t c : Addr) (b : Bool), vs = [.ref t, .bl b] ∧ TapeL c H t ∧ ∀ (p : Addr) (n d : Int) (H' : Hp), Rt n d → n.natAbs ≤ 10000000000000000000000000000000000000000 → d.natAbs ≤ 10000000000000000000000000000000000000000 → H' p = some (.tup [.int n, .int d]) → H p = none → TapeL c H' t → SameB t H H' → Q (.ref p) H'
abbrev sRat : Stmt := top 127
section
variable {P : Program} {w : World} {K : PySem.W.Frag} {mg : Str → Option Value} {base : Heap} {f : Addr} {fd : FuncData}
theorem scRat : FnScope ["_law_tape_here", "_law_wide", "_law_size", "_law_number", "_law_edge"] ["_law_tape_here", "_law_wide"] (defScope sRat) := ⟨rfl, rfl, rfl, by decide +kernel, rfl, by decide +kernel, by decide +kernel⟩
theorem ok_rat {fD fL : Addr} {fdD fdL : FuncData} (F : Fun K "_law_rational" "_law_rational" sRat f fd) (T : Bt mg) (GD : FnOk P w K mg base CX0 1 fD fdD ["_law_tape_here", "_law_many"] spDrawL) (mD : mg "_law_draw" = some (.ref fD)) (kD : PySem.W.keepIn K (.ref fD) = true) (bD : Binds K fdD ["_law_tape_here", "_law_many"] [])
    (GL : FnOk P w K mg base CX0 1 fL fdL ["_law_n", "_law_d"] spLowest) (mL : mg "_law_lowest" = some (.ref fL)) (kL : PySem.W.keepIn K (.ref fL) = true) (bL : Binds K fdL ["_law_n", "_law_d"] []) : FnOk P w K mg base CX0 2 f fd ["_law_tape_here", "_law_wide"] spRatL := by
  refine F.ok scRat (fun vs H Q E h => ?_) (fun cdv A outer s H vs Q E hr h => ?_)
  · obtain ⟨t, c, b, rfl, _⟩ := h
    rfl
  · obtain ⟨t, c, b, rfl, hT, k⟩ := h
    refine ⟨_, pss_cons (ps_set (i := 2) scRat.nd rfl (Or.inl rfl) (pe_call GD hr (by rfl) mD kD bD .nil pass0 (pa_cons (pv 0) (pa_cons (pe_op op_add pe_int (pe_op op_mul pe_int (pe_callTy call_int1 (by rfl) T.int boot_int (pa_cons (pv 1) pa_nil)))) pa_nil))))
      (pss_cons (ps_if (pt_cmpR op_lt (pv 2) pe_int (nomark _)) (pss_one (ps_ret (pe_tup (pa_cons (pe_op op_sub (pe_call GD hr (by rfl) mD kD bD .nil pass0 (pa_cons (pv 0) (pa_cons pe_int pa_nil))) pe_int) (pa_cons pe_int pa_nil))))) pss_nil)
      (pss_cons (ps_if (pt_cmpR op_lt (pv 2) pe_int (nomark _)) (pss_one (ps_ret (pe_call GL hr (by rfl) mL kL bL .nil pass0 (pa_cons (pe_op op_sub (pe_call GD hr (by rfl) mD kD bD .nil pass0 (pa_cons (pv 0) (pa_cons pe_int pa_nil))) pe_int) (pa_cons (pe_op op_add pe_int (pe_call GD hr (by rfl) mD kD bD .nil pass0 (pa_cons (pv 0) (pa_cons pe_int pa_nil)))) pa_nil))))) pss_nil)
      (pss_cons (ps_if (pt_cmpR op_eq (pv 2) pe_int (nomark _)) (pss_cons (ps_set (i := 3) scRat.nd rfl (Or.inl rfl) (pe_op op_sub (pe_call GD hr (by rfl) mD kD bD .nil pass0 (pa_cons (pv 0) (pa_cons (pe_op op_add (pe_op op_mul pe_int (pe_op op_pow pe_int pe_int)) pe_int) pa_nil))) (pe_op op_pow pe_int pe_int)))
          (pss_one (ps_ret (pe_call GL hr (by rfl) mL kL bL .nil pass0 (pa_cons (pv 3) (pa_cons (pe_op op_add pe_int (pe_call GD hr (by rfl) mD kD bD .nil pass0 (pa_cons (pv 0) (pa_cons (pe_op op_pow pe_int pe_int) pa_nil)))) pa_nil)))))) pss_nil)
      (pss_cons (ps_set (i := 4) scRat.nd rfl (Or.inl rfl) (pe_op op_sub (pe_op op_pow pe_int pe_int) (pe_call GD hr (by rfl) mD kD bD .nil pass0 (pa_cons (pv 0) (pa_cons pe_int pa_nil)))))
      (pss_one (ps_ret (pe_ix ix_list (pe_lst (pa_cons (pe_tup (pa_cons (pv 4) (pa_cons pe_int pa_nil))) (pa_cons (pe_tup (pa_cons (pe_op op_sub pe_int (pv 4)) (pa_cons pe_int pa_nil))) (pa_cons (pe_tup (pa_cons pe_int (pa_cons (pv 4) pa_nil))) (pa_cons (pe_tup (pa_cons (pe_un un_neg pe_int) (pa_cons (pv 4) pa_nil))) pa_nil)))))
        (pe_call GD hr (by rfl) mD kD bD .nil pass0 (pa_cons (pv 0) (pa_cons pe_int pa_nil))) (fun _ _ => rfl)))))))), ?_⟩
    have two : 2 ≤ sizeLine := by decide
    have pw18 : CPow 10 18 := ⟨by decide, by decide, by decide⟩
    have pw40 : CPow 10 40 := ⟨by decide, by decide, by decide⟩
    have b140 : ∀ z : Int, -100000000000000000000000000000000000000000 ≤ z → z ≤ 100000000000000000000000000000000000000000 → z.natAbs < 2 ^ 140 := by
      intro z h1 h2
      have : (2 : Nat) ^ 140 = 1393796574908163946345982392040522594123776 := by decide
      omega
    have big : ∀ z : Int, -100000000000000000000000000000000000000000 ≤ z → z ≤ 100000000000000000000000000000000000000000 → z.natAbs < 2 ^ 4000 := fun z h1 h2 => Nat.lt_of_lt_of_le (b140 z h1 h2) (Nat.pow_le_pow_right (by decide) (by decide))
    have b40 : ∀ z : Int, -10000000000000000000000000000000000000000 ≤ z → z ≤ 10000000000000000000000000000000000000000 → z.natAbs ≤ 10000000000000000000000000000000000000000 := by
      intro z h1 h2
      omega
    refine ⟨_, rfl, _, rfl, .inr ⟨b, rfl, _, _, rfl, rfl, .inl ⟨by decide, by decide⟩, _, _, rfl, rfl, t, c, _, rfl, hT, by cases b <;> decide, by cases b <;> exact big _ (by decide) (by decide), fun k1 H1 u1 v1 T1 S1 => ?_⟩⟩
    refine ⟨_, rfl, _, _, rfl, rfl, _, rfl, ?_⟩
    refine ite2 (fun _ => ?_) (fun _ => ?_)
    · refine ⟨_, rfl, t, c, _, rfl, T1, by decide, big _ (by decide) (by decide), fun k2 H2 u2 v2 T2 S2 => ?_⟩
      refine ⟨_, _, rfl, rfl, two, fun p hp => ?_⟩
      exact k p (k2 - 7) 1 _ (rt_one _) (b40 _ (by omega) (by omega)) (b40 _ (by decide) (by decide)) upd_same ((S1.trans S2).free T2.tape hp) (T2.same (Same.upd hp)) ((S1.trans S2).trans (Same.b t (Same.upd hp)))
    · refine ⟨_, rfl, _, _, rfl, rfl, _, rfl, ?_⟩
      refine ite2 (fun _ => ?_) (fun _ => ?_)
      · refine ⟨_, rfl, t, c, _, rfl, T1, by decide, big _ (by decide) (by decide), fun k2 H2 u2 v2 T2 S2 => ?_⟩
        refine ⟨_, _, rfl, rfl, _, rfl, t, c, _, rfl, T2, by decide, big _ (by decide) (by decide), fun k3 H3 u3 v3 T3 S3 => ?_⟩
        refine ⟨_, _, rfl, rfl, _, _, rfl, by omega, big _ (by omega) (by omega), fun p hp => ?_⟩
        have le := low_le (n := k2 - 200) (d := 1 + k3) (by omega)
        exact k p _ _ _ (low_rt (by omega)) (Nat.le_trans le.1 (b40 _ (by omega) (by omega))) (Nat.le_trans le.2 (b40 _ (by omega) (by omega))) upd_same (((S1.trans S2).trans S3).free T3.tape hp) (T3.same (Same.upd hp)) (((S1.trans S2).trans S3).trans (Same.b t (Same.upd hp)))
      · refine ⟨_, rfl, rfl, _, rfl, ?_⟩
        refine ite2 (fun _ => ?_) (fun _ => ?_)
        · refine ⟨_, rfl, _, _, rfl, rfl, pw18, _, _, rfl, rfl, .inl ⟨by decide, by decide⟩, _, _, rfl, rfl, t, c, _, rfl, T1, ?_, ?_, fun k2 H2 u2 v2 T2 S2 => ?_⟩
          · rw [p18]
            decide
          · rw [p18]
            exact big _ (by decide) (by decide)
          rw [p18] at v2
          refine ⟨_, _, rfl, rfl, pw18, _, _, rfl, rfl, _, rfl, _, rfl, _, _, rfl, rfl, pw18, t, c, _, rfl, T2, ?_, ?_, fun k3 H3 u3 v3 T3 S3 => ?_⟩
          · rw [p18]
            decide
          · rw [p18]
            exact big _ (by decide) (by decide)
          rw [p18] at v3
          refine ⟨_, _, rfl, rfl, _, _, rfl, by omega, big _ (by omega) (by omega), fun p hp => ?_⟩
          have le := low_le (n := k2 - 10 ^ (18 : Int).toNat) (d := 1 + k3) (by omega)
          rw [p18] at le
          refine k p _ _ _ (low_rt (by omega)) ?_ (Nat.le_trans le.2 (b40 _ (by omega) (by omega))) upd_same (((S1.trans S2).trans S3).free T3.tape hp) (T3.same (Same.upd hp)) (((S1.trans S2).trans S3).trans (Same.b t (Same.upd hp)))
          exact Nat.le_trans le.1 (b40 _ (by omega) (by omega))
        · refine ⟨_, _, rfl, rfl, pw40, _, rfl, t, c, _, rfl, T1, by decide, big _ (by decide) (by decide), fun k2 H2 u2 v2 T2 S2 => ?_⟩
          refine ⟨_, _, rfl, rfl, ?_⟩
          rw [p40]
          obtain ⟨ed, he⟩ : ∃ ed : Int, ed = 10000000000000000000000000000000000000000 - k2 := ⟨_, rfl⟩
          rw [show (fun i j : Int => V.int (i - j)) 10000000000000000000000000000000000000000 k2 = V.int ed by rw [he]]
          refine ⟨_, rfl, two, fun a1 ha1 => ⟨_, rfl, _, _, rfl, rfl, two, fun a2 ha2 => ⟨_, rfl, two, fun a3 ha3 => ⟨_, rfl, _, rfl, two, fun a4 ha4 => ⟨by show 4 ≤ sizeLine; decide, fun a5 ha5 => ?_⟩⟩⟩⟩⟩
          have z1 := Same.upd (o := .tup [.int ed, .int 1]) ha1
          have z2 := Same.upd (o := .tup [.int (0 - ed), .int 1]) ha2
          have z3 := Same.upd (o := .tup [.int 1, .int ed]) ha3
          have z4 := Same.upd (o := .tup [.int (-1), .int ed]) ha4
          have z5 := Same.upd (o := .lst [.ref a1, .ref a2, .ref a3, .ref a4]) ha5
          have zz := z1.trans (z2.trans (z3.trans (z4.trans z5)))
          have T5 := T2.same zz
          refine ⟨_, rfl, t, c, _, rfl, T5, by decide, big _ (by decide) (by decide), fun k3 H3 u3 v3 T3 S3 => ?_⟩
          have n5 : a5 ≠ t := (T2.same (z1.trans (z2.trans (z3.trans z4)))).tape.ne ha5
          have n1 : a1 ≠ t := T2.tape.ne ha1
          have n2 : a2 ≠ t := (T2.same z1).tape.ne ha2
          have n3 : a3 ≠ t := (T2.same (z1.trans z2)).tape.ne ha3
          have n4 : a4 ≠ t := (T2.same (z1.trans (z2.trans z3))).tape.ne ha4
          have f0 := S1.trans S2
          have g1 : H a1 = none := f0.free T2.tape ha1
          have g2 : H a2 = none := f0.free T2.tape (z1.free ha2)
          have g3 : H a3 = none := f0.free T2.tape ((z1.trans z2).free ha3)
          have g4 : H a4 = none := f0.free T2.tape ((z1.trans (z2.trans z3)).free ha4)
          have sb := (f0.trans (Same.b t zz)).trans S3
          have e1 := S3 _ _ n1 ((z2.trans (z3.trans (z4.trans z5))) _ _ upd_same)
          have e2 := S3 _ _ n2 ((z3.trans (z4.trans z5)) _ _ upd_same)
          have e3 := S3 _ _ n3 ((z4.trans z5) _ _ upd_same)
          have e4 := S3 _ _ n4 (z5 _ _ upd_same)
          have hL := S3 _ _ n5 (upd_same)
          rcases (by omega : k3 = 0 ∨ k3 = 1 ∨ k3 = 2 ∨ k3 = 3) with rfl | rfl | rfl | rfl
          · exact ⟨a5, _, _, _, rfl, rfl, SqL.of hL, rfl, k a1 _ _ _ (rt_one _) (b40 _ (by omega) (by omega)) (b40 _ (by omega) (by omega)) e1 g1 T3 sb⟩
          · exact ⟨a5, _, _, _, rfl, rfl, SqL.of hL, rfl, k a2 _ _ _ (rt_one _) (b40 _ (by omega) (by omega)) (b40 _ (by omega) (by omega)) e2 g2 T3 sb⟩
          · exact ⟨a5, _, _, _, rfl, rfl, SqL.of hL, rfl, k a3 _ _ _ (rt_inv (by omega)) (b40 _ (by omega) (by omega)) (b40 _ (by omega) (by omega)) e3 g3 T3 sb⟩
          · exact ⟨a5, _, _, _, rfl, rfl, SqL.of hL, rfl, k a4 _ _ _ (rt_ninv (by omega)) (b40 _ (by omega) (by omega)) (b40 _ (by omega) (by omega)) e4 g4 T3 sb⟩
end
end K17
set_option Elab.async false
set_option linter.all false
set_option maxRecDepth 100000
set_option maxHeartbeats 4000000
namespace K17
open PySem PySem.Spec PyProof.Rows L2 Lc
abbrev sLv : Stmt := top 131
abbrev sLvs : Stmt := top 132
/-! ## values -/
inductive Vk : Str → PyData → Prop
  | non (k : Str) : Vk k .none
  | num {n d : Int} (h : Rt n d) (h1 : n.natAbs ≤ 10000000000000000000000000000000000000000) (h2 : d.natAbs ≤ 10000000000000000000000000000000000000000) : Vk "number" (.tuple [.int n, .int d])
  | flag (b : Bool) : Vk "flag" (.bool b)
  | word {x : Str} (h : Sh 12 x) (hn : nameB (.str x) = true) : Vk "word" (.str x)
inductive Vks : List Str → List PyData → Prop
  | nil : Vks [] []
  | cons {k : Str} {d : PyData} {ks : List Str} {ds : List PyData} (h : Vk k d) (r : Vks ks ds) : Vks (k :: ks) (d :: ds)
theorem Vks.app {k : Str} {d : PyData} (h : Vk k d) : ∀ {ks : List Str} {ds : List PyData}, Vks ks ds → Vks (ks ++ [k]) (ds ++ [d])
  | _, _, .nil => .cons h .nil
  | _, _, .cons a r => .cons a (Vks.app h r)
theorem Vks.len : ∀ {ks : List Str} {ds : List PyData}, Vks ks ds → ks.length = ds.length
  | _, _, .nil => rfl
  | _, _, .cons _ r => by rw [List.length_cons, List.length_cons, Vks.len r]
/-- v is d, all its parts are new since H -/
def DhF (H H' : Hp) (v : V) (d : PyData) : Prop := ∀ H2 : Hp, (∀ b o, H b = none → H' b = some o → H2 b = some o) → Dh H2 v d
theorem DhF.now {H H' : Hp} {v : V} {d : PyData} (h : DhF H H' v d) : Dh H' v d := h H' fun _ _ _ e => e
def spVal : Sp := fun vs H Q _ => ∃ (t c : Addr) (kind : Str) (b : Bool), vs = [.ref t, .str kind, .bl b] ∧ TapeL c H t ∧ KindS kind ∧ ∀ (v : V) (d : PyData) (H' : Hp), DhF H H' v d → Vk kind d → TapeL c H' t → SameB t H H' → Q v H'
def spVals : Sp := fun vs H Q _ => ∃ (t c L : Addr) (b : Bool) (xs : List V) (ps : List (Str × Str)), vs = [.ref t, .ref L, .bl b] ∧ TapeL c H t ∧ Rd H L (.tup xs) ∧ Cols H xs ps ∧ (∀ p ∈ ps, KindS p.2) ∧ ps.length ≤ 8 ∧
  ∀ (r : Addr) (ds : List PyData) (H' : Hp), DhF H H' (.ref r) (.tuple ds) → Vks (ps.map (·.2)) ds → TapeL c H' t → SameB t H H' → Q (.ref r) H'
abbrev teVs : TE := tCall spVal [] E0 (tCons (tVar 0) (tCons (tVar 4) (tCons (tVar 2) tNil)))
theorem Cols.get {H : Hp} : ∀ {xs : List V} {ps : List (Str × Str)}, Cols H xs ps → ∀ (i : Nat) (x : V), xs[i]? = some x → ∃ a z kk, x = .ref a ∧ H a = some (.tup [.str z, .str kk]) ∧ ps[i]? = some (z, kk)
  | _, _, .nil, i, x, e => by simp at e
  | _, _, .cons h r, 0, x, e => by
    obtain rfl := Option.some.inj e
    exact ⟨_, _, _, rfl, h, rfl⟩
  | _, _, .cons h r, i + 1, x, e => by
    obtain ⟨a, z, kk, h1, h2, h3⟩ := Cols.get r i x (by simpa using e)
    exact ⟨a, z, kk, h1, h2, by simpa using h3⟩
section
variable {P : Program} {w : World} {K : PySem.W.Frag} {mg : Str → Option Value} {base : Heap} {f fD fR fN fV : Addr} {fd fdD fdR fdN fdV : FuncData}
theorem scLv : FnScope ["_law_tape_here", "_law_kind", "_law_wide"] ["_law_tape_here", "_law_kind", "_law_wide"] (defScope sLv) := ⟨rfl, rfl, rfl, by decide +kernel, rfl, by decide +kernel, by decide +kernel⟩
theorem ok_lv (F : Fun K "_law_value" "_law_value" sLv f fd) (GD : FnOk P w K mg base CX0 1 fD fdD ["_law_tape_here", "_law_many"] spDrawL) (mD : mg "_law_draw" = some (.ref fD)) (kD : PySem.W.keepIn K (.ref fD) = true) (bD : Binds K fdD ["_law_tape_here", "_law_many"] [])
    (GR : FnOk P w K mg base CX0 2 fR fdR ["_law_tape_here", "_law_wide"] spRatL) (mR : mg "_law_rational" = some (.ref fR)) (kR : PySem.W.keepIn K (.ref fR) = true) (bR : Binds K fdR ["_law_tape_here", "_law_wide"] [])
    (GN : FnOk P w K mg base CX0 2 fN fdN ["_law_tape_here"] spLNm) (mN : mg "_law_name" = some (.ref fN)) (kN : PySem.W.keepIn K (.ref fN) = true) (bN : Binds K fdN ["_law_tape_here"] []) : FnOk P w K mg base CX0 3 f fd ["_law_tape_here", "_law_kind", "_law_wide"] spVal := by
  refine F.ok scLv (fun vs H Q E h => ?_) (fun cdv A outer s H vs Q E hr h => ?_)
  · obtain ⟨t, c, kind, b, rfl, _⟩ := h
    rfl
  · obtain ⟨t, c, kind, b, rfl, hT, hk, k⟩ := h
    have hr1 : Room 1 _ := hr.mono (by decide)
    refine ⟨_, pss_cons (ps_if (pt_cmpR op_eq (pe_call GD hr1 (by rfl) mD kD bD .nil pass0 (pa_cons (pv 0) (pa_cons pe_int pa_nil))) pe_int (nomark _)) (pss_one (ps_ret pe_non)) pss_nil)
      (pss_cons (ps_if (pt_cmpR op_eq (pv 1) pe_str (nomark _)) (pss_one (ps_ret (pe_call GR hr (by rfl) mR kR bR .nil pass0 (pa_cons (pv 0) (pa_cons (pv 2) pa_nil))))) pss_nil)
      (pss_cons (ps_if (pt_cmpR op_eq (pv 1) pe_str (nomark _)) (pss_one (ps_ret (pe_cmpR op_eq (pe_call GD hr1 (by rfl) mD kD bD .nil pass0 (pa_cons (pv 0) (pa_cons pe_int pa_nil))) pe_int (nomark _)))) pss_nil)
      (pss_cons (ps_if (pt_cmpR op_gt (pe_call GD hr1 (by rfl) mD kD bD .nil pass0 (pa_cons (pv 0) (pa_cons pe_int pa_nil))) pe_int (nomark _)) (pss_one (ps_ret (pe_ix ix_list (pe_lst (pa_cons pe_str (pa_cons pe_str (pa_cons pe_str (pa_cons pe_str pa_nil))))) (pe_call GD hr1 (by rfl) mD kD bD .nil pass0 (pa_cons (pv 0) (pa_cons pe_int pa_nil))) (fun _ _ => rfl)))) pss_nil)
      (pss_one (ps_ret (pe_call GN hr (by rfl) mN kN bN .nil pass0 (pa_cons (pv 0) pa_nil))))))), ?_⟩
    have sh : ∀ {x : Str}, kind ≠ "number" → kind ≠ "flag" → Sh 12 x → nameB (.str x) = true → Vk kind (.str x) := fun n1 n2 h1 h2 => by
      rcases hk with rfl | rfl | rfl
      · exact absurd rfl n1
      · exact .word h1 h2
      · exact absurd rfl n2
    refine ⟨_, rfl, t, c, _, rfl, hT, by decide, big1000 (by decide) (by decide), fun k1 H1 u1 w1 T1 S1 => ⟨rfl, _, rfl, ite2 (fun _ => ?_) (fun _ => ?_)⟩⟩
    · exact k .non .none H1 (fun _ _ => .non) (.non _) T1 S1
    refine ⟨_, rfl, rfl, _, rfl, ite2 (fun y => ?_) (fun y => ?_)⟩
    · have ek : kind = "number" := by have := of_decide_eq_true y; injection this
      refine ⟨_, rfl, _, rfl, t, c, b, rfl, T1, fun p n d H2 rt h1 h2 hp gp T2 S2 => k (.ref p) _ H2 (fun H3 s3 => ?_) (by rw [ek]; exact .num rt h1 h2) T2 (S1.trans S2)⟩
      have gH : H p = none := by
        cases q : H p with
        | none => rfl
        | some o =>
          by_cases z : p = t
          · obtain ⟨_, _, _, _, ht, _⟩ := T1
            rw [z, ht] at gp
            cases gp
          · rw [S1 p o z q] at gp
            cases gp
      exact .tup (s3 _ _ gH hp) (.cons (.int n) (.cons (.int d) .nil))
    have n1 : kind ≠ "number" := fun e => y (decide_eq_true (by rw [e]))
    refine ⟨_, rfl, rfl, _, rfl, ite2 (fun y => ?_) (fun y => ?_)⟩
    · have ek : kind = "flag" := by have := of_decide_eq_true y; injection this
      exact ⟨_, rfl, t, c, _, rfl, T1, by decide, big1000 (by decide) (by decide), fun k2 H2 u2 w2 T2 S2 => ⟨rfl, k _ (.bool _) H2 (fun _ _ => .bl _) (by rw [ek]; exact .flag _) T2 (S1.trans S2)⟩⟩
    have n2 : kind ≠ "flag" := fun e => y (decide_eq_true (by rw [e]))
    refine ⟨_, rfl, t, c, _, rfl, T1, by decide, big1000 (by decide) (by decide), fun k2 H2 u2 w2 T2 S2 => ⟨_, _, rfl, rfl, _, rfl, ite2 (fun _ => ?_) (fun _ => ?_)⟩⟩
    · refine ⟨by show 4 ≤ sizeLine; decide, fun q hq => ?_⟩
      have zq := Same.upd (o := .lst [.str "a", .str "b", .str "ab", .str "b0"]) hq
      have nq := T2.tape.ne hq
      refine ⟨_, rfl, t, c, _, rfl, T2.same zq, by decide, big1000 (by decide) (by decide), fun k3 H3 u3 w3 T3 S3 => ?_⟩
      obtain ⟨x, hx, sx, nx⟩ : ∃ x : Str, ([.str "a", .str "b", .str "ab", .str "b0"] : List V)[k3.toNat]? = some (.str x) ∧ Sh 12 x ∧ nameB (.str x) = true := by
        have : k3.toNat = 0 ∨ k3.toNat = 1 ∨ k3.toNat = 2 ∨ k3.toNat = 3 := by omega
        rcases this with e | e | e | e <;> rw [e]
        · exact ⟨_, rfl, ⟨by decide +kernel, by decide +kernel⟩, by decide +kernel⟩
        · exact ⟨_, rfl, ⟨by decide +kernel, by decide +kernel⟩, by decide +kernel⟩
        · exact ⟨_, rfl, ⟨by decide +kernel, by decide +kernel⟩, by decide +kernel⟩
        · exact ⟨_, rfl, ⟨by decide +kernel, by decide +kernel⟩, by decide +kernel⟩
      exact ⟨q, _, _, _, rfl, rfl, SqL.of (S3 _ _ nq upd_same), at_of (j := k3.toNat) (by omega) hx, k _ (.str x) H3 (fun _ _ => .str x) (sh n1 n2 sx nx) T3 (((S1.trans S2).trans (Same.b t zq)).trans S3)⟩
    · exact ⟨_, rfl, t, c, rfl, T2, fun x H3 hx nx T3 S3 => k _ (.str x) H3 (fun _ _ => .str x) (sh n1 n2 hx nx) T3 ((S1.trans S2).trans S3)⟩
theorem scLvs : FnScope ["_law_tape_here", "_law_columns_here", "_law_wide", "_law_name_here", "_law_kind"] ["_law_tape_here", "_law_columns_here", "_law_wide"] (defScope sLvs) := ⟨rfl, rfl, rfl, by decide +kernel, rfl, by decide +kernel, by decide +kernel⟩
theorem ok_lvs (F : Fun K "_law_values" "_law_values" sLvs f fd) (T : Bt mg) (GV : FnOk P w K mg base CX0 3 fV fdV ["_law_tape_here", "_law_kind", "_law_wide"] spVal) (mV : mg "_law_value" = some (.ref fV)) (kV : PySem.W.keepIn K (.ref fV) = true) (bV : Binds K fdV ["_law_tape_here", "_law_kind", "_law_wide"] []) : FnOk P w K mg base CX0 4 f fd ["_law_tape_here", "_law_columns_here", "_law_wide"] spVals := by
  refine F.ok scLvs (fun vs H Q E h => ?_) (fun cdv A outer s H vs Q E hr h => ?_)
  · obtain ⟨t, c, L, b, xs, ps, rfl, _⟩ := h
    rfl
  · obtain ⟨t, c, L, b, xs, ps, rfl, hT, hL, hc, hk, l8, k⟩ := h
    refine ⟨_, pss_one (ps_ret (pe_callTy call_tuple_of (by rfl) T.tuple boot_tuple (pa_cons (pe_lc (own := [("_law_name_here", 3), ("_law_kind", 4)]) (g := gTup K 2 (gCons (gName 3) (gCons (gName 4) gNil))) (tt := tYes) (te := teVs) (by rfl) scLvs.nd (pi_tup (pv 1)) (blkOk_by (own := [("_law_name_here", 3), ("_law_kind", 4)]) (N := ["_law_tape_here", "_law_columns_here", "_law_wide", "_law_name_here", "_law_kind"]) (sc := defScope sLvs) (by decide +kernel))
      (fun _ _ _ _ _ => pg_tup rfl (pgs_cons (pg_name (i := 3) scLvs.nd rfl (.inl rfl)) (pgs_cons (pg_name (i := 4) scLvs.nd rfl (.inl rfl)) pgs_nil))) (fun _ _ _ _ _ => pts_nil) (fun _ _ _ _ _ => pe_call GV hr (by rfl) mV kV bV .nil pass0 (pa_cons (pv 0) (pa_cons (pv 4) (pa_cons (pv 2) pa_nil))))) pa_nil))), ?_⟩
    refine ⟨_, rfl, L, rfl, ⟨_, hL.sq⟩, fun D hD => lc_tup (K := K) (a := L) (xs := xs) (fun i H' => ∃ (ys : List V) (ds : List PyData), H' D = some (.lst ys) ∧ ys.length = i ∧ (∀ H2 : Hp, (∀ b o, b ≠ D → H b = none → H' b = some o → H2 b = some o) → DhAll H2 ys ds) ∧ Vks ((ps.take i).map (·.2)) ds ∧ TapeL c H' t ∧ SameB t H H')
      ⟨[], [], upd_same, rfl, fun _ _ => .nil, .nil, hT.same (Same.upd hD), Same.b t (Same.upd hD)⟩ (fun i H' _ p => by obtain ⟨_, _, _, _, _, _, _, s'⟩ := p; exact (hL.b hT.tape s').sq) ?_ ?_⟩
    · rintro i x H1 hx ⟨ys, ds, hD1, rfl, hds, hv, T1, S1⟩
      obtain ⟨a, z, kk, rfl, ea, ep⟩ := hc.get _ _ hx
      have ea1 := S1 _ _ (hT.tape.neT ea) ea
      have lx := hc.len
      have hi : ys.length < xs.length := (List.getElem?_eq_some_iff.mp hx).1
      have nD := hT.tape.ne hD
      refine ⟨a, _, rfl, SqT.of ea1, rfl, _, _, rfl, _, _, rfl, rfl, rfl, ?_⟩
      change teVs _ _ _
      refine ⟨_, rfl, _, rfl, _, rfl, t, c, kk, b, rfl, T1, hk _ (List.mem_of_getElem? ep), fun v d H2 hv2 vk T2 S2 => ?_⟩
      refine ⟨ys, S2 _ _ nD hD1, Nat.lt_of_lt_of_le hi (Nat.le_trans (show xs.length ≤ 8 by omega) (by decide)), ys ++ [v], ds ++ [d], upd_same, by rw [List.length_append]; rfl, fun H3 h3 => ?_, ?_, ?_, fun b' o n e => ?_⟩
      · refine DhAll.append (hds H3 fun b' o n1 n2 e => h3 b' o n1 n2 ?_) (.cons (hv2 H3 fun b' o n2 e => ?_) .nil)
        · rw [upd_ne n1]
          exact S2 b' o (hT.tape.ne n2) e
        · have nb : b' ≠ D := fun z => by rw [z, hD1] at n2; cases n2
          have nh : H b' = none := by
            cases q : H b' with
            | none => rfl
            | some o' =>
              by_cases z : b' = t
              · obtain ⟨_, _, _, _, ht, _⟩ := T1
                rw [z, ht] at n2
                cases n2
              · rw [S1 b' o' z q] at n2
                cases n2
          exact h3 b' o nb nh (by rw [upd_ne nb]; exact e)
      · rw [List.take_add_one, ep, List.map_append]
        exact Vks.app vk hv
      · have nc : D ≠ c := by
          obtain ⟨zs, hz⟩ := hT.list
          exact Ne.symm (ne_of_none hz hD)
        exact T2.upd nD nc
      · rw [upd_ne (ne_of_none e hD)]
        exact (S1.trans S2) b' o n e
    · rintro H1 ⟨ys, ds, hD1, _, hds, hv, T1, S1⟩
      refine ⟨D, ys, rfl, .inl ⟨SqL.of hD1, fun r hr => ?_⟩⟩
      have zr := Same.upd (o := .tup ys) hr
      have lx := hc.len
      rw [lx, List.take_length] at hv
      have nt := T1.tape.ne hr
      have gr : H r = none := S1.free T1.tape hr
      refine k r ds _ (fun H2 h2 => .tup (h2 _ _ gr upd_same) (hds H2 fun b' o n1 n2 e => h2 b' o n2 (zr _ _ e))) hv (T1.same zr) (S1.trans (Same.b t zr))
end
end K17
set_option Elab.async false
set_option linter.all false
set_option maxRecDepth 100000
set_option maxHeartbeats 4000000
namespace K17
open PySem PySem.Spec PyProof.Rows L2 Lc
/-! ## columns, and the steps that this law draws -/
inductive Ps where
  | sort (a : Str) (u : Bool)
def updn (u : Bool) : Str := if u then "up" else "down"
def Ps.d : Ps → PyData
  | .sort a u => .tuple [.str "sort", .str a, .str (updn u)]
def Ps.w : Ps → Str
  | .sort _ _ => "sort"
def Ps.len : Ps → Nat
  | .sort _ _ => 3
abbrev nmS (x : Str) : Prop := nameB (.str x) = true
abbrev vS (ss : List Str) : List V := ss.map V.str
abbrev CsL : Type := List (Str × Str)
structure ColP (ps : CsL) : Prop where
  ok : ∀ p ∈ ps, Sh 12 p.1 ∧ nameB (.str p.1) = true ∧ KindS p.2
  nd : (ps.map (·.1)).Nodup
  l1 : 1 ≤ ps.length
  l8 : ps.length ≤ 8
abbrev nms (ps : CsL) : List Str := ps.map (·.1)
theorem ColP.nm {ps : CsL} (h : ColP ps) {x : Str} (hx : x ∈ nms ps) : Sh 12 x ∧ nmS x := by
  obtain ⟨p, hp, rfl⟩ := List.mem_map.mp hx
  exact ⟨(h.ok p hp).1, (h.ok p hp).2.1⟩
def kdOf (ps : CsL) (n : Str) : Str := ((ps.find? fun p => decide (p.1 = n)).map (·.2)).getD ""
theorem kdOf_mem {ps : CsL} (h : (ps.map (·.1)).Nodup) {p : Str × Str} (hp : p ∈ ps) : kdOf ps p.1 = p.2 := by
  induction ps with
  | nil => cases hp
  | cons q r ih =>
    unfold kdOf
    rw [List.find?_cons]
    rcases List.mem_cons.mp hp with rfl | hp
    · rw [decide_eq_true rfl]
      rfl
    · rw [List.map_cons, List.nodup_cons] at h
      have : ¬ q.1 = p.1 := fun e => h.1 (by rw [e]; exact List.mem_map_of_mem hp)
      rw [decide_eq_false this]
      exact ih h.2 hp
theorem ColP.kd {ps : CsL} (h : ColP ps) {x : Str} (hx : x ∈ nms ps) : (x, kdOf ps x) ∈ ps ∧ KindS (kdOf ps x) := by
  obtain ⟨p, hp, rfl⟩ := List.mem_map.mp hx
  rw [kdOf_mem h.nd hp]
  exact ⟨hp, (h.ok p hp).2.2⟩
inductive Lead (ps : CsL) : Ps → CsL → Prop
  | sort {a : Str} {u : Bool} (ha : a ∈ nms ps) : Lead ps (.sort a u) ps
theorem Vk.noL {k : Str} {d : PyData} (h : Vk k d) : noL d = true := by cases h <;> rfl
theorem Cols.b {t : Addr} {H H' : Hp} {xs : List V} {ps : List (Str × Str)} (h : Cols H xs ps) (T : Tape H t) (s : SameB t H H') : Cols H' xs ps := h.t (SameT.b T s)
/-! ## columns in the heap -/
def dl (t : Addr) (H : Hp) : Hp := fun b => if b = t then none else H b
theorem dl_at {t a : Addr} {H : Hp} {o : HO} (n : a ≠ t) (e : H a = some o) : dl t H a = some o := by
  unfold dl
  rw [if_neg n]
  exact e
theorem dl_of {t a : Addr} {H : Hp} {o : HO} (e : dl t H a = some o) : a ≠ t ∧ H a = some o := by
  unfold dl at e
  by_cases q : a = t
  · rw [if_pos q] at e; cases e
  · rw [if_neg q] at e; exact ⟨q, e⟩
theorem dl_same {t : Addr} {H H' : Hp} (s : SameB t H H') : Same (dl t H) (dl t H') := fun b o e => dl_at (dl_of e).1 (s b o (dl_of e).1 (dl_of e).2)
theorem dl_here {t : Addr} {H : Hp} : Same (dl t H) H := fun b o e => (dl_of e).2
abbrev DhT (t : Addr) (H : Hp) (v : V) (d : PyData) : Prop := Dh (dl t H) v d
theorem dts {t : Addr} {H H1 : Hp} {v : V} {d : PyData} (h : DhT t H v d) (s : Same H H1) : DhT t H1 v d := h.same (dl_same (Same.b t s))
theorem dtb {t : Addr} {H H1 : Hp} {v : V} {d : PyData} (h : DhT t H v d) (s : SameB t H H1) : DhT t H1 v d := h.same (dl_same s)
theorem dtsA {t : Addr} {H H1 : Hp} {vs : List V} {ds : List PyData} (h : DhAll (dl t H) vs ds) (s : Same H H1) : DhAll (dl t H1) vs ds := h.same (dl_same (Same.b t s))
theorem dtbA {t : Addr} {H H1 : Hp} {vs : List V} {ds : List PyData} (h : DhAll (dl t H) vs ds) (s : SameB t H H1) : DhAll (dl t H1) vs ds := h.same (dl_same s)
theorem DhF.t {t : Addr} {H H' : Hp} {v : V} {d : PyData} (T : Tape H t) (h : DhF H H' v d) : DhT t H' v d := h (dl t H') fun b o n e => dl_at (T.ne n) e
/-- a new tuple of data -/
theorem dh_tupT {t p : Addr} {H : Hp} {vs : List V} {ds : List PyData} (T : Tape H t) (h : DhAll (dl t H) vs ds) (hp : H p = none) : DhT t (upd H p (.tup vs)) (.ref p) (.tuple ds) := .tup (dl_at (T.ne hp) upd_same) (dtsA h (Same.upd hp))
def CA (H : Hp) (L : Addr) (ps : CsL) : Prop := ∃ xs, ZT H L xs ∧ Cols H xs ps
theorem CA.b {t : Addr} {H H' : Hp} {L : Addr} {ps : CsL} (h : CA H L ps) (T : Tape H t) (s : SameB t H H') : CA H' L ps := by
  obtain ⟨xs, z, c⟩ := h
  exact ⟨xs, z.b T s, c.b T s⟩
theorem CA.same {H H' : Hp} {L : Addr} {ps : CsL} (h : CA H L ps) (s : Same H H') : CA H' L ps := by
  obtain ⟨xs, z, c⟩ := h
  exact ⟨xs, z.same s, c.t (SameT.of s)⟩
theorem SameT.b2 {t : Addr} {H H' : Hp} (T : Tape H t) (s : SameB t H H') : SameT H H' := SameT.b T s
/-- a text of these columns as it is: the names -/
theorem cols_at {H : Hp} {xs : List V} {ps : CsL} (c : Cols H xs ps) {i : Nat} {x : V} (h : xs[i]? = some x) : ∃ a z k, x = .ref a ∧ H a = some (.tup [.str z, .str k]) ∧ ps[i]? = some (z, k) := c.get _ _ h
/-- what is new stays when the tape is drawn from and when a list is written -/
theorem dlT {t a : Addr} {H : Hp} {zs ys : List V} (e : H a = some (.lst zs)) : SameT (dl t H) (dl t (upd H a (.lst ys))) := fun b xs q => by
  obtain ⟨n, q⟩ := dl_of q
  exact dl_at n (by rw [upd_ne (ne_of q e nofun)]; exact q)
theorem DhT.upd {t a : Addr} {H : Hp} {zs ys : List V} {v : V} {d : PyData} (h : DhT t H v d) (n : noL d = true) (e : H a = some (.lst zs)) : DhT t (L2.upd H a (.lst ys)) v d := h.t (dlT e) n
theorem dhtA_upd {t a : Addr} {H : Hp} {zs ys vs : List V} {ds : List PyData} (h : DhAll (dl t H) vs ds) (n : ∀ d ∈ ds, noL d = true) (e : H a = some (.lst zs)) : DhAll (dl t (L2.upd H a (.lst ys))) vs ds := by
  induction ds generalizing vs with
  | nil => cases h; exact .nil
  | cons d ds ih =>
    cases h with
    | cons h r => exact .cons (DhT.upd h (n d List.mem_cons_self) e) (ih r fun x hx => n x (List.mem_cons_of_mem _ hx))
end K17
set_option Elab.async false
set_option linter.all false
set_option maxRecDepth 100000
set_option maxHeartbeats 4000000
namespace K17
open PySem PySem.Spec PyProof.Rows L2 Lc
/-! ## some of the items, in a drawn order -/
theorem erase_perm {α : Type} : ∀ {l : List α} {k : Nat} {y : α}, l[k]? = some y → (y :: l.eraseIdx k).Perm l
  | [], k, y, h => by simp at h
  | a :: l, 0, y, h => by
    have e : a = y := by simpa using h
    subst e
    exact List.Perm.refl _
  | a :: l, k + 1, y, h => by
    have ih := erase_perm (l := l) (k := k) (y := y) (by simpa using h)
    show (y :: a :: l.eraseIdx k).Perm (a :: l)
    exact (List.Perm.swap a y _).trans (ih.cons a)
theorem map_er {α β : Type} (f : α → β) : ∀ (l : List α) (k : Nat), (l.map f).eraseIdx k = (l.eraseIdx k).map f
  | [], k => by cases k <;> rfl
  | a :: l, 0 => rfl
  | a :: l, k + 1 => by
    show f a :: (l.map f).eraseIdx k = f a :: (l.eraseIdx k).map f
    rw [map_er f l k]
def spSrt : Sp := fun vs H Q _ => ∃ (t c L : Addr) (ps : CsL), vs = [.ref t, .ref L] ∧ TapeL c H t ∧ CA H L ps ∧ ColP ps ∧ ∀ (v : V) (a : Str) (u : Bool) (H' : Hp), a ∈ nms ps → DhT t H' v (Ps.d (.sort a u)) → TapeL c H' t → SameB t H H' → Q v H'
theorem nm_turn {H H1 : Hp} {D : Addr} {ps : CsL} {i : Nat} {z kk : Str} (hD : H D = none) (hD1 : H1 D = some (.lst (vS ((nms ps).take i)))) (ep : ps[i]? = some (z, kk)) (l8 : ps.length ≤ 8) (s1 : Same H H1) : ∃ acc, H1 D = some (.lst acc) ∧ acc.length < sizeLine ∧ (upd H1 D (.lst (acc ++ [.str z])) D = some (.lst (vS ((nms ps).take (i + 1)))) ∧ Same H (upd H1 D (.lst (acc ++ [.str z])))) := by
  refine ⟨_, hD1, ?_, ?_, fun b o e => by rw [upd_ne (ne_of_none e hD)]; exact s1 b o e⟩
  · rw [List.length_map, List.length_take, List.length_map]
    exact Nat.lt_of_le_of_lt (show _ ≤ 8 by omega) (by decide)
  · have : (nms ps)[i]? = some z := by rw [List.getElem?_map, ep]; rfl
    rw [upd_same, List.take_add_one, this]
    unfold vS
    rw [List.map_append]
    rfl
theorem seq_ix {n : Nat} {d : Int} (h0 : 0 ≤ d) (h1 : d < n) : seqIndex? d n = some d.toNat := by
  refine (ixN_seq (n := n) (i := d) (j := d.toNat) ?_).1
  unfold ixN
  rw [if_pos h0, if_pos h1]
theorem lt_size {n : Nat} (h : n ≤ 1000) : n < sizeLine := Nat.lt_of_le_of_lt h (by decide)
section
variable {P : Program} {w : World} {K : PySem.W.Frag} {mg : Str → Option Value} {base : Heap} {f : Addr} {fd : FuncData}
abbrev sSrt : Stmt := top 133
abbrev nSrt : List Str := ["_law_tape_here", "_law_columns_here", "_law_names", "_law_name_here", "_law_kind"]
abbrev pSrt : List Str := ["_law_tape_here", "_law_columns_here"]
theorem scSrt : FnScope nSrt pSrt (defScope sSrt) := ⟨rfl, rfl, rfl, by decide +kernel, rfl, by decide +kernel, by decide +kernel⟩
section
variable {fA_ : Addr} {fdA_ : FuncData}
theorem ok_Srt (F : Fun K "_law_sort_step" "_law_sort_step" sSrt f fd) (T : Bt mg)
    (GA_ : FnOk P w K mg base CX0 1 fA_ fdA_ ["_law_tape_here", "_law_many"] (spDrawL)) (mA_ : mg "_law_draw" = some (.ref fA_)) (kA_ : PySem.W.keepIn K (.ref fA_) = true) (bA_ : Binds K fdA_ ["_law_tape_here", "_law_many"] []) : FnOk P w K mg base CX0 2 f fd pSrt (spSrt) := by
  refine F.ok scSrt (fun vs H Q E h => ?_) (fun cdv A outer s H vs Q E hr h => ?_)
  · obtain ⟨t, c, L, ps, rfl, _⟩ := h
    rfl
  · obtain ⟨t, c, L, ps, rfl, hT, hL, cp, k⟩ := h
    have hrA_ : Room (1) _ := hr.mono (by first | decide | omega)
    refine ⟨_, (pss_cons (ps_setLc (i := 2) (own := [("_law_name_here", 3), ("_law_kind", 4)]) (g := (gTup K 2 (gCons (gName 3) (gCons (gName 4) gNil)))) (tt := tYes) (te := tVar 3) (by rfl) scSrt.nd rfl rfl (sw_true rfl rfl rfl (by decide +kernel)) (pi_tup (pv 1)) (blkOk_by (own := [("_law_name_here", 3), ("_law_kind", 4)]) (N := nSrt) (sc := defScope sSrt) (by decide +kernel)) (fun _ _ _ _ _ => (pg_tup rfl (pgs_cons (pg_name (i := 3) scSrt.nd rfl (.inl rfl)) (pgs_cons (pg_name (i := 4) scSrt.nd rfl (.inl rfl)) pgs_nil)))) (fun _ _ _ _ _ => pts_nil) (fun _ _ _ _ _ => (pv 3)))
      (pss_one (ps_ret (pe_tup (pa_cons pe_str (pa_cons (pe_ix ix_list (pv 2) (pe_call GA_ hrA_ (by rfl) mA_ kA_ bA_ .nil pass0 (pa_cons (pv 0) (pa_cons (pe_callB call_len_seq (by rfl) T.len PySem.boot_len (pa_cons (pv 2) pa_nil)) pa_nil))) (fun _ _ => rfl)) (pa_cons (pe_ix ix_list (pe_lst (pa_cons pe_str (pa_cons pe_str pa_nil))) (pe_call GA_ hrA_ (by rfl) mA_ kA_ bA_ .nil pass0 (pa_cons (pv 0) (pa_cons pe_int pa_nil))) (fun _ _ => rfl)) pa_nil))))))), ?_⟩
    have two : 2 ≤ sizeLine := by decide
    have one : 1 ≤ sizeLine := by decide
    have three : 3 ≤ sizeLine := by decide
    have four : 4 ≤ sizeLine := by decide
    obtain ⟨xs, zL, cc⟩ := hL
    have l8 := cp.l8
    have l1 := cp.l1
    refine ⟨_, rfl, L, rfl, ⟨_, zL.sq⟩, fun W hW => lc_tup (K := K) (a := L) (xs := xs) (fun i H' => H' W = some (.lst (vS ((nms ps).take i))) ∧ Same H H') ⟨upd_same, Same.upd hW⟩ (fun i H' _ pr => (zL.same pr.2).sq) ?_ ?_⟩
    · rintro i x H1 hx ⟨hW1, s1⟩
      obtain ⟨a, z, kk, rfl, ea, ep⟩ := cc.get _ _ hx
      refine ⟨a, _, rfl, SqT.of (s1 _ _ ea), rfl, _, _, rfl, _, _, rfl, rfl, rfl, ?_⟩
      dsimp only [tYes]
      exact iteT ⟨_, rfl, nm_turn hW hW1 ep cp.l8 s1⟩
    rintro H1 ⟨hW1, s1⟩
    rw [show xs.length = (nms ps).length by rw [cc.len, List.length_map], List.take_length] at hW1
    have T1 := hT.same s1
    have nW := hT.tape.ne hW
    have ln : (vS (nms ps)).length = ps.length := by rw [List.length_map, List.length_map]
    refine ⟨_, rfl, _, rfl, _, rfl, W, _, rfl, .inl (SqL.of hW1), t, c, _, rfl, T1, by rw [ln]; omega, big1000 (by omega) (by rw [ln]; omega), fun j H2 j0 j1 T2 S2 => ?_⟩
    rw [ln] at j1
    have hj : j.toNat < (nms ps).length := by rw [List.length_map]; omega
    obtain ⟨z, ez⟩ : ∃ z, (nms ps)[j.toNat]? = some z := ⟨_, List.getElem?_eq_getElem hj⟩
    refine ⟨W, _, _, .str z, rfl, rfl, SqL.of (S2 _ _ nW hW1), at_of (j := j.toNat) (by omega) (by rw [List.getElem?_map, ez]; rfl), two, fun Y hY => ?_⟩
    have zY := Same.upd (o := .lst [.str "up", .str "down"]) hY
    have nY := T2.tape.ne hY
    refine ⟨_, rfl, t, c, _, rfl, T2.same zY, by decide, big1000 (by decide) (by decide), fun u H3 u0 u2 T3 S3 => ?_⟩
    obtain ⟨b, eb⟩ : ∃ b : Bool, ([.str "up", .str "down"] : List V)[u.toNat]? = some (.str (updn b)) := by
      have : u.toNat = 0 ∨ u.toNat = 1 := by omega
      rcases this with e | e <;> rw [e]
      · exact ⟨true, rfl⟩
      · exact ⟨false, rfl⟩
    refine ⟨Y, _, _, .str (updn b), rfl, rfl, SqL.of (S3 _ _ nY upd_same), at_of (j := u.toNat) (by omega) eb, three, fun r hr => ?_⟩
    have S := (Same.b t s1).trans (S2.trans ((Same.b t zY).trans S3))
    exact k _ z b _ (List.mem_of_getElem? ez) (dh_tupT T3.tape (.cons (.str _) (.cons (.str _) (.cons (.str _) .nil))) hr) (T3.same (Same.upd hr)) (S.trans (Same.b t (Same.upd hr)))
end
end
end K17
set_option Elab.async false
set_option linter.all false
set_option maxRecDepth 100000
set_option maxHeartbeats 4000000
namespace Lc
open PySem PySem.Spec PyProof.Rows L2
/-! ## sorted(xs), xs a list of things that are read as alike data -/
abbrev dLe : PyData → PyData → Bool := PySem.W.dataLe false (fun d : PyData => d)
def rSortD (K : PySem.W.Frag) : List V → Hp → VK → Prop := fun vs H Q => ∃ (a : Addr) (xs : List V) (ds : List PyData), vs = [.ref a] ∧ SqL K H a xs ∧ (∀ x ∈ xs, ∃ b, x = V.ref b) ∧ DhAll H xs ds ∧ PySem.W.AllAlike ds ∧ PySem.W.Sortable ds ∧ (∀ d ∈ ds, d.hasDict = false ∧ d.depth ≤ 50) ∧
  ∀ (ys : List V) (p : Addr), ys.Perm xs → DhAll H ys (ds.mergeSort dLe) → H p = none → Q (.ref p) (upd H p (.lst ys))
theorem back_perm {us out : List Value} {xs : List V} (e : xs = us.map backV) (h : out.Perm us) : (out.map backV).Perm xs := by
  rw [e]
  exact h.map backV
theorem each_dh {H : Hp} : ∀ {us : List Value} {ds : List PyData}, PySem.W.EachIs (fun (v : Value) d => Dh H (backV v) d) us ds → DhAll H (us.map backV) ds
  | _, _, .nil => .nil
  | _, _, .cons h r => .cons h (each_dh r)
theorem dh_each {H : Hp} : ∀ {us : List Value} {ds : List PyData}, DhAll H (us.map backV) ds → PySem.W.EachIs (fun (v : Value) d => Dh H (backV v) d) us ds
  | [], _, .nil => .nil
  | _ :: _, _, .cons h r => .cons h (dh_each r)
section
variable {X : Cx}
theorem dh_readsAll {pins : List (Addr × Obj)} {σ : L2.St} {H : Hp} {s : Shared} (I : Inv X pins σ H s) : ∀ {xs : List V} {us : List Value} {ds : List PyData}, Vals xs us → DhAll H xs ds → (∀ d ∈ ds, d.hasDict = false ∧ d.depth ≤ 50) → PySem.W.EachIs (fun v d => ∃ as, Reads s.heap v d as) us ds
  | _, _, _, .nil, .nil, _ => .nil
  | _, _, _, .cons r rs, .cons h hs, n => by
    obtain ⟨as, q⟩ := Dp.reads I _ _ _ (h.dp (n _ List.mem_cons_self).1) r
    exact .cons ⟨as, q⟩ (dh_readsAll I rs hs fun d hd => n d (List.mem_cons_of_mem _ hd))
theorem each_mono' {α β : Type} {R S : α → β → Prop} (f : ∀ a b, R a b → S a b) : ∀ {as : List α} {bs : List β}, PySem.W.EachIs R as bs → PySem.W.EachIs S as bs
  | _, _, .nil => .nil
  | _, _, .cons h r => .cons (f _ _ h) (each_mono' f r)
theorem call_sortedDt (hu : X.A.units + 64 < cLine) : CallR X (.builtin "sorted") (rSortD X.K) := by
  intro pins s σ H vs us Q I r h
  obtain ⟨a, xs, ds, rfl, hs, hx, hd, al, so, dp, q⟩ := h
  obtain ⟨its, rv, hl, hz⟩ := I.list hs
  obtain ⟨u, rfl, ru⟩ := vals1 r
  obtain rfl : u = Value.ref a := ru
  obtain ⟨e1, e2⟩ := refs_back rv hx
  have rd : PySem.W.EachIs (fun v d => ∃ as, Reads s.heap v d as) its ds := dh_readsAll I rv hd dp
  have lz : its.length ≤ sizeLine := by rw [← rv.length]; exact hz
  have keep : ∀ b o, s.heap.get? b = some o → (PySem.W.sortingHeap (PySem.W.copyHeap s.heap its) (s.heap.objs.size + 1) its).get? b = some o := fun b o e => PySem.W.sorting_copy_old e
  have rd2 : PySem.W.EachIs (fun v d => ∃ as, Reads (PySem.W.sortingHeap (PySem.W.copyHeap s.heap its) (s.heap.objs.size + 1) its) v d as) its ds := each_mono' (fun v d ⟨as, r⟩ => ⟨as, Reads.keeps keep r⟩) rd
  have S := PySem.W.SortsAt.data (prog := X.prog) (w := X.w) (A := X.A.in1.in1) (s := { s with heap := PySem.W.sortingHeap (PySem.W.copyHeap s.heap its) (s.heap.objs.size + 1) its }) rd2 al so fun d hm => by
    have := (dp d hm).2
    show X.A.units + 1 + 1 + d.depth < cLine
    omega
  have e3 : PySem.W.EachIs (fun (v : Value) d => Dh H (backV v) d) (PySem.W.sortVals (PySem.W.dataKind (PySem.W.sortingHeap (PySem.W.copyHeap s.heap its) (s.heap.objs.size + 1) its) ds) false its its) (ds.mergeSort dLe) :=
    PySem.W.sortVals_each (κ := PySem.W.dataKind (PySem.W.sortingHeap (PySem.W.copyHeap s.heap its) (s.heap.objs.size + 1) its) ds) (rev := false) (fun d : PyData => PySem.W.keyToks d) (dh_each (by rw [← e1]; exact hd)) (PySem.W.each_keys al rd2)
  have pm : (PySem.W.sortVals (PySem.W.dataKind (PySem.W.sortingHeap (PySem.W.copyHeap s.heap its) (s.heap.objs.size + 1) its) ds) false its its).Perm its := by
    unfold PySem.W.sortVals
    have z := (List.mergeSort_perm (its.zip its) (PySem.W.sortLe (PySem.W.dataKind (PySem.W.sortingHeap (PySem.W.copyHeap s.heap its) (s.heap.objs.size + 1) its) ds).toKeyOrd false fun p : Keyed => PySem.W.keyD (PySem.W.dataKind (PySem.W.sortingHeap (PySem.W.copyHeap s.heap its) (s.heap.objs.size + 1) its) ds) p.1)).map Prod.snd
    rw [List.map_snd_zip (Nat.le_refl _)] at z
    exact z
  refine PySem.W.sorted_vals hl.isList S lz ?_
  generalize PySem.W.sortVals (PySem.W.dataKind (PySem.W.sortingHeap (PySem.W.copyHeap s.heap its) (s.heap.objs.size + 1) its) ds) false its its = out at e3 pm ⊢
  have h3 : ∀ u ∈ out, ∃ a, u = Value.ref a := fun u hu => e2 u (pm.mem_iff.mp hu)
  obtain ⟨n, hn⟩ := sortedAll_at s.heap its out.toArray
  refine ⟨.ref _, upd H (s.heap.objs.size + 1) (.lst (out.map backV)), I.laid (t' := s.toks) (fun b o e => sortedAll_old e) (Nat.le_succ _) ⟨?_, out, n, vals_back h3, hn⟩, rfl, q _ _ (back_perm e1 pm) (each_dh e3) (I.hok.fresh (Nat.le_succ _))⟩
  rw [List.length_map, pm.length_eq]
  exact lz
end
end Lc
set_option Elab.async false
set_option linter.all false
set_option maxRecDepth 100000
set_option maxHeartbeats 4000000
namespace K17
open PySem PySem.Spec PyProof.Rows L2 Lc
/-! ## rows and lineages -/
abbrev Lin : Type := List (Str × Int)
def partD (p : Str × Int) : PyData := .tuple [.str p.1, .int p.2]
def linD (l : Lin) : PyData := .tuple (l.map partD)
structure RowD where
  vals : List PyData
  lin : Lin
def RowD.d (r : RowD) : PyData := .tuple [.tuple r.vals, linD r.lin]
def PartOk (p : Str × Int) : Prop := Sh 12 p.1 ∧ 0 ≤ p.2 ∧ p.2 < 400
def LinOk (l : Lin) : Prop := l.length ≤ 4 ∧ ∀ p ∈ l, PartOk p
/-- where the sum of a lineage stands behind some of its parts -/
def sumL (seed : Int) (l : Lin) : Int := l.foldl (fun h p => (h * 48271 + p.2 * 69621 + 11) % 2147483647) (seed + 1)
def numL (seed : Int) (l : Lin) (whole : Int) : Int := sumL seed l % whole
theorem sumL_snoc (seed : Int) (l : Lin) (p : Str × Int) : sumL seed (l ++ [p]) = (sumL seed l * 48271 + p.2 * 69621 + 11) % 2147483647 := by
  unfold sumL
  rw [List.foldl_append]
  rfl
theorem sumL_lt {seed : Int} (h0 : 0 ≤ seed) (h1 : seed ≤ 1000000000) (l : Lin) : 0 ≤ sumL seed l ∧ sumL seed l < 2147483647 := by
  rcases List.eq_nil_or_concat l with rfl | ⟨l, p, rfl⟩
  · show 0 ≤ seed + 1 ∧ seed + 1 < 2147483647
    omega
  · rw [List.concat_eq_append, sumL_snoc]
    exact ⟨Int.emod_nonneg _ (by decide), Int.emod_lt_of_pos _ (by decide)⟩
theorem lin_get {H : Hp} {xs : List V} {l : Lin} {i : Nat} {x : V} (h : DhAll H xs (l.map partD)) (e : xs[i]? = some x) : ∃ p a, l[i]? = some p ∧ x = .ref a ∧ H a = some (.tup [.str p.1, .int p.2]) := by
  obtain ⟨d, e1, e2⟩ := h.get i x e
  rw [List.getElem?_map] at e1
  cases q : l[i]? with
  | none => rw [q] at e1; cases e1
  | some p =>
    rw [q] at e1
    cases e1
    cases e2 with
    | tup ea hs =>
      cases hs with
      | cons h1 r1 =>
        cases r1 with
        | cons h2 r2 =>
          cases r2
          cases h1
          cases h2
          exact ⟨p, _, rfl, rfl, ea⟩
end K17
set_option Elab.async false
set_option linter.all false
set_option maxRecDepth 100000
set_option maxHeartbeats 4000000
namespace K17
open PySem PySem.Spec PyProof.Rows L2 Lc
/-! ## tables -/
abbrev sTI : Stmt := inClass (top 58) 0
abbrev sTC : Stmt := inClass (top 58) 1
abbrev sTR : Stmt := inClass (top 58) 2
structure TbF (K : PySem.W.Frag) (mg : Str → Option Value) (C fI : Addr) : Prop where
  mkC : Mk K C fI
  cls : Cls K C
  a1 : NoAttr K C "shape"
  a2 : NoAttr K C "body"
  gC : mg "Table" = some (.ref C)
abbrev RowsL : Type := List (V × RowD)
def fsT (cv bv : Addr) : List (Str × V) := [("shape", .ref cv), ("body", .ref bv)]
def RowsAt (H : Hp) (rs : RowsL) : Prop := ∀ r ∈ rs, Dh H r.1 r.2.d
def RowsOk (rs : RowsL) : Prop := ∀ r ∈ rs, noLs r.2.vals = true ∧ LinOk r.2.lin
def IsTb (C : Addr) (H : Hp) (a cv : Addr) (rs : RowsL) : Prop := ∃ dx bv, H a = some (.ins C dx (fsT cv bv)) ∧ H bv = some (.tup (rs.map (·.1))) ∧ RowsAt H rs
theorem lin_noL (l : Lin) : noL (linD l) = true := by
  unfold linD
  rw [noL]
  refine noLs_all.mpr fun d hd => ?_
  obtain ⟨p, _, rfl⟩ := List.mem_map.mp hd
  rfl
theorem row_noL {r : RowD} (h : noLs r.vals = true) : noL r.d = true := by
  unfold RowD.d
  rw [noL, noLs, noL, h, noLs, lin_noL, noLs]
  rfl
theorem RowsAt.t {H H' : Hp} {rs : RowsL} (h : RowsAt H rs) (s : SameT H H') (o : RowsOk rs) : RowsAt H' rs := fun r hr => (h r hr).t s (row_noL (o r hr).1)
theorem RowsAt.same {H H' : Hp} {rs : RowsL} (h : RowsAt H rs) (s : Same H H') : RowsAt H' rs := fun r hr => (h r hr).same s
theorem IsTb.same {C : Addr} {H H' : Hp} {a cv : Addr} {rs : RowsL} (h : IsTb C H a cv rs) (s : Same H H') : IsTb C H' a cv rs := by
  obtain ⟨dx, bv, h1, h2, h3⟩ := h
  exact ⟨dx, bv, s _ _ h1, s _ _ h2, h3.same s⟩
/-- the tape alone changes -/
theorem IsTb.b {C t : Addr} {H H' : Hp} {a cv : Addr} {rs : RowsL} (h : IsTb C H a cv rs) (T : Tape H t) (s : SameB t H H') (o : RowsOk rs) : IsTb C H' a cv rs := by
  obtain ⟨dx, bv, h1, h2, h3⟩ := h
  obtain ⟨_, _, _, _, _, q, _⟩ := id T
  exact ⟨dx, bv, s _ _ (ne_of h1 q nofun) h1, SameT.b T s _ _ h2, h3.t (SameT.b T s) o⟩
theorem IsTb.upd {C : Addr} {H : Hp} {a cv b : Addr} {rs : RowsL} {u o : HO} (h : IsTb C H a cv rs) (hb : H b = some u) (nu : (∀ xs, u ≠ .tup xs) ∧ ∀ c d f, u ≠ .ins c d f) (ok : RowsOk rs) : IsTb C (upd H b o) a cv rs := by
  obtain ⟨dx, bv, h1, h2, h3⟩ := h
  have st : SameT H (L2.upd H b o) := fun x xs e => by rw [upd_ne (ne_of e hb fun z => nu.1 _ z.symm)]; exact e
  exact ⟨dx, bv, by rw [upd_ne (ne_of h1 hb fun z => nu.2 _ _ _ z.symm)]; exact h1, st _ _ h2, h3.t st ok⟩
def spTI (C : Addr) : Sp := fun vs H Q _ => ∃ (a dx cv R : Addr) (rs : RowsL), vs = [.ref a, .ref cv, .ref R] ∧ H a = some (.ins C dx []) ∧ (H R = some (.lst (rs.map (·.1))) ∨ H R = some (.tup (rs.map (·.1)))) ∧ RowsAt H rs ∧ RowsOk rs ∧
  ∀ H', SameB a H H' → IsTb C H' a cv rs → Q .non H'
def spTC (C : Addr) : Sp := fun vs H Q _ => ∃ (a cv : Addr) (rs : RowsL), vs = [.ref a] ∧ IsTb C H a cv rs ∧ Q (.ref cv) H
def spTR (C : Addr) : Sp := fun vs H Q _ => ∃ (a cv : Addr) (rs : RowsL), vs = [.ref a] ∧ IsTb C H a cv rs ∧ ∀ l, H l = none → Q (.ref l) (upd H l (.lst (rs.map (·.1))))
structure TbM (P : Program) (w : World) (K : PySem.W.Frag) (mg : Str → Option Value) (base : Heap) (C : Addr) : Prop where
  i : ∃ fI fdI, TbF K mg C fI ∧ FnOk P w K mg base CX0 1 fI fdI ["self", "columns", "rows"] (spTI C) ∧ Binds K fdI ["self", "columns", "rows"] []
  c : ∃ fC fdC, Meth K C "columns" fC ∧ FnOk P w K mg base CX0 1 fC fdC ["self"] (spTC C) ∧ Binds K fdC ["self"] []
  r : ∃ fR fdR, Meth K C "rows" fR ∧ FnOk P w K mg base CX0 1 fR fdR ["self"] (spTR C) ∧ Binds K fdR ["self"] []
theorem mk_tb {C cv R : Addr} {rs : RowsL} {H : Hp} {Q : Addr → Hp → Prop} {E : XK} (hR : H R = some (.lst (rs.map (·.1))) ∨ H R = some (.tup (rs.map (·.1)))) (ha : RowsAt H rs) (o : RowsOk rs)
    (k : ∀ (a : Addr) (H' : Hp), Same H H' → H a = none → IsTb C H' a cv rs → Q a H') :
    ∀ x dx, H x = none → H dx = none → dx ≠ x → spTI C [.ref x, .ref cv, .ref R] (L2.upd (L2.upd H dx (.own x)) x (.ins C dx [])) (fun v H2 => v = .non ∧ Q x H2) E := by
  intro x ex hx hex hne
  have s1 : Same H (L2.upd (L2.upd H ex (.own x)) x (.ins C ex [])) := fun b o' e => by
    rw [upd_ne (ne_of_none e hx), upd_ne (ne_of_none e hex)]
    exact e
  exact ⟨x, ex, cv, R, rs, rfl, upd_same, hR.imp (s1 _ _) (s1 _ _), ha.same s1, o, fun H1 b1 hI1 => ⟨rfl, k x H1 (fun b o' e => b1 b o' (ne_of_none e hx) (s1 b o' e)) hx hI1⟩⟩
section
variable {P : Program} {w : World} {K : PySem.W.Frag} {mg : Str → Option Value} {base : Heap} {f C fI : Addr} {fd : FuncData}
theorem scTI : FnScope ["self", "columns", "rows"] ["self", "columns", "rows"] (defScope sTI) := ⟨rfl, rfl, rfl, by decide +kernel, rfl, by decide +kernel, by decide +kernel⟩
theorem ok_ti (F : Fun K "__init__" "Table.__init__" sTI f fd) (T : Bt mg) (G : TbF K mg C fI) : FnOk P w K mg base CX0 1 f fd ["self", "columns", "rows"] (spTI C) := by
  refine F.ok scTI (fun vs H Q E h => ?_) (fun cdv A outer s H vs Q E hr h => ?_)
  · obtain ⟨a, dx, cv, R, rs, rfl, _⟩ := h
    rfl
  · obtain ⟨a, dx, cv, R, rs, rfl, ha, hR, hrs, o, k⟩ := h
    refine ⟨_, pss_cons (ps_fld (pv 0) (pv 1) (by rfl)) (pss_one (ps_fld (pv 0) (pe_callTy call_tuple_of (by rfl) T.tuple boot_tuple (pa_cons (pv 2) pa_nil)) (by rfl))), ?_⟩
    refine ⟨_, rfl, _, rfl, a, C, dx, _, rfl, ha, G.cls, G.a1, by decide, ?_⟩
    have nR : R ≠ a := by rcases hR with e | e <;> exact ne_of e ha nofun
    have b1 : SameB a H (L2.upd H a (.ins C dx (putF "shape" (.ref cv) []))) := SameB.upd
    have e1 : L2.upd H a (.ins C dx (putF "shape" (.ref cv) [])) a = some (.ins C dx [("shape", .ref cv)]) := upd_same
    have st1 : SameT H (L2.upd H a (.ins C dx (putF "shape" (.ref cv) []))) := SameT.at ha (fun xs => nofun) b1
    dsimp only
    generalize L2.upd H a (.ins C dx (putF "shape" (.ref cv) [])) = H1 at b1 e1 st1 ⊢
    have fin : ∀ (bv : Addr) (H2 : Hp), SameB a H H2 → H2 a = some (.ins C dx [("shape", .ref cv)]) → H2 bv = some (.tup (rs.map (·.1))) → RowsAt H2 rs → ∃ a' C' dx' fs, V.ref a = V.ref a' ∧ H2 a' = some (.ins C' dx' fs) ∧ Cls K C' ∧ NoAttr K C' "body" ∧ fs.length < 1000 ∧ Q .non (L2.upd H2 a' (.ins C' dx' (putF "body" (.ref bv) fs))) := fun bv H2 b2 e2 e3 r2 => by
      refine ⟨a, C, dx, _, rfl, e2, G.cls, G.a2, by show 1 < 1000; decide, ?_⟩
      have b3 : SameB a H2 (L2.upd H2 a (.ins C dx (fsT cv bv))) := SameB.upd
      have st3 : SameT H2 (L2.upd H2 a (.ins C dx (fsT cv bv))) := SameT.at e2 (fun xs => nofun) b3
      exact k _ (b2.trans b3) ⟨dx, bv, upd_same, st3 _ _ e3, r2.t st3 o⟩
    rcases hR with hR | hR
    · refine ⟨_, rfl, R, _, rfl, .inl ⟨SqL.of (b1 _ _ nR hR), fun l hl => ⟨_, rfl, ?_⟩⟩⟩
      have zl := Same.upd (o := .tup (rs.map (·.1))) hl
      exact fin l _ (b1.trans (Same.b a zl)) (zl _ _ e1) upd_same ((hrs.t st1 o).same zl)
    · exact ⟨_, rfl, R, _, rfl, .inr ⟨SqT.of (b1 _ _ nR hR), ⟨_, rfl, fin R _ b1 e1 (b1 _ _ nR hR) (hrs.t st1 o)⟩⟩⟩
theorem scTC : FnScope ["self"] ["self"] (defScope sTC) := ⟨rfl, rfl, rfl, by decide +kernel, rfl, by decide +kernel, by decide +kernel⟩
theorem ok_tc (F : Fun K "columns" "Table.columns" sTC f fd) (G : TbF K mg C fI) : FnOk P w K mg base CX0 1 f fd ["self"] (spTC C) := by
  refine F.ok scTC (fun vs H Q E h => ?_) (fun cdv A outer s H vs Q E hr h => ?_)
  · obtain ⟨a, cv, rs, rfl, _⟩ := h
    rfl
  · obtain ⟨a, cv, rs, rfl, ⟨dx, bv, h1, h2, h3⟩, k⟩ := h
    exact ⟨_, pss_one (ps_ret (pe_fld (pv 0) (by rfl))), ⟨_, rfl, a, C, dx, _, _, rfl, h1, G.cls, G.a1, rfl, k⟩⟩
theorem scTR : FnScope ["self"] ["self"] (defScope sTR) := ⟨rfl, rfl, rfl, by decide +kernel, rfl, by decide +kernel, by decide +kernel⟩
theorem ok_tr (F : Fun K "rows" "Table.rows" sTR f fd) (T : Bt mg) (G : TbF K mg C fI) : FnOk P w K mg base CX0 1 f fd ["self"] (spTR C) := by
  refine F.ok scTR (fun vs H Q E h => ?_) (fun cdv A outer s H vs Q E hr h => ?_)
  · obtain ⟨a, cv, rs, rfl, _⟩ := h
    rfl
  · obtain ⟨a, cv, rs, rfl, ⟨dx, bv, h1, h2, h3⟩, k⟩ := h
    exact ⟨_, pss_one (ps_ret (pe_callTy call_list_of (by rfl) T.list boot_list (pa_cons (pe_fld (pv 0) (by rfl)) pa_nil))), ⟨_, rfl, a, C, dx, _, _, rfl, h1, G.cls, G.a2, rfl, bv, _, rfl, .inr (SqT.of h2), fun l hl => k l hl⟩⟩
end
end K17
set_option Elab.async false
set_option linter.all false
set_option maxRecDepth 100000
set_option maxHeartbeats 4000000
namespace K17
open PySem PySem.Spec PyProof.Rows L2 Lc
/-! ## columns behind a step -/
def spWd : Sp := fun vs H Q _ => ∃ (p : Addr) (z : Str) (xs : List V), vs = [.ref p] ∧ H p = some (.tup (.str z :: xs)) ∧ xs.length < 1000 ∧ Q (.str z) H
def kdV (ps : CsL) (x : Str) : V := if x ∈ nms ps then .str (kdOf ps x) else .non
theorem kdV_in {ps : CsL} {x : Str} (h : x ∈ nms ps) : kdV ps x = .str (kdOf ps x) := if_pos h
theorem kdV_no {ps : CsL} {x : Str} (h : x ∉ nms ps) : kdV ps x = .non := if_neg h
def spKi : Sp := fun vs H Q _ => ∃ (L : Addr) (ps : CsL) (x : Str), vs = [.ref L, .str x] ∧ CA H L ps ∧ (nms ps).Nodup ∧ Q (kdV ps x) H
def spBeh (wd : Str) : Sp := fun vs H Q _ => ∃ (tb : V) (cv p : Addr) (ps qs : CsL) (st : Ps), vs = [tb, .ref cv, .ref p] ∧ CA H cv ps ∧ ColP ps ∧ Dh H (.ref p) st.d ∧ Lead ps st qs ∧ st.w = wd ∧ ∀ (cv' : Addr) (H' : Hp), Same H H' → CA H' cv' qs → Q (.ref cv') H'
theorem dh3 {H : Hp} {p : Addr} {a b : Str} {c : PyData} (h : Dh H (.ref p) (.tuple [.str a, .str b, c])) : ∃ v, H p = some (.tup [.str a, .str b, v]) ∧ Dh H v c := by
  cases h with
  | tup e hs => cases hs with
    | cons h1 r1 => cases r1 with
      | cons h2 r2 => cases r2 with
        | cons h3 r3 => cases r3; cases h1; cases h2; exact ⟨_, e, h3⟩
theorem ps_at {H : Hp} {p : Addr} {st : Ps} (h : Dh H (.ref p) st.d) : ∃ xs : List V, H p = some (.tup (.str st.w :: xs)) ∧ xs.length + 1 = st.len := by
  cases st with
  | sort a u => obtain ⟨v, e, _⟩ := dh3 h; exact ⟨_, e, rfl⟩
theorem nm_len {x : Str} (h : Sh 12 x) : ∀ y, V.str x = V.str y → y.length ≤ sizeLine := fun y e => by
  injection e with e
  rw [← e]
  exact Nat.le_trans h.len (by decide)
def spNo : Sp := fun vs H Q _ => ∃ (L : Addr) (ps : CsL), vs = [.ref L] ∧ CA H L ps ∧ ps.length ≤ 8 ∧ ∀ (D : Addr) (H' : Hp), Same H H' → H D = none → H' D = some (.lst (vS (nms ps))) → Q (.ref D) H'
def spCb : Sp := fun vs H Q _ => ∃ (tb : V) (cv p : Addr) (ps qs : CsL) (st : Ps), vs = [tb, .ref cv, .ref p] ∧ CA H cv ps ∧ ColP ps ∧ Dh H (.ref p) st.d ∧ Lead ps st qs ∧ ∀ (cv' : Addr) (H' : Hp), Same H H' → CA H' cv' qs → Q (.ref cv') H'
structure CbA (P : Program) (w : World) (K : PySem.W.Frag) (mg : Str → Option Value) (base : Heap) (lA bA : Addr) : Prop where
  gl : mg "LENGTHS" = some (.ref lA)
  gb : mg "BEHIND" = some (.ref bA)
  dl : ∃ es n, KDict K w lA es n
  le : ∀ st : Ps, KDct K w lA st.w (.int st.len) ∧ ∃ u, PySem.W.nsIn K lA st.w = some (some u)
  be : ∀ st : Ps, ∃ g, KDct K w bA st.w (.ref g) ∧ Held P w K mg base 16 g (spBeh st.w)
section
variable {P : Program} {w : World} {K : PySem.W.Frag} {mg : Str → Option Value} {base : Heap} {f : Addr} {fd : FuncData}
abbrev sWd : Stmt := top 97
abbrev nWd : List Str := ["step"]
abbrev pWd : List Str := ["step"]
theorem scWd : FnScope nWd pWd (defScope sWd) := ⟨rfl, rfl, rfl, by decide +kernel, rfl, by decide +kernel, by decide +kernel⟩
section
theorem ok_Wd (F : Fun K "word_of" "word_of" sWd f fd) (T : Bt mg) : FnOk P w K mg base CX0 1 f fd pWd (spWd) := by
  refine F.ok scWd (fun vs H Q E h => ?_) (fun cdv A outer s H vs Q E hr h => ?_)
  · obtain ⟨p, z, xs, rfl, _⟩ := h
    rfl
  · obtain ⟨p, z, xs, rfl, hp, lx, k⟩ := h
    refine ⟨_, (pss_cons (ps_if (PW.pt (pw_and (pt_val (pe_callB call_isi (by rfl) T.isi boot_isinstance (pa_cons (pv 0) (pa_cons (pe_bltn (v := .ty "tuple") (by rfl) T.tuple boot_tuple rfl) pa_nil)))) (pw_and (pt_cmpR op_gt (pe_callB call_len_seq (by rfl) T.len PySem.boot_len (pa_cons (pv 0) pa_nil)) pe_int (nomark _)) (pw_and1 (pt_val (pe_callB call_isi (by rfl) T.isi boot_isinstance (pa_cons (pe_ix ix_tup (pv 0) pe_int (fun _ _ => rfl)) (pa_cons (pe_bltn (v := .ty "str") (by rfl) T.str boot_str rfl) pa_nil)))))))) (pss_one (ps_ret (pe_ix ix_tup (pv 0) pe_int (fun _ _ => rfl)))) pss_nil)
      (pss_one (ps_ret pe_non))), ?_⟩
    have at0 : ∀ (p : Addr), ∃ q, q = p := fun p => ⟨p, rfl⟩
    refine ⟨_, rfl, .ref p, .ty "tuple", _, _, _, rfl, .ty "tuple", (TyN.tup hp).x, kit_tuple (TyN.tup hp).mem, _, rfl, iteT ?_⟩
    refine ⟨_, rfl, p, _, rfl, .inr (SqT.of hp), _, _, rfl, rfl, _, rfl, ?_⟩
    rw [decide_eq_true (show (0 : Int) < ((V.str z :: xs).length : Int) by rw [List.length_cons]; omega)]
    refine iteT ⟨_, rfl, p, _, _, .str z, rfl, rfl, SqT.of hp, at_of (j := 0) rfl rfl, .str z, .ty "str", _, _, _, rfl, .ty "str", (TyN.str z).x, kit_str (TyN.str (H := H) z).mem, _, rfl, iteT ?_⟩
    exact ⟨_, rfl, p, _, _, .str z, rfl, rfl, SqT.of hp, at_of (j := 0) rfl rfl, k⟩
end
abbrev sKi : Stmt := top 80
abbrev nKi : List Str := ["columns", "name", "called", "kind"]
abbrev pKi : List Str := ["columns", "name"]
theorem scKi : FnScope nKi pKi (defScope sKi) := ⟨rfl, rfl, rfl, by decide +kernel, rfl, by decide +kernel, by decide +kernel⟩
section
theorem ok_Ki (F : Fun K "kind_in" "kind_in" sKi f fd) (T : Bt mg) : FnOk P w K mg base CX0 1 f fd pKi (spKi) := by
  refine F.ok scKi (fun vs H Q E h => ?_) (fun cdv A outer s H vs Q E hr h => ?_)
  · obtain ⟨L, ps, x, rfl, _⟩ := h
    rfl
  · obtain ⟨L, ps, x, rfl, hL, cp, k⟩ := h
    refine ⟨_, (pss_cons (ps_for PassesOwn.never rfl (pi_tup (pv 0)) (pg_tup rfl (pgs_cons (pg_name (i := 2) scKi.nd rfl (.inl rfl)) (pgs_cons (pg_name (i := 3) scKi.nd rfl (.inl rfl)) pgs_nil))) (pss_one (ps_if (pt_cmpR op_eq (pv 2) (pv 1) (nomark _)) (pss_one (ps_ret (pv 3))) pss_nil)))
      (pss_one (ps_ret pe_non))), ?_⟩
    obtain ⟨xs, zL, cc⟩ := hL
    refine ⟨_, rfl, L, rfl, ⟨_, zL.sq⟩, for_tup (K := K) (a := L) (xs := xs) (fun i σ H' => (∃ x2 x3 : Option V, σ = [some (.ref L), some (.str x), x2, x3]) ∧ H' = H ∧ ∀ p ∈ ps.take i, p.1 ≠ x) ⟨⟨none, none, rfl⟩, rfl, fun p hp => by simp at hp⟩ (fun i σ H' _ pr => by rw [pr.2.1]; exact zL.sq) ?_ ?_⟩
    · rintro i y σ H2 hy ⟨⟨x2, x3, rfl⟩, rfl, hno⟩
      obtain ⟨a, z, kk, rfl, ea, ep⟩ := cc.get _ _ hy
      refine ⟨a, _, rfl, SqT.of ea, rfl, _, _, rfl, _, _, rfl, rfl, ?_⟩
      dsimp only [gNil]
      refine ⟨_, rfl, _, rfl, rfl, _, rfl, ?_⟩
      by_cases q : z = x
      · rw [show decide (V.str z = V.str x) = true by rw [q]; exact decide_eq_true rfl]
        refine iteT ⟨_, rfl, ?_⟩
        have hm := List.mem_of_getElem? ep
        have hx : x ∈ nms ps := by rw [← q]; exact List.mem_map_of_mem hm
        rw [kdV_in hx, ← q, kdOf_mem cp hm] at k
        exact k
      · rw [show decide (V.str z = V.str x) = false from decide_eq_false (fun h => q (by injection h))]
        refine iteF ⟨⟨_, _, rfl⟩, rfl, fun p hp => ?_⟩
        rw [List.take_add_one, ep] at hp
        rcases List.mem_append.mp hp with hp | hp
        · exact hno p hp
        · rw [Option.toList_some, List.mem_singleton] at hp
          rw [hp]
          exact q
    · rintro σ H2 ⟨⟨x2, x3, rfl⟩, rfl, hno⟩
      rw [cc.len, List.take_length] at hno
      have hx : x ∉ nms ps := fun h => by
        obtain ⟨p, hp, e⟩ := List.mem_map.mp h
        exact hno p hp e
      rw [kdV_no hx] at k
      exact k
end
abbrev sNo : Stmt := top 57
abbrev nNo : List Str := ["columns", "name", "kind"]
abbrev pNo : List Str := ["columns"]
theorem scNo : FnScope nNo pNo (defScope sNo) := ⟨rfl, rfl, rfl, by decide +kernel, rfl, by decide +kernel, by decide +kernel⟩
section
theorem ok_No (F : Fun K "names_of" "names_of" sNo f fd) (T : Bt mg) : FnOk P w K mg base CX0 1 f fd pNo (spNo) := by
  refine F.ok scNo (fun vs H Q E h => ?_) (fun cdv A outer s H vs Q E hr h => ?_)
  · obtain ⟨L, ps, rfl, _⟩ := h
    rfl
  · obtain ⟨L, ps, rfl, hL, l8, k⟩ := h
    refine ⟨_, (pss_one (ps_ret (pe_lc (own := [("name", 1), ("kind", 2)]) (g := (gTup K 2 (gCons (gName 1) (gCons (gName 2) gNil)))) (tt := tYes) (te := tVar 1) (by rfl) scNo.nd (pi_tup (pv 0)) (blkOk_by (own := [("name", 1), ("kind", 2)]) (N := nNo) (sc := defScope sNo) (by decide +kernel)) (fun _ _ _ _ _ => (pg_tup rfl (pgs_cons (pg_name (i := 1) scNo.nd rfl (.inl rfl)) (pgs_cons (pg_name (i := 2) scNo.nd rfl (.inl rfl)) pgs_nil)))) (fun _ _ _ _ _ => pts_nil) (fun _ _ _ _ _ => (pv 1))))), ?_⟩
    obtain ⟨xs, zL, cc⟩ := hL
    refine ⟨_, rfl, L, rfl, ⟨_, zL.sq⟩, fun W hW => lc_tup (K := K) (a := L) (xs := xs) (fun i H' => H' W = some (.lst (vS ((nms ps).take i))) ∧ Same H H') ⟨upd_same, Same.upd hW⟩ (fun i H' _ pr => (zL.same pr.2).sq) ?_ ?_⟩
    · rintro i x H1 hx ⟨hW1, s1⟩
      obtain ⟨a, z, kk, rfl, ea, ep⟩ := cc.get _ _ hx
      refine ⟨a, _, rfl, SqT.of (s1 _ _ ea), rfl, _, _, rfl, _, _, rfl, rfl, rfl, ?_⟩
      dsimp only [tYes]
      exact iteT ⟨_, rfl, nm_turn hW hW1 ep l8 s1⟩
    rintro H1 ⟨hW1, s1⟩
    rw [show xs.length = (nms ps).length by rw [cc.len, List.length_map], List.take_length] at hW1
    exact k W H1 s1 hW hW1
end
abbrev sSo : Stmt := top 87
abbrev nSo : List Str := ["tables", "columns", "step", "word", "name", "order"]
abbrev pSo : List Str := ["tables", "columns", "step"]
theorem scSo : FnScope nSo pSo (defScope sSo) := ⟨rfl, rfl, rfl, by decide +kernel, rfl, by decide +kernel, by decide +kernel⟩
section
variable {fA_ : Addr} {fdA_ : FuncData}
theorem ok_So (F : Fun K "behind_sort" "behind_sort" sSo f fd) (T : Bt mg) {oA : Addr} (mO : mg "ORDERS" = some (.ref oA)) (hO2 : ∀ H, SqT K H oA [.str "up", .str "down"])
    (GA_ : FnOk P w K mg base CX0 1 fA_ fdA_ ["columns", "name"] (spKi)) (mA_ : mg "kind_in" = some (.ref fA_)) (kA_ : PySem.W.keepIn K (.ref fA_) = true) (bA_ : Binds K fdA_ ["columns", "name"] []) : FnOk P w K mg base CX0 2 f fd pSo ((spBeh "sort")) := by
  refine F.ok scSo (fun vs H Q E h => ?_) (fun cdv A outer s H vs Q E hr h => ?_)
  · obtain ⟨tb, cv, p, ps, qs, st, rfl, _⟩ := h
    rfl
  · obtain ⟨tb, cv, p, ps, qs, st, rfl, hL, cp, hd, ld, hw, k⟩ := h
    have hrA_ : Room (1) _ := hr.mono (by first | decide | omega)
    refine ⟨_, (pss_cons (ps_asg (pv 2) (pg_tup rfl (pgs_cons (pg_name (i := 3) scSo.nd rfl (.inl rfl)) (pgs_cons (pg_name (i := 4) scSo.nd rfl (.inl rfl)) (pgs_cons (pg_name (i := 5) scSo.nd rfl (.inl rfl)) pgs_nil)))))
      (pss_one (ps_ret (pe_ifExp (PW.pt (pw_and (pt_cmpR op_notN (pe_call GA_ hrA_ (by rfl) mA_ kA_ bA_ .nil pass0 (pa_cons (pv 1) (pa_cons (pv 4) pa_nil))) pe_non (nomark _)) (pw_and1 (pt_cmpR op_in_seq (pv 5) (pe_glob (v := .ref oA) (by rfl) mO rfl) (by rfl))))) (pv 1) pe_non)))), ?_⟩
    cases st with
    | sort a u =>
    cases ld with
    | sort ha =>
    obtain ⟨v, e1, dv⟩ := dh3 hd
    cases dv
    refine ⟨_, rfl, p, _, rfl, SqT.of e1, rfl, _, _, rfl, _, _, rfl, _, _, rfl, rfl, ?_⟩
    dsimp only [gNil]
    refine ⟨_, rfl, _, rfl, cv, ps, a, rfl, hL, cp.nd, rfl, _, rfl, ?_⟩
    rw [kdV_in ha]
    refine iteT ⟨_, rfl, oA, _, rfl, .inr (hO2 H), rfl, rfl, _, rfl, ?_⟩
    rw [show inV (.str (updn u)) [.str "up", .str "down"] = decide (updn u ∈ (["up", "down"] : List Str)) from in_strs (ss := ["up", "down"]), decide_eq_true (by cases u <;> simp [updn])]
    exact iteT ⟨_, rfl, k cv H (Same.refl _) hL⟩
end
abbrev sCb : Stmt := top 98
abbrev nCb : List Str := ["tables", "columns", "step", "word", "follow"]
abbrev pCb : List Str := ["tables", "columns", "step"]
theorem scCb : FnScope nCb pCb (defScope sCb) := ⟨rfl, rfl, rfl, by decide +kernel, rfl, by decide +kernel, by decide +kernel⟩
section
variable {fA_ : Addr} {fdA_ : FuncData}
theorem ok_Cb (F : Fun K "columns_behind" "columns_behind" sCb f fd) (T : Bt mg) {lA bA : Addr} (A2 : CbA P w K mg base lA bA)
    (GA_ : FnOk P w K mg base CX0 1 fA_ fdA_ ["step"] (spWd)) (mA_ : mg "word_of" = some (.ref fA_)) (kA_ : PySem.W.keepIn K (.ref fA_) = true) (bA_ : Binds K fdA_ ["step"] []) : FnOk P w K mg base CX0 17 f fd pCb (spCb) := by
  refine F.ok scCb (fun vs H Q E h => ?_) (fun cdv A outer s H vs Q E hr h => ?_)
  · obtain ⟨tb, cv, p, ps, qs, st, rfl, _⟩ := h
    rfl
  · obtain ⟨tb, cv, p, ps, qs, st, rfl, hL, cp, hd, ld, k⟩ := h
    have hrA_ : Room (1) _ := hr.mono (by first | decide | omega)
    obtain ⟨es, n0, KD⟩ := A2.dl
    obtain ⟨g, g1, hH⟩ := A2.be st
    obtain ⟨l1, u0, l2⟩ := A2.le st
    have hr3 : Room 16 _ := hr.mono (by decide)
    have AS : ∀ f sp, (fun q => if q = g then some (spBeh st.w) else none : Addr → Option Sp) f = some sp → Held P w K mg base 16 f sp := fun f sp e => by
      dsimp only at e
      by_cases z : f = g
      · subst z
        rw [if_pos rfl] at e
        obtain rfl := Option.some.inj e
        exact hH
      · rw [if_neg z] at e
        cases e
    refine ⟨_, (pss_cons (ps_set (i := 3) scCb.nd rfl (Or.inl rfl) (pe_call GA_ hrA_ (by rfl) mA_ kA_ bA_ .nil pass0 (pa_cons (pv 2) pa_nil)))
      (pss_cons (ps_if (PW.pt (pw_or (pt_cmpR op_isN (pv 3) pe_non (nomark _)) (pw_or (pt_cmpR (op_notIn_kd KD) (pv 3) (pe_glob (v := .ref lA) (by rfl) A2.gl rfl) (by rfl)) (pw_or1 (pt_cmpR op_ne (pe_callB call_len_seq (by rfl) T.len PySem.boot_len (pa_cons (pv 2) pa_nil)) (pe_ix ix_kdict (pe_glob (v := .ref lA) (by rfl) A2.gl rfl) (pv 3) (fun _ _ => rfl)) (nomark _)))))) (pss_one (ps_ret pe_non)) pss_nil)
      (pss_cons (ps_set (i := 4) scCb.nd rfl (Or.inl rfl) (pe_ix ix_kdict (pe_glob (v := .ref bA) (by rfl) A2.gb rfl) (pv 3) (fun _ _ => rfl)))
      (pss_one (ps_ret (pe_callA (i := 4) AS hr3 rfl (Or.inl rfl) (pa_cons (pv 0) (pa_cons (pv 1) (pa_cons (pv 2) pa_nil))))))))), ?_⟩
    obtain ⟨xs, e, lx⟩ := ps_at hd
    have l4 : st.len ≤ 4 := by cases st <;> simp [Ps.len]
    refine ⟨_, rfl, p, st.w, xs, rfl, e, by omega, ?_⟩
    refine ⟨_, rfl, rfl, _, rfl, iteF ⟨_, rfl, st.w, _, rfl, rfl, l2, _, rfl, iteF ⟨_, rfl, p, _, rfl, .inr (SqT.of e), _, rfl, lA, st.w, _, rfl, rfl, l1, rfl, _, rfl, ?_⟩⟩⟩
    rw [List.length_cons, lx, decide_eq_true rfl]
    refine iteF ⟨_, rfl, bA, st.w, _, rfl, rfl, g1, ?_⟩
    exact ⟨g, spBeh st.w, rfl, if_pos rfl, _, rfl, _, rfl, _, rfl, tb, cv, p, ps, qs, st, rfl, hL, cp, hd, ld, rfl, k⟩
end
end
end K17
set_option Elab.async false
set_option linter.all false
set_option maxRecDepth 100000
set_option maxHeartbeats 4000000
namespace Lc
open PySem PySem.Spec PyProof.Rows L2
/-! ## f(k = v, ..), keywords only -/
section
variable {X : Cx} {CX : CXT} {k : Nat} {f : Addr} {fd : FuncData} {ps ks : List Str} {sp : Sp} {E : XK} {x : Str} {p pos : Pos} {kws : List Keyword} {tk : TA} {g : List Value → List Value → List Value} {gV : List V → List V → List V}
theorem pe_callKO (F : FnOk X.prog X.w X.K X.mg X.base CX k f fd ps sp) (hr : Room k X.A) (hg : Gl X x) (hm : X.mg x = some (.ref f)) (hk : PySem.W.keepIn X.K (.ref f) = true) (hb : KBinds X.K fd ps ks g gV) (hx : Passes CX X E)
    (hkw : PK X kws tk) (hall : (backToKw pos (keywordEach kws X.env)).all (·.1.isSome) = true := by rfl) (hks : (backToKw pos (keywordEach kws X.env)).filterMap (·.1) = ks := by rfl)
    (hdb : (x == ("__debug__" : Str)) = false := by decide) (hpl : ((backTo pos (starEach [] X.env)).any (·.1) || (backToKw pos (keywordEach kws X.env)).any (·.1.isNone)) = false := by rfl) : PE X (.Call (.Name x p) [] kws pos) (tCallK sp gV E tNil tk) := by
  refine ⟨fun pins s σ H Q I h => ?_⟩
  refine wpAny_Call_Name_kw (ld_glob I hg hm ?_ hdb)
  refine PySem.W.callWith_KW0 (h₀ := X.base) I.ok.mod.kin hk hall (thn (hkw.run pos pins s σ H _ I h) fun ws s2 ⟨zs, H2, I2, rz, q2⟩ => ⟨I2.kIn, ?_⟩) hpl
  rw [hks]
  exact run_fnk F hr hb hx I2 .nil rz q2
end
end Lc
set_option Elab.async false
set_option linter.all false
set_option maxRecDepth 100000
set_option maxHeartbeats 4000000
namespace Lc
open PySem PySem.Spec PyProof.Rows L2
/-! ## f(e, .., k = v, ..), f a def of the module that may raise -/
def tCallKS (sp : Sp) (gV : List V → List V → List V) (E : L2.St → XK) (t tk : TA) : TE := fun σ H Q => t σ H fun vs H1 => tk σ H1 fun zs H2 => sp (gV vs zs) H2 Q (E σ)
section
variable {X : Cx} {CX : CXT} {k : Nat} {f : Addr} {fd : FuncData} {ps ks : List Str} {sp : Sp} {E : L2.St → XK} {x : Str} {p pos : Pos} {e : Expr} {es : List Expr} {kws : List Keyword} {t tk : TA} {g : List Value → List Value → List Value} {gV : List V → List V → List V}
theorem pe_callKS (F : FnOk X.prog X.w X.K X.mg X.base CX k f fd ps sp) (hr : Room k X.A) (hg : Gl X x) (hm : X.mg x = some (.ref f)) (hk : PySem.W.keepIn X.K (.ref f) = true) (hb : KBinds X.K fd ps ks g gV) (hx : ∀ σ, PassesAt CX X σ (E σ))
    (ha : PA X (e :: es) t) (hkw : PK X kws tk) (hall : (backToKw pos (keywordEach kws X.env)).all (·.1.isSome) = true := by rfl) (hks : (backToKw pos (keywordEach kws X.env)).filterMap (·.1) = ks := by rfl)
    (hdb : (x == ("__debug__" : Str)) = false := by decide) (he : starEach (e :: es) X.env = (false, eval e X.env) :: starEach es X.env := by rfl)
    (hpl : ((backTo pos (starEach (e :: es) X.env)).any (·.1) || (backToKw pos (keywordEach kws X.env)).any (·.1.isNone)) = false := by rfl) :
    PE X (.Call (.Name x p) (e :: es) kws pos) (tCallKS sp gV E t tk) := by
  refine ⟨fun pins s σ H Q I h => ?_⟩
  refine wpAny_Call_Name_kw (ld_glob I hg hm ?_ hdb)
  refine PySem.W.callWith_KW (h₀ := X.base) I.ok.mod.kin hk hall (thn (ha.run pos pins s σ H _ I h) fun us s1 ⟨vs, H1, I1, r, q⟩ => ?_) hpl he
  refine thn (hkw.run pos pins s1 σ H1 _ I1 q) fun ws s2 ⟨zs, H2, I2, rz, q2⟩ => ⟨I2.kIn, ?_⟩
  rw [hks]
  have r2 := hb.rel r rz
  have hl : (g us ws).length = ps.length := by rw [← r2.length]; exact F.len _ _ _ _ q2
  refine wpAny_call (codeAny_mono (F.run X.A X.stack s2 H2 ⟨us, ks.zip ws⟩ (g us ws) (gV vs zs) Q (E σ) hr I2.env0 (hb.to s2 us ws I2.kIn hl) r2 q2) fun r s' hq => ?_)
  match r, hq with
  | .error er, hq => exact hx σ pins H2 s2 er s' I2 hq
  | .ok (.ret u), hq => exact I2.after hq
  | .ok .next, hq => exact False.elim hq
  | .ok .brk, hq => exact False.elim hq
  | .ok .cont, hq => exact False.elim hq
end
/-- a call that leaves the defaults -/
theorem kb_of {K : PySem.W.Frag} {fd : FuncData} {ps : List Str} {ds : List Value} {dvs : List V} (b : Binds K fd ps ds) (v : Vals dvs ds) : KBinds K fd ps [] (fun us _ => us ++ ds) (fun vs _ => vs ++ dvs) :=
  ⟨fun s us ws hk hl => b s us hk (by simpa [List.length_append] using hl), fun r _ => r.append v⟩
def gKw : {α : Type} → List α → List α → List α → List α := fun a _ c => a ++ c
/-- all keywords given, behind n values -/
def gAt {α : Type} (n m : Nat) (us ws : List α) : List α := if us.length = n ∧ ws.length = m then us ++ ws else []
theorem kb_at {K : PySem.W.Frag} {fd : FuncData} {ps ks : List Str} {n : Nat} (h : KBn K fd ps n ks (fun us ws => us ++ ws) (fun vs zs => vs ++ zs)) (hp : ps.length ≠ 0) : KBinds K fd ps ks (gAt n ks.length) (gAt n ks.length) := by
  refine ⟨fun s us ws X l => ?_, fun {vs us zs ws} r rz => ?_⟩
  · unfold gAt at l ⊢
    by_cases q : us.length = n ∧ ws.length = ks.length
    · rw [if_pos q]
      exact h.to s us ws X q.1 q.2
    · rw [if_neg q] at l
      exact absurd l.symm hp
  · unfold gAt
    by_cases q : us.length = n ∧ ws.length = ks.length
    · rw [if_pos q, if_pos (by rw [r.length, rz.length]; exact q)]
      exact r.append rz
    · rw [if_neg q, if_neg (by rw [r.length, rz.length]; exact q)]
      exact .nil
end Lc
set_option Elab.async false
set_option linter.all false
set_option maxRecDepth 100000
set_option maxHeartbeats 4000000
namespace Lc
open PySem PySem.Spec PyProof.Rows L2 LamX NdefX
/-! ## sorted(xs, key = a lambda) -/
section
variable {X : Cx} {pins : List (Addr × Obj)} {σ : L2.St} {H : Hp} {s : Shared} {h' : Heap}
/-- of objects that may turn, one is told from now on -/
theorem told_one {t' : Nat} {ch : List Addr} {a : Addr} {o : HO} (I : Inv X pins σ H s) (mem : a ∈ ch) (can : ∀ b ∈ ch, FpOk X pins H b) (stays : ∀ b u, b ∉ ch → s.heap.get? b = some u → h'.get? b = some u)
    (now : ObjOk X.prog X.w (upd H a o) h' a o) : Inv X pins σ (upd H a o) { s with heap := h', toks := t' } := by
  have no : H a = none := (can a mem).1
  have far : ∀ {b u}, H b = some u → b ∉ ch := fun {b u} e z => by
    have q := (can b z).1
    rw [e] at q
    cases q
  have other : ∀ {b u}, H b = some u → upd H a o b = some u := fun e => by rw [upd_ne (ne_of_none e no)]; exact e
  refine I.step (g' := s.gens) (d' := s.drawn) (ch := ch) (fun b z => ?_) (fun b u _ _ z e _ => stays b u z e) (fun b u _ _ z e _ => ⟨u.slots, stays b u z e⟩) (fun b u z _ n => ?_) (fun b u z e => ⟨u, stays b u z e⟩)
    (fun b xs e => other e) (fun b ob u e => other e) (fun b ps e => ⟨#[], by rw [other e]; simp⟩) (fun m hm => ?_) (fun b u e => ?_) I.bare
  · obtain ⟨_, q2, _, q4, q5, q6⟩ := can b z
    exact ⟨q4, q2, q5, q6⟩
  · rw [upd_ne (fun q => z (by rw [q]; exact mem))]
    exact n
  · obtain ⟨ob, es, ep, e, q⟩ := hm
    exact ⟨ob, es, ep, stays _ _ (fun z => (can _ z).2.1 rfl) e, q⟩
  · by_cases z : b = a
    · rw [z, upd_same] at e
      rw [z, ← Option.some.inj e]
      exact now
    · rw [upd_ne z] at e
      refine (I.hok b u e).stay (fun c v hc q => stays c v ?_ q) (fun c q => other q) fun c xs q => other q
      rcases hc with rfl | hc
      · exact far e
      · exact far hc
/-- what a call leaves of ours: the told things are the same, the untold ones stay -/
structure Left (X : Cx) (H : Hp) (s s' : Shared) : Prop where
  os : s'.os = s.os
  bare : AllBare s'.gens
  un : Un (frs X.stack) [] H H s.heap s'.heap
  hok : HOk X.prog X.w H s'.heap
theorem Left.inv {s' : Shared} (l : Left X H s s') (I : Inv X pins σ H s) : Inv X pins σ H s' := I.call' (ch := []) l.os l.un l.hok l.bare (fun b z => absurd z (by simp))
theorem Left.at {s' : Shared} (l : Left X H s s') {b : Addr} {o : Obj} (e : s.heap.get? b = some o) (n : H b = none) (z : b ∉ frs X.stack) : s'.heap.get? b = some o := l.un.keep b o e n z (by simp)
theorem fp_nf {b : Addr} (I : Inv X pins σ H s) (f : FpOk X pins H b) : b ∉ frs X.stack := fun z => by
  obtain ⟨_, q2, q3, _⟩ := f
  rcases List.mem_cons.mp (I.stkSub b z) with e | e
  · exact q2 e
  · exact q3 e
/-- keys that hold nothing of the heap -/
def KeyV (u : Value) (d : PyData) : Prop := ∀ h : Heap, Reads h u d []
theorem keyV_of {v : V} {u : Value} {d : PyData} (r : RelV v u) (k : (∃ i, v = .int i ∧ d = .int i) ∨ (∃ x, v = .str x ∧ d = .str x) ∨ ∃ b, v = .bl b ∧ d = .bool b) : KeyV u d := fun h => by
  rcases k with ⟨i, rfl, rfl⟩ | ⟨x, rfl, rfl⟩ | ⟨b, rfl, rfl⟩
  · obtain ⟨t, rfl⟩ := (show ∃ t, u = Value.int i t from r)
    exact .int i t
  · obtain ⟨t, rfl⟩ := (show ∃ t, u = Value.str x t from r)
    exact .str x t
  · obtain rfl : u = Value.bool b := r
    exact .bool b
/-- the walk that asks for the keys, then the sort -/
theorem keys_then_sort {A : Around} {f : Addr} {fo : Obj} {a kS : Addr} {e1 : Nat} {us : List Value} {kz : List PyData} {b : Bool} {P : PySem.Fin → Shared → Prop} {E : Value → Shared → Prop} (I : Inv X pins σ H s) (ca : FpOk X pins H a) (ck : FpOk X pins H kS) (hka : kS ≠ a)
    (nf : H f = none) (zf : f ∉ frs X.stack) (fk : f ≠ kS) (of : s.heap.get? f = some fo) (nk : s.heap.get? kS = some (seqObj "list" #[] 0)) (na : s.heap.get? a = some (seqObj "list" #[] e1))
    (hlen : kz.length = us.length) (hZ : us.length ≤ sizeLine) (hal : PySem.W.AllAlike kz) (hsk : PySem.W.Sortable kz) (hu : ∀ d, d ∈ kz → A.units + d.depth < cLine)
    (turn : ∀ (i : Nat) (u : Value) (d : PyData) (s1 : Shared), us[i]? = some u → kz[i]? = some d → Inv X pins σ H s1 → s1.heap.get? f = some fo → (∀ b o, b ≠ kS → b ≠ a → b ∉ frs X.stack → H b = none → s.heap.get? b = some o → s1.heap.get? b = some o) →
      wpAny (model X.prog X.w) A (call (.ref f) [u]) (fun v s2 => KeyV v d ∧ Left X H s1 s2) (fun _ _ => False) s1)
    (done : ∀ (s3 : Shared) (out : List Value) (c : Nat), (∀ ys : List V, Vals ys out → ys.length ≤ sizeLine → Inv X pins σ (upd H a (.lst ys)) s3) → PySem.W.KeyedOut b kz us out → P (.done (.ret .none)) s3) :
    wpAny (model X.prog X.w) A (ksk_rest a (.ref f) b us.toArray e1 (.ref kS)) P E s := by
  unfold ksk_rest
  refine wpAny_bind (wpAny_rule ?_)
  rw [← Array.forIn_toList]
  have za := fp_nf I ca
  have zk := fp_nf I ck
  refine wpAny_bind (ksk_fold (fun i s' => ∃ kA e, Inv X pins σ H s' ∧ s'.heap.get? f = some fo ∧ s'.heap.get? kS = some (seqObj "list" kA e) ∧ s'.heap.get? a = some (seqObj "list" #[] e1) ∧
      (∀ b o, b ≠ kS → b ≠ a → b ∉ frs X.stack → H b = none → s.heap.get? b = some o → s'.heap.get? b = some o) ∧ PySem.W.EachIs (fun v d => KeyV v d) kA.toList (kz.take i)) us.toArray.toList 0 s
    ⟨#[], 0, I, of, nk, na, fun _ _ _ _ _ _ e => e, by rw [List.take_zero]; exact .nil⟩ ?_ ?_)
  · rintro j u s' hx ⟨kA, e, I', of', nk', na', st, hk⟩
    simp only [Nat.zero_add] at hk ⊢
    have hx : us[j]? = some u := by simpa using hx
    have hj : j < us.length := (List.getElem?_eq_some_iff.mp hx).1
    obtain ⟨d, hd⟩ : ∃ d, kz[j]? = some d := ⟨_, List.getElem?_eq_getElem (by omega)⟩
    have hz : kA.size ≤ us.length := by
      have h1 := hk.length
      rw [Array.length_toList, List.length_take] at h1
      omega
    refine wpAny_bind (wpAny_attempt (wpAny_mono (turn j u d s' hx hd I' of' st) (fun v s2 he => ?_) fun _ _ z => z.elim))
    obtain ⟨kv, lf⟩ := he
    have I2 := lf.inv I'
    have of2 := lf.at of' nf zf
    have nk2 := lf.at nk' ck.1 zk
    have na2 := lf.at na' ca.1 za
    have sb := Heap.SameBut.update s2.heap kS (Obj.mapSeq (·.push v))
    obtain ⟨c2, hc2⟩ : ∃ c2, (s2.heap.update kS (Obj.mapSeq (·.push v))).get? kS = some (seqObj "list" (kA.push v) c2) := ⟨_, get?_update_seq nk2 (·.push v)⟩
    have st2 : ∀ b o, b ≠ kS → s2.heap.get? b = some o → (s2.heap.update kS (Obj.mapSeq (·.push v))).get? b = some o := fun b o hb q => (sb.2 b hb).trans q
    refine wpAny_bind (listUpdate_at nk2 rfl ?_ (Nat.le_trans hz hZ) (Nat.le_trans (Nat.le_of_eq (Array.size_push ..)) (Nat.succ_le_succ (Nat.le_trans hz hZ))))
    have I3 : Inv X pins σ H { s2 with heap := s2.heap.update kS (Obj.mapSeq (·.push v)) } := I2.turned (t' := s2.toks) (it := kS) (fun b o hb q => st2 b o hb q) ck.1 ck.2.1 ck.2.2.2.1 ck.2.2.2.2.1 ck.2.2.2.2.2
    refine wpAny_pure ⟨rfl, kA.push v, c2, I3, st2 _ _ fk of2, hc2, st2 _ _ hka.symm na2, fun b o h1 h2 h3 h4 q => st2 _ _ h1 (lf.at (st b o h1 h2 h3 h4 q) h4 h3), ?_⟩
    rw [show kz.take (j + 1) = kz.take j ++ [d] by rw [List.take_add_one, hd]; simp, show (kA.push v).toList = kA.toList ++ [v] by simp]
    exact PySem.W.each_snoc kv hk
  · rintro s' ⟨kA, e, I', of', nk', na', st, hk⟩
    have hk' : PySem.W.EachIs (fun v d => ∃ as, Reads s'.heap v d as) kA.toList kz := by
      rw [show kz.take (0 + us.toArray.toList.length) = kz from List.take_of_length_le (by simp; omega)] at hk
      exact hk.mono fun v d q => ⟨[], q _⟩
    have hsz : kA.size = us.length := by
      have h1 := hk'.length
      rw [Array.length_toList] at h1
      omega
    try dsimp only
    refine wpAny_bind (listItems_at nk' rfl ?_)
    obtain ⟨G, g1, g2⟩ := restrict s'.heap fun b => decide (b ≠ kS)
    have gk : G.get? kS = none := g2 kS (decide_eq_false fun z => z rfl)
    refine PySem.W.keyH_end (κ := PySem.W.dataKind s'.heap kz) (h₁ := G) (fun b o hb q => ?_) gk nk' na' hka (PySem.W.SortsAt.data hk' hal hsk hu) hsz hZ fun h3 tk3 c k3 n3 => ?_
    · have nb : b ≠ kS := fun z => by rw [z, gk] at q; cases q
      rw [g1 b (decide_eq_true nb)] at q
      exact q
    · refine done _ _ c (fun ys r l => ?_) ⟨s'.heap, kA.toList, hal, rfl, hk'⟩
      refine told_one (ch := [kS, a]) I' (by simp) (fun b hb => ?_) (fun b u hb q => ?_) ⟨l, _, c, r, n3⟩
      · simp only [List.mem_cons, List.not_mem_nil, or_false] at hb
        rcases hb with rfl | rfl
        · exact ck
        · exact ca
      · simp only [List.mem_cons, List.not_mem_nil, or_false, not_or] at hb
        exact k3 b u hb.2 (by rw [g1 b (decide_eq_true hb.1)]; exact q)
/-- sorted(l, key = f, ..), f an object of ours -/
theorem sorted_by_key {f l : Addr} {fo : Obj} {b : Bool} {kw : List (Str × Value)} {bs : List (V × PyData)} {Q : VK} (I : Inv X pins σ H s) (hl : SqL X.K H l (bs.map (·.1))) (nf : H f = none) (zf : f ∉ frs X.stack) (of : s.heap.get? f = some fo)
    (hal : PySem.W.AllAlike (bs.map (·.2))) (hsk : PySem.W.Sortable (bs.map (·.2))) (hu : ∀ x ∈ bs, X.A.units + 2 + x.2.depth < cLine) (ha1 : argsOk "sorted" ⟨[.ref l], kw⟩) (ha2 : ∀ x, argsOk "list.sort" ⟨[.ref x], kw⟩) (ht : ∀ x, Builtin.«list.sort» ⟨[.ref x], kw⟩ = ksk_tree x (.ref f) b)
    (turn : ∀ (u : Value) (x : V × PyData) (s1 : Shared), x ∈ bs → RelV x.1 u → Inv X pins σ H s1 → s1.heap.get? f = some fo → (∀ b o, b ∉ frs X.stack → H b = none → s.heap.get? b = some o → s1.heap.get? b = some o) →
      wpAny (model X.prog X.w) X.A.in1.in1 (call (.ref f) [u]) (fun v s2 => KeyV v x.2 ∧ Left X H s1 s2) (fun _ _ => False) s1)
    (q : ∀ p, H p = none → Q (.ref p) (upd H p (.lst ((bs.mergeSort (PySem.W.dataLe b (·.2))).map (·.1))))) : wpAny (model X.prog X.w) X.A (call (.builtin "sorted") [.ref l] kw) (EP X pins σ Q) X.xe s := by
  obtain ⟨us, rv, pl, hz⟩ := I.list hl
  have lb : us.length = bs.length := by rw [← rv.length, List.length_map]
  have hZ : us.length ≤ sizeLine := by rw [← rv.length]; exact hz
  refine PySem.W.sorted_of_sort (vs := us) pl.isList hZ ha1 ha2 fun E' => ?_
  rw [ht]
  generalize hA : s.heap.objs.size + 1 = a
  have oa : (PySem.W.copyHeap s.heap us).get? a = some (seqObj "list" us.toArray 0) := by rw [← hA]; exact PySem.W.copyHeap_at _ _
  have ha1' : s.heap.objs.size < a := by rw [← hA]; exact Nat.lt_succ_self _
  have ga : s.heap.objs.size ≤ a := Nat.le_of_lt ha1'
  have naH : H a = none := I.hok.fresh ga
  have la := Heap.lt_size oa
  obtain ⟨e1, ho1⟩ : ∃ e1, ((PySem.W.copyHeap s.heap us).update a (Obj.mapSeq fun _ => (#[] : Array Value))).get? a = some (seqObj "list" #[] e1) := ⟨_, get?_update_seq oa fun _ => #[]⟩
  unfold ksk_tree
  refine wpAny_bind (listItems_at (s := { s with heap := PySem.W.copyHeap s.heap us }) oa rfl ?_)
  refine wpAny_bind (listUpdate_at (s := { s with heap := PySem.W.copyHeap s.heap us }) oa rfl ?_ (by rw [List.size_toArray]; exact hZ) (Nat.zero_le _))
  refine wpAny_bind (seqEpoch_at ho1 rfl ?_)
  refine wpAny_bind (wpAny_newTuple ?_ (by show us.length ≤ _; exact hZ))
  refine wpAny_bind (wpAny_newList ?_ (Nat.zero_le _))
  refine wpAny_holding ?_
  generalize hh3 : ((PySem.W.copyHeap s.heap us).update a (Obj.mapSeq fun _ => (#[] : Array Value))).push (seqObj "tuple" us.toArray 0) = h3
  have hk3 : (PySem.W.copyHeap s.heap us).objs.size < h3.objs.size := by rw [← hh3, size_push', Heap.size_update]; exact Nat.lt_succ_self _
  have old : ∀ b o, s.heap.get? b = some o → (h3.push (seqObj "list" #[] 0)).get? b = some o := fun b o e => by
    have nb : b ≠ a := Nat.ne_of_lt (Nat.lt_trans (Heap.lt_size e) ha1')
    rw [← hh3]
    refine Heap.get?_push_of_some _ (Heap.get?_push_of_some _ ?_)
    rw [Heap.get?_update_ne _ _ _ _ nb]
    exact PySem.W.copyHeap_old e
  have I2 : Inv X pins σ H { s with heap := h3.push (seqObj "list" #[] 0) } := I.kept (t' := s.toks) old
  have hak : a < h3.objs.size := Nat.lt_trans la hk3
  have gk : s.heap.objs.size ≤ h3.objs.size := Nat.le_trans ga (Nat.le_of_lt hak)
  have nkH : H h3.objs.size = none := I.hok.fresh gk
  have fl := Heap.lt_size of
  refine keys_then_sort (kS := h3.objs.size) (kz := bs.map (·.2)) (fo := fo) I2 (I.fpOk ga naH) (I.fpOk gk nkH) (Nat.ne_of_gt hak) nf zf (Nat.ne_of_lt (Nat.lt_of_lt_of_le fl gk)) (old _ _ of) (Heap.get?_push_size _ rfl) (by rw [← hh3]; exact Heap.get?_push_of_some _ (Heap.get?_push_of_some _ ho1)) (by rw [List.length_map, lb]) hZ hal hsk
    (fun d hd => ?_) (fun i u d s1 hi hd I1 of1 st => ?_) fun s3 out c iv ko => ⟨rfl, ?_⟩
  · obtain ⟨x, hx, rfl⟩ := List.mem_map.mp hd
    exact hu x hx
  · rw [List.getElem?_map] at hd
    obtain ⟨x, hx, rfl⟩ := Option.map_eq_some_iff.mp hd
    obtain ⟨u', hu', ru⟩ := rv.get (show (bs.map (·.1))[i]? = some x.1 by rw [List.getElem?_map, hx]; rfl)
    rw [hi] at hu'
    obtain rfl := Option.some.inj hu'
    refine turn u x s1 (List.mem_of_getElem? hx) ru I1 of1 fun b o z n e => st b o (Nat.ne_of_lt (Nat.lt_of_lt_of_le (Heap.lt_size e) gk)) (Nat.ne_of_lt (Nat.lt_trans (Heap.lt_size e) ha1')) z n (old b o e)
  · have ea : PySem.W.EachIs (fun (u : Value) (x : V × PyData) => RelV x.1 u) us bs := by
      have key : ∀ (bs : List (V × PyData)) (us : List Value), Vals (bs.map (·.1)) us → PySem.W.EachIs (fun (u : Value) (x : V × PyData) => RelV x.1 u) us bs := by
        intro bs
        induction bs with
        | nil => intro us r; cases r; exact .nil
        | cons x bs ih =>
          intro us r
          rw [List.map_cons] at r
          cases r with
          | cons r1 r2 => exact .cons r1 (ih _ r2)
      exact key bs us rv
    have eo := PySem.W.keyedOut_each (fun x : V × PyData => x.2) ko ea
    have vo : Vals ((bs.mergeSort (PySem.W.dataLe b (·.2))).map (·.1)) out := by
      have key : ∀ (cs : List (V × PyData)) (us : List Value), PySem.W.EachIs (fun (u : Value) (x : V × PyData) => RelV x.1 u) us cs → Vals (cs.map (·.1)) us := by
        intro cs us e
        induction e with
        | nil => exact .nil
        | cons h r ih => exact .cons h ih
      exact key _ _ eo
    exact ⟨.ref a, _, iv _ vo (by rw [List.length_map, List.length_mergeSort, ← lb]; exact hZ), rfl, q a naH⟩
end
/-- a key as the sort knows it -/
def KeyD (v : V) (d : PyData) : Prop := (∃ i, v = .int i ∧ d = .int i) ∨ (∃ x, v = .str x ∧ d = .str x) ∨ ∃ b, v = .bl b ∧ d = .bool b
/-- the words of a lambda that X makes -/
abbrev lamW (X : Cx) (params : Arguments) (scope : Scope) (c : Addr) : NF := ⟨"<lambda>", X.env.qual ++ "<lambda>", params, [], scope, cloFrom X.env.cells scope.names [], c⟩
section
variable {X : Cx} {pins : List (Addr × Obj)} {σ : L2.St} {H : Hp} {s : Shared}
/-- the lambda asked about one item -/
theorem lam_ask {N fr : List Str} {row : Str} {js : List Nat} {k : Nat} {f c : Addr} {pm ctv u : Value} {params : Arguments} {body : Expr} {scope : Scope} {tb : TE} {x : V} {d : PyData} {A : Around} (I : Inv X pins σ H s) (S : NScope N [row] fr scope) (cp : Caps X (cloFrom X.env.cells scope.names []) fr js)
    (of : s.heap.get? f = some (PySem.W.kla_obj "<lambda>" (X.env.qual ++ "<lambda>") params body scope (cloFrom X.env.cells scope.names []) pm c ctv)) (hc : H c = some (CodeO c (X.env.qual ++ "<lambda>"))) (hfr : A.frames = X.A.frames) (hr : Room (k + 1) A)
    (hbind : ∀ (q : Str) (cl : List (Str × Addr)) (pm cv ctv u : Value), bindArgs (PySem.W.kla_fn "<lambda>" q params body scope cl pm cv ctv) ⟨[u], []⟩ = pure [(row, u)])
    (hbody : ∀ (c : Addr) (A : Around) (outer : List Env) (s : Shared) (H : Hp) (f : Addr), Room k (A.deeper (envF (lamW X params scope c) f s.heap.objs.size)) → PE (ncx C8.CX0 X.prog X.w X.K X.mg X.base N (lamW X params scope c) f A outer s H C8.E0) body tb)
    (ru : RelV x u) (ht : tb (startF N [x] (js.map (slotAt σ))) H (fun v H' => H' = H ∧ KeyD v d)) : wpAny (model X.prog X.w) A (call (.ref f) [u]) (fun v s2 => KeyV v d ∧ Left X H s s2) (fun _ _ => False) s := by
  have e0 : Env0 X.prog X.w X.K X.mg X.base A X.stack s H := ⟨hfr.trans I.env0.frames, I.env0.mod, I.env0.bs, I.env0.bsz, I.env0.funs, I.env0.frf, I.env0.hok, I.env0.bare⟩
  refine wpAny_call (PySem.W.kla_callFunE hr.depth of rfl S.co S.gen rfl (codeO_at I.hok hc) ?_)
  rw [hbind]
  refine wpAny_pure (wpAny_newFunctionEnv S.nocell (fun y hy => S.par y.1 (by rw [List.mem_singleton.mp hy]; exact List.mem_singleton_self _)) (fun h₁ hns hsb => ⟨I.nolimit.fresh _ hsb, ?_⟩) S.kind)
  show codeAny _ _ (.expr body (envF (lamW X params scope c) f s.heap.objs.size)) _ _
  have kp : ∀ b o, s.heap.get? b = some o → h₁.get? b = some o := fun b o e => hsb.extBut b o (Nat.ne_of_lt (Heap.lt_size e)) (Heap.get?_push_of_some _ e)
  have J : Inv (ncx C8.CX0 X.prog X.w X.K X.mg X.base N (lamW X params scope c) f A X.stack s H C8.E0) [] (startF N [x] (js.map (slotAt σ))) H { s with heap := h₁, toks := s.toks + [(row, u)].length } :=
    inv_startN (ps := [row]) (us := [u]) S hr.hd e0 rfl (.cons ru .nil) (cells_of I cp) hns kp
  refine PySem.W.kla_codeExpr (wpAny_mono ((hbody c A X.stack s H f (hr.deeper _)).run [] _ _ H _ J ht) (fun v s' hq => ?_) fun e s' hq => hq)
  obtain ⟨w', H', J', rv, rfl, kd⟩ := hq
  exact ⟨keyV_of rv kd, J'.os, J'.bare, J'.base, J'.hok⟩
/-- sorted(e, key = lambda row: body[, reverse = True]) -/
def tSortL (K : PySem.W.Frag) (T : List (Addr × Str)) (b : Bool) (N : List Str) (js : List Nat) (te tb : TE) : TE := fun σ H Q => te σ H fun y H1 => Tabs T H1 ∧ ∀ H2, ExtN H1 H2 → Tabs T H2 → ∃ (l : Addr) (bs : List (V × PyData)), y = .ref l ∧ SqL K H2 l (bs.map (·.1)) ∧ PySem.W.AllAlike (bs.map (·.2)) ∧ PySem.W.Sortable (bs.map (·.2)) ∧
  (∀ x ∈ bs, x.2.depth ≤ 50) ∧ (∀ x ∈ bs, tb (startF N [x.1] (js.map (slotAt σ))) H2 (fun v H' => H' = H2 ∧ KeyD v x.2)) ∧ ∀ p, H2 p = none → Q (.ref p) (upd H2 p (.lst ((bs.mergeSort (PySem.W.dataLe b (·.2))).map (·.1))))
theorem sort_at {T : List (Addr × Str)} {c0 P : Addr} {N fr : List Str} {row : Str} {js : List Nat} {k : Nat} {params : Arguments} {body : Expr} {scope : Scope} {tb : TE} {lpos : Pos} {b : Bool} {v : Value} {y : V} {more : Addr → List (Str × Value)} {Q : VK}
    (TB : TabB X.base X.mg c0 P) (hcode : X.env.code = .ref c0) (hmT : (P, X.env.qual ++ "<lambda>") ∈ T) (hu : ∀ p ∈ T, p.1 = P → p.2 = X.env.qual ++ "<lambda>") (hr : Room (k + 3) X.A) (S : NScope N [row] fr scope) (hfree : ∀ y ∈ scope.names, y.2 = .free → X.env.scope.names.lookup y.1 = some .cell ∨ X.env.scope.names.lookup y.1 = some .free)
    (hfs : ∀ y ∈ fr, (y, NameKind.free) ∈ scope.names) (hjs : js.map (fun j => X.N[j]?) = fr.map some) (hdef : defaultsOf params X.env = ([], [])) (hbind : ∀ (q : Str) (cl : List (Str × Addr)) (pm cv ctv u : Value), bindArgs (PySem.W.kla_fn "<lambda>" q params body scope cl pm cv ctv) ⟨[u], []⟩ = pure [(row, u)])
    (hbody : ∀ (c : Addr) (A : Around) (outer : List Env) (s : Shared) (H : Hp) (f : Addr), Room k (A.deeper (envF (lamW X params scope c) f s.heap.objs.size)) → PE (ncx C8.CX0 X.prog X.w X.K X.mg X.base N (lamW X params scope c) f A outer s H C8.E0) body tb)
    (ha1 : ∀ l f, argsOk "sorted" ⟨[.ref l], more f⟩) (ha2 : ∀ x f, argsOk "list.sort" ⟨[.ref x], more f⟩) (hst : ∀ x f, Builtin.«list.sort» ⟨[.ref x], more f⟩ = ksk_tree x (.ref f) b)
    (I : Inv X pins σ H s) (ry : RelV y v) (h : tSortL X.K T b N js (fun _ H Q => Q y H) tb σ H Q) :
    wpAny (model X.prog X.w) X.A (eval (.Lambda params body scope lpos) X.env) (fun u s1 => ∃ f, u = .ref f ∧ wpAny (model X.prog X.w) X.A (call (.builtin "sorted") [v] (more f)) (EP X pins σ Q) X.xe s1) X.xe s := by
  obtain ⟨hT, h⟩ := h
  have cells : ∀ y ∈ scope.names, y.2 = .free → ∃ c, X.env.cells.lookup y.1 = some c := fun y hy e => I.ok.has _ (hfree y hy e)
  refine lam_make2 I TB hcode hmT hu hT hdef cells fun f c pm ctv H1 s1 I1 eN T1 of nf zf hco => ⟨f, rfl, ?_⟩
  obtain ⟨l, bs, rfl, hl, hal, hsk, hd, hb, q⟩ := h H1 eN T1
  obtain rfl : v = Value.ref l := ry
  have cp := Caps.made I1.ok hfree hfs hjs
  have h1 := hr.un
  refine sorted_by_key (b := b) I1 hl nf zf of hal hsk (fun x hx => ?_) (ha1 l f) (fun x => ha2 x f) (fun x => hst x f) (fun u x s2 hx ru I2 of2 _ => ?_) q
  · have := hd x hx
    omega
  · exact lam_ask (k := k) I2 S cp of2 hco rfl (Room.in1 (Room.in1 hr)) hbind hbody ru (hb x hx)
theorem pe_sortLam {T : List (Addr × Str)} {c0 P : Addr} {N fr : List Str} {row : Str} {js : List Nat} {k : Nat} {params : Arguments} {body e : Expr} {scope : Scope} {te tb : TE} {lpos p pos kp : Pos} (TB : TabB X.base X.mg c0 P) (hcode : X.env.code = .ref c0) (hmT : (P, X.env.qual ++ "<lambda>") ∈ T) (hu : ∀ p ∈ T, p.1 = P → p.2 = X.env.qual ++ "<lambda>") (hr : Room (k + 3) X.A) (S : NScope N [row] fr scope) (hfree : ∀ y ∈ scope.names, y.2 = .free → X.env.scope.names.lookup y.1 = some .cell ∨ X.env.scope.names.lookup y.1 = some .free)
    (hfs : ∀ y ∈ fr, (y, NameKind.free) ∈ scope.names) (hjs : js.map (fun j => X.N[j]?) = fr.map some) (hg : Gl X "sorted") (hm : X.mg "sorted" = none) (ha : PA X [e] (tCons te tNil))
    (hbody : ∀ (c : Addr) (A : Around) (outer : List Env) (s : Shared) (H : Hp) (f : Addr), Room k (A.deeper (envF (lamW X params scope c) f s.heap.objs.size)) → PE (ncx C8.CX0 X.prog X.w X.K X.mg X.base N (lamW X params scope c) f A outer s H C8.E0) body tb)
    (hdef : defaultsOf params X.env = ([], []) := by rfl) (hbind : ∀ (q : Str) (cl : List (Str × Addr)) (pm cv ctv u : Value), bindArgs (PySem.W.kla_fn "<lambda>" q params body scope cl pm cv ctv) ⟨[u], []⟩ = pure [(row, u)] := by intro _ _ _ _ _ _; rfl)
    (hst : backTo pos (starEach [e] X.env) = (false, eval e X.env) :: backTo pos (starEach [] X.env) := by rfl) (hpl : (backTo pos (starEach [e] X.env)).any (·.1) = false := by rfl) :
    PE X (.Call (.Name "sorted" p) [e] [⟨some "key", .Lambda params body scope lpos, kp⟩] pos) (tSortL X.K T false N js te tb) := by
  refine ⟨fun pins s σ H Q I h => ?_⟩
  refine wpAny_Call_Name_kw (ld_blt (u := .builtin "sorted") I hg hm (by decide +kernel) ?_)
  refine PyProof.Rows.callWith_kw (thn (ha.run pos pins s σ H (fun vs H1 => match vs with
    | [y] => tSortL X.K T false N js (fun _ H Q => Q y H) tb σ H1 Q
    | _ => False) I h) fun us s1 ⟨vs, H1, I1, r1, q1⟩ => ?_) hst hpl (by rfl) (by rfl)
  match vs, r1, q1 with
  | [y], r1, q1 =>
    obtain ⟨v, rfl, ry⟩ := vals1 r1
    refine PyProof.Rows.kwAll_cons (thn (sort_at (b := false) (more := fun f => [(Str.ofString "key", .ref f)]) TB hcode hmT hu hr S hfree hfs hjs hdef hbind hbody (fun l f => PyProof.Rows.ksk_s1 _ _) (fun x f => PyProof.Rows.ksk_l1 _ _) (fun x f => PyProof.Rows.ksk_t1 f x) I1 ry q1) fun u s2 hh => PyProof.Rows.kwAll_nil ?_)
    obtain ⟨f, rfl, hh⟩ := hh
    exact hh
theorem pe_sortLamR {T : List (Addr × Str)} {c0 P : Addr} {N fr : List Str} {row : Str} {js : List Nat} {k : Nat} {params : Arguments} {body e : Expr} {scope : Scope} {te tb : TE} {lpos p pos kp kp2 cp : Pos} {j0 : Nat} (TB : TabB X.base X.mg c0 P) (hcode : X.env.code = .ref c0) (hmT : (P, X.env.qual ++ "<lambda>") ∈ T) (hu : ∀ p ∈ T, p.1 = P → p.2 = X.env.qual ++ "<lambda>") (hr : Room (k + 3) X.A) (S : NScope N [row] fr scope) (hfree : ∀ y ∈ scope.names, y.2 = .free → X.env.scope.names.lookup y.1 = some .cell ∨ X.env.scope.names.lookup y.1 = some .free)
    (hfs : ∀ y ∈ fr, (y, NameKind.free) ∈ scope.names) (hjs : js.map (fun j => X.N[j]?) = fr.map some) (hg : Gl X "sorted") (hm : X.mg "sorted" = none) (ha : PA X [e] (tCons te tNil))
    (hbody : ∀ (c : Addr) (A : Around) (outer : List Env) (s : Shared) (H : Hp) (f : Addr), Room k (A.deeper (envF (lamW X params scope c) f s.heap.objs.size)) → PE (ncx C8.CX0 X.prog X.w X.K X.mg X.base N (lamW X params scope c) f A outer s H C8.E0) body tb)
    (hdef : defaultsOf params X.env = ([], []) := by rfl) (hbind : ∀ (q : Str) (cl : List (Str × Addr)) (pm cv ctv u : Value), bindArgs (PySem.W.kla_fn "<lambda>" q params body scope cl pm cv ctv) ⟨[u], []⟩ = pure [(row, u)] := by intro _ _ _ _ _ _; rfl)
    (hst : backTo pos (starEach [e] X.env) = (false, eval e X.env) :: backTo pos (starEach [] X.env) := by rfl) (hpl : (backTo pos (starEach [e] X.env)).any (·.1) = false := by rfl) :
    PE X (.Call (.Name "sorted" p) [e] [⟨some "key", .Lambda params body scope lpos, kp⟩, ⟨some "reverse", .Constant (.bool true) j0 cp, kp2⟩] pos) (tSortL X.K T true N js te tb) := by
  refine ⟨fun pins s σ H Q I h => ?_⟩
  refine wpAny_Call_Name_kw (ld_blt (u := .builtin "sorted") I hg hm (by decide +kernel) ?_)
  refine PyProof.Rows.callWith_kw (thn (ha.run pos pins s σ H (fun vs H1 => match vs with
    | [y] => tSortL X.K T true N js (fun _ H Q => Q y H) tb σ H1 Q
    | _ => False) I h) fun us s1 ⟨vs, H1, I1, r1, q1⟩ => ?_) hst hpl (by rfl) (by rfl)
  match vs, r1, q1 with
  | [y], r1, q1 =>
    obtain ⟨v, rfl, ry⟩ := vals1 r1
    refine PyProof.Rows.kwAll_cons (thn (sort_at (b := true) (more := fun f => [(Str.ofString "key", .ref f), (Str.ofString "reverse", .bool true)]) TB hcode hmT hu hr S hfree hfs hjs hdef hbind hbody (fun l f => PyProof.Rows.ksk_s2 _ _ _) (fun x f => PyProof.Rows.ksk_l2 _ _ _) (fun x f => PyProof.Rows.ksk_t2 f x true) I1 ry q1) fun u s2 hh => PyProof.Rows.kwAll_cons (wpAny_Constant_bool (PyProof.Rows.kwAll_nil ?_)))
    obtain ⟨f, rfl, hh⟩ := hh
    exact hh
end
/-- a def whose code object is known -/
theorem Fun.okc {P : Program} {w : World} {K : PySem.W.Frag} {mg : Str → Option Value} {base : Heap} {CX : CXT} {x qual : Str} {st : Stmt} {f c : Addr} {fd : FuncData} {N ps : List Str} {k : Nat} {sp : Sp} (F : Fun K x qual st f fd) (hc : fd.code = .ref c) (S : FnScope N ps (defScope st)) (len : ∀ vs H Q E, sp vs H Q E → vs.length = ps.length)
    (go : ∀ (A : Around) (outer : List Env) (s : Shared) (H : Hp) (vs : List V) (Q : VK) (E : XK), Room k (A.deeper (envOfC qual (defScope st) s.heap.objs.size f (.ref c))) → sp vs H Q E →
      ∃ t, PSs (cxOf CX P w K mg base N qual (defScope st) f (.ref c) A outer s H E) (defBody st) t ∧ t { nx := fun _ H' => Q .non H', rt := Q } (L2.start N vs) H) : FnOk P w K mg base CX (k + 1) f fd ps sp := by
  obtain ⟨oc, od, kV, doc, pm, an, cdv, ct, osl, rfl, lk, hcd⟩ := F.ex
  obtain rfl : cdv = .ref c := hc
  exact fn_of lk hcd S len fun A outer s H vs Q E hr hsp => go A outer s H vs Q E hr hsp
end Lc
set_option Elab.async false
set_option linter.all false
set_option maxRecDepth 100000
set_option maxHeartbeats 4000000
namespace K17
open PySem PySem.Spec PyProof.Rows L2 Lc
open LamX NdefX
theorem row_at {H : Hp} {v : V} {r : RowD} (h : Dh H v r.d) : ∃ ra va la, v = .ref ra ∧ H ra = some (.tup [.ref va, .ref la]) ∧ Dh H (.ref va) (.tuple r.vals) ∧ Dh H (.ref la) (linD r.lin) := by
  cases h with
  | tup e hs => cases hs with
    | cons h1 r1 => cases r1 with
      | cons h2 r2 =>
        cases r2
        have h1' := h1
        have h2' := h2
        cases h1 with
        | tup e1 _ => cases h2 with
          | tup e2 _ => exact ⟨_, _, _, rfl, e, h1', h2'⟩
theorem Vks.noL : ∀ {ks : List Str} {ds : List PyData}, Vks ks ds → ∀ d ∈ ds, noL d = true
  | _, _, .nil => nofun
  | _, _, .cons h r => fun d hd => by
    rcases List.mem_cons.mp hd with rfl | hd
    · exact h.noL
    · exact r.noL d hd
def RowW (ps : CsL) (ds : List RowD) : Prop := ∀ r ∈ ds, Vks (ps.map (·.2)) r.vals ∧ LinOk r.lin
theorem RowW.ok {ps : CsL} {rs : RowsL} (h : RowW ps (rs.map (·.2))) : RowsOk rs := fun r hr => by
  obtain ⟨h1, h2⟩ := h r.2 (List.mem_map_of_mem hr)
  exact ⟨noLs_all.mpr h1.noL, h2⟩
theorem idx_at {ss : List Str} {x : Str} (h : x ∈ ss) : ss[ss.idxOf x]? = some x := by
  rw [List.getElem?_eq_getElem (List.idxOf_lt_length_of_mem h)]
  exact congrArg some (List.getElem_idxOf _)
theorem idx_no {x z : Str} : ∀ {ss : List Str} {m : Nat}, m < ss.idxOf x → ss[m]? = some z → z ≠ x
  | [], m, h, e => by simp at e
  | a :: r, m, h, e => by
    rw [List.idxOf_cons] at h
    by_cases q : a = x
    · rw [beq_iff_eq.mpr q] at h
      exact absurd h (Nat.not_lt_zero m)
    · rw [beq_eq_false_iff_ne.mpr q] at h
      match m, h, e with
      | 0, h, e => injection e with e; rw [← e]; exact q
      | m + 1, h, e => exact idx_no (ss := r) (m := m) (Nat.lt_of_succ_lt_succ h) (by simpa using e)
/-! ## keys -/
def bySz (n d : Int) : Int := n * lim * lim / d
def kyD : PyData → PyData
  | .tuple [.int n, .int d] => .int (bySz n d)
  | d => d
theorem rt_pos {n d : Int} (h : Rt n d) : 0 < d := by
  have := h.1
  omega
theorem num_at {H : Hp} {v : V} {n d : Int} (h : Dh H v (.tuple [.int n, .int d])) : ∃ a, v = .ref a ∧ H a = some (.tup [.int n, .int d]) := by
  cases h with
  | tup e hs => cases hs with
    | cons h1 r1 => cases r1 with
      | cons h2 r2 => cases r2; cases h1; cases h2; exact ⟨_, rfl, e⟩
def spBz : Sp := fun vs H Q _ => ∃ (p : Addr) (n d : Int), vs = [.ref p] ∧ H p = some (.tup [.int n, .int d]) ∧ n.natAbs ≤ 10000000000000000000000000000000000000000 ∧ d.natAbs ≤ 10000000000000000000000000000000000000000 ∧ 0 < d ∧ Q (.int (bySz n d)) H
def spOk : Sp := fun vs H Q _ => ∃ (v : V) (d : PyData) (kd : Str), vs = [v] ∧ Dh H v d ∧ Vk kd d ∧ d ≠ .none ∧ ∀ u, KeyD u (kyD d) → Q u H
/-! ## rows in order -/
def valAt (ps : CsL) (x : Str) (r : RowD) : PyData := r.vals.getD ((nms ps).idxOf x) .none
def isN : PyData → Bool
  | .none => true
  | _ => false
def rowLe (ps : CsL) (x : Str) (u : Bool) : V × RowD → V × RowD → Bool := PySem.W.dataLe (!u) fun r => kyD (valAt ps x r.2)
def there (ps : CsL) (x : Str) (r : V × RowD) : Bool := !isN (valAt ps x r.2)
def srtR (ps : CsL) (x : Str) (u : Bool) (rs : RowsL) : RowsL := ((rs.filter (there ps x)).mergeSort (rowLe ps x u)) ++ rs.filter fun r => !there ps x r
mutual
theorem Dh.n {H H' : Hp} (s : ExtN H H') : ∀ {v : V} {d : PyData}, Dh H v d → Dh H' v d
  | _, _, .non => .non
  | _, _, .bl b => .bl b
  | _, _, .int i => .int i
  | _, _, .str x => .str x
  | _, _, .tup e h => .tup (s _ _ e nofun) (DhAll.n s h)
  | _, _, .lst e h => .lst (s _ _ e nofun) (DhAll.n s h)
  | _, _, .dct e => .dct (s _ _ e nofun)
theorem DhAll.n {H H' : Hp} (s : ExtN H H') : ∀ {vs : List V} {ds : List PyData}, DhAll H vs ds → DhAll H' vs ds
  | _, _, .nil => .nil
  | _, _, .cons h r => .cons (Dh.n s h) (DhAll.n s r)
end
theorem Vks.at : ∀ {ks : List Str} {ds : List PyData} {i : Nat} {k : Str}, Vks ks ds → ks[i]? = some k → ∃ d, ds[i]? = some d ∧ Vk k d
  | _, _, 0, _, .cons h _, e => ⟨_, rfl, by injection e with e; rw [← e]; exact h⟩
  | _, _, i + 1, _, .cons _ r, e => Vks.at (i := i) r (by simpa using e)
theorem dh_isN {H : Hp} {v : V} {d : PyData} (h : Dh H v d) : decide (v = V.non) = isN d := by cases h <;> rfl
/-- the value that a row has at a column -/
theorem val_at {ps : CsL} {x : Str} (hx : x ∈ nms ps) : ∃ kd : Str, ∀ {H : Hp} {r : V × RowD}, Dh H r.1 r.2.d → Vks (ps.map (·.2)) r.2.vals →
    ∃ ra va la xs z, r.1 = .ref ra ∧ H ra = some (.tup [.ref va, .ref la]) ∧ H va = some (.tup xs) ∧ xs[(nms ps).idxOf x]? = some z ∧ Dh H z (valAt ps x r.2) ∧ Vk kd (valAt ps x r.2) := by
  have l := List.idxOf_lt_length_of_mem hx
  rw [List.length_map] at l
  refine ⟨((ps.map (·.2))[(nms ps).idxOf x]'(by rw [List.length_map]; exact l)), fun {H r} h vk => ?_⟩
  obtain ⟨ra, va, la, e1, e2, hv, _⟩ := row_at h
  cases hv with
  | @tup _ xs _ eu hu =>
  obtain ⟨d, e3, vd⟩ := vk.at (List.getElem?_eq_getElem (by rw [List.length_map]; exact l))
  have lx : (nms ps).idxOf x < xs.length := by rw [hu.len]; exact (List.getElem?_eq_some_iff.mp e3).1
  obtain ⟨d', e4, dz⟩ := hu.get _ _ (List.getElem?_eq_getElem lx)
  rw [e3] at e4
  obtain rfl := Option.some.inj e4
  have ev : valAt ps x r.2 = d := by
    unfold valAt
    rw [List.getD_eq_getElem?_getD, e3]
    rfl
  rw [ev]
  exact ⟨ra, va, la, xs, _, e1, e2, eu, List.getElem?_eq_getElem lx, dz, vd⟩
theorem kyD_alike {kd : Str} {a b : PyData} (ha : Vk kd a) (hb : Vk kd b) (na : isN a = false) (nb : isN b = false) : PySem.W.alike (kyD a) (kyD b) = true := by
  cases ha with
  | non => exact absurd na (by decide)
  | num _ _ _ => cases hb with
    | non => exact absurd nb (by decide)
    | num _ _ _ => rfl
  | flag _ => cases hb with
    | non => exact absurd nb (by decide)
    | flag _ => rfl
  | word _ _ => cases hb with
    | non => exact absurd nb (by decide)
    | word _ _ => rfl
theorem kyD_flat {kd : Str} {a : PyData} (ha : Vk kd a) (na : isN a = false) : (kyD a ≠ .none ∧ ∀ xs, kyD a ≠ .tuple xs) ∧ (kyD a).depth ≤ 50 := by
  cases ha with
  | non => exact absurd na (by decide)
  | num _ _ _ => exact ⟨⟨nofun, nofun⟩, Nat.zero_le _⟩
  | flag _ => exact ⟨⟨nofun, nofun⟩, Nat.zero_le _⟩
  | word _ _ => exact ⟨⟨nofun, nofun⟩, Nat.zero_le _⟩
/-- rows and their keys, sorted -/
theorem sorted_keys {ps : CsL} {x : Str} {b : Bool} (l : RowsL) : (((l.map fun r => (r.1, kyD (valAt ps x r.2))).mergeSort (PySem.W.dataLe b (·.2))).map (·.1)) = (l.mergeSort (PySem.W.dataLe b fun r => kyD (valAt ps x r.2))).map (·.1) := by
  rw [← List.map_mergeSort (r := PySem.W.dataLe b fun r : V × RowD => kyD (valAt ps x r.2)) (f := fun r : V × RowD => (r.1, kyD (valAt ps x r.2))) (fun a _ b _ => rfl), List.map_map]
  rfl
abbrev lamT (P0 : Addr) : List (Addr × Str) := [(P0, "sorted_rows.<locals>.<lambda>")]
theorem lamQ : (("sorted_rows" : Str) ++ (".<locals>." : Str) ++ ("<lambda>" : Str)) = "sorted_rows.<locals>.<lambda>" := by decide +kernel
theorem lamM {P0 : Addr} : (P0, (("sorted_rows" : Str) ++ (".<locals>." : Str) ++ ("<lambda>" : Str))) ∈ lamT P0 := by rw [lamQ]; exact List.mem_singleton_self _
theorem lamU {P0 : Addr} : ∀ p ∈ lamT P0, p.1 = P0 → p.2 = (("sorted_rows" : Str) ++ (".<locals>." : Str) ++ ("<lambda>" : Str)) := fun p hp _ => by rw [List.mem_singleton.mp hp, lamQ]
def spSr (C P0 : Addr) : Sp := fun vs H Q _ => ∃ (tb : V) (a cv p : Addr) (ps : CsL) (x : Str) (u : Bool) (rs : RowsL), vs = [tb, .ref a, .ref p] ∧ Tabs (lamT P0) H ∧ IsTb C H a cv rs ∧ CA H cv ps ∧ ColP ps ∧ RowW ps (rs.map (·.2)) ∧ rs.length ≤ 1000 ∧ Dh H (.ref p) (Ps.d (.sort x u)) ∧ x ∈ nms ps ∧
  ∀ (l : Addr) (H' : Hp), ExtN H H' → Tabs (lamT P0) H' → H' l = some (.lst ((srtR ps x u rs).map (·.1))) → Q (.ref l) H'
abbrev ttP (K : PySem.W.Frag) : TT := tTest (tOp rNotN (tOp (rIxT K) (tOp (rIxT K) (tVar 8) (tC (.int 0))) (tVar 6)) (tC .non))
abbrev ttM (K : PySem.W.Frag) : TT := tTest (tOp rIsN (tOp (rIxT K) (tOp (rIxT K) (tVar 8) (tC (.int 0))) (tVar 6)) (tC .non))
section
variable {P : Program} {w : World} {K : PySem.W.Frag} {mg : Str → Option Value} {base : Heap} {f : Addr} {fd : FuncData}
abbrev sBz : Stmt := top 62
abbrev nBz : List Str := ["value"]
abbrev pBz : List Str := ["value"]
theorem scBz : FnScope nBz pBz (defScope sBz) := ⟨rfl, rfl, rfl, by decide +kernel, rfl, by decide +kernel, by decide +kernel⟩
section
theorem ok_Bz (F : Fun K "by_size" "by_size" sBz f fd) (T : Bt mg) {uL : Tok} (mL : mg "LIMIT" = some (.int lim uL)) : FnOk P w K mg base CX0 1 f fd pBz (spBz) := by
  refine F.ok scBz (fun vs H Q E h => ?_) (fun cdv A outer s H vs Q E hr h => ?_)
  · obtain ⟨p, n, d, rfl, _⟩ := h
    rfl
  · obtain ⟨p, n, d, rfl, hp, h1, h2, h3, k⟩ := h
    refine ⟨_, (pss_one (ps_ret (pe_op op_fdivW (pe_op op_mulW (pe_op op_mulW (pe_ix ix_tup (pv 0) pe_int (fun _ _ => rfl)) (pe_glob (v := .int lim) (by rfl) mL ⟨_, rfl⟩)) (pe_glob (v := .int lim) (by rfl) mL ⟨_, rfl⟩)) (pe_ix ix_tup (pv 0) pe_int (fun _ _ => rfl))))), ?_⟩
    have l : lim = 10000000000000000000000000000000000000000 := rfl
    have n200 : n.natAbs < 2 ^ 200 := Nat.lt_of_le_of_lt h1 (by decide)
    have l200 : lim.natAbs < 2 ^ 200 := by decide
    have nl := wide_lt n200 l200
    refine ⟨_, rfl, p, _, _, .int n, rfl, rfl, SqT.of hp, rfl, _, _, rfl, rfl, wide_mul n200 l200 (by decide) (by decide) (by decide), _, _, rfl, rfl, wide_mul nl l200 (by decide) (by decide) (by decide), _, rfl, p, _, _, .int d, rfl, rfl, SqT.of hp, rfl, _, _, rfl, rfl, wide_div h3 (Nat.lt_of_le_of_lt h2 (show _ < 2 ^ 200 by decide)) (by decide) (by decide), k⟩
end
abbrev sOk : Stmt := top 110
abbrev nOk : List Str := ["value"]
abbrev pOk : List Str := ["value"]
theorem scOk : FnScope nOk pOk (defScope sOk) := ⟨rfl, rfl, rfl, by decide +kernel, rfl, by decide +kernel, by decide +kernel⟩
section
variable {fA_ : Addr} {fdA_ : FuncData}
theorem ok_Ok (F : Fun K "order_key" "order_key" sOk f fd) (T : Bt mg)
    (GA_ : FnOk P w K mg base CX0 1 fA_ fdA_ ["value"] (spBz)) (mA_ : mg "by_size" = some (.ref fA_)) (kA_ : PySem.W.keepIn K (.ref fA_) = true) (bA_ : Binds K fdA_ ["value"] []) : FnOk P w K mg base CX0 2 f fd pOk (spOk) := by
  refine F.ok scOk (fun vs H Q E h => ?_) (fun cdv A outer s H vs Q E hr h => ?_)
  · obtain ⟨v, d, kd, rfl, _⟩ := h
    rfl
  · obtain ⟨v, d, kd, rfl, hd, vk, nn, k⟩ := h
    have hrA_ : Room (1) _ := hr.mono (by first | decide | omega)
    refine ⟨_, (pss_one (ps_ret (pe_ifExp (pt_val (pe_callB call_isi (by rfl) T.isi boot_isinstance (pa_cons (pv 0) (pa_cons (pe_bltn (v := .ty "tuple") (by rfl) T.tuple boot_tuple rfl) pa_nil)))) (pe_call GA_ hrA_ (by rfl) mA_ kA_ bA_ .nil pass0 (pa_cons (pv 0) pa_nil)) (pv 0)))), ?_⟩
    cases vk with
    | non => exact absurd rfl nn
    | num rt h1 h2 =>
      rename_i n d
      obtain ⟨a, rfl, e⟩ := num_at hd
      have ty : TyN H (.ref a) "tuple" := .tup e
      refine ⟨_, rfl, .ref a, .ty "tuple", _, _, _, rfl, .ty "tuple", ty.x, kit_tuple ty.mem, _, rfl, iteT ⟨_, rfl, a, n, d, rfl, e, h1, h2, rt_pos rt, k (.int (bySz n d)) (.inl ⟨_, rfl, rfl⟩)⟩⟩
    | flag b =>
      cases hd
      have ty : TyN H (.bl b) "bool" := .bl b
      refine ⟨_, rfl, .bl b, .ty "tuple", _, _, _, rfl, .ty "tuple", ty.x, kit_tuple ty.mem, _, rfl, iteF ⟨_, rfl, k (.bl b) (.inr (.inr ⟨_, rfl, rfl⟩))⟩⟩
    | word sh nm =>
      rename_i x
      cases hd
      have ty : TyN H (.str x) "str" := .str x
      refine ⟨_, rfl, .str x, .ty "tuple", _, _, _, rfl, .ty "tuple", ty.x, kit_tuple ty.mem, _, rfl, iteF ⟨_, rfl, k (.str x) (.inr (.inl ⟨_, rfl, rfl⟩))⟩⟩
end
abbrev lamSc : Scope := ⟨.function, [("row", .local), ("at", .free), ("order_key", .globalImplicit)], false, false, []⟩
theorem nfsSr : ∀ y ∈ (["at"] : List Str), (y, NameKind.free) ∈ lamSc.names := by decide +kernel
theorem nscSr : NScope ["row", "at"] ["row"] ["at"] lamSc := nscope_by (by decide +kernel)
abbrev sSr : Stmt := top 111
abbrev nSr : List Str := ["tables", "table", "step", "word", "name", "order", "at", "present", "row", "missing"]
abbrev pSr : List Str := ["tables", "table", "step"]
theorem scSr : FnScope nSr pSr (defScope sSr) := ⟨rfl, rfl, rfl, by decide +kernel, rfl, by decide +kernel, by decide +kernel⟩
theorem nfrSr : ∀ y ∈ lamSc.names, y.2 = .free → (defScope sSr).names.lookup y.1 = some .cell ∨ (defScope sSr).names.lookup y.1 = some .free := by decide +kernel
section
variable {fA_ fB_ : Addr} {fdA_ fdB_ : FuncData}
theorem ok_Sr (F : Fun K "sorted_rows" "sorted_rows" sSr f fd) (T : Bt mg) {C : Addr} (M : TbM P w K mg base C) {c0 P0 : Addr} (hc0 : fd.code = .ref c0) (TB : TabB base mg c0 P0) (mS : mg "sorted" = none)
    (GA_ : FnOk P w K mg base CX0 1 fA_ fdA_ ["columns"] (spNo)) (mA_ : mg "names_of" = some (.ref fA_)) (kA_ : PySem.W.keepIn K (.ref fA_) = true) (bA_ : Binds K fdA_ ["columns"] [])
    (GB_ : FnOk P w K mg base CX0 2 fB_ fdB_ ["value"] (spOk)) (mB_ : mg "order_key" = some (.ref fB_)) (kB_ : PySem.W.keepIn K (.ref fB_) = true) (bB_ : Binds K fdB_ ["value"] []) : FnOk P w K mg base CX0 6 f fd pSr ((spSr C P0)) := by
  refine Lc.Fun.okc F hc0 scSr (fun vs H Q E h => ?_) (fun A outer s H vs Q E hr h => ?_)
  · obtain ⟨tb, a, cv, p, ps, x, u, rs, rfl, _⟩ := h
    rfl
  · obtain ⟨tb, a, cv, p, ps, x, u, rs, rfl, hT, hI, hL, cp, rw_, ln, hd, hx, k⟩ := h
    have hrA_ : Room (1) _ := hr.mono (by first | decide | omega)
    have hrB_ : Room (2) _ := hr.mono (by first | decide | omega)
    obtain ⟨fI, fdI, GI, FI, bI⟩ := M.i
    obtain ⟨fC, fdC, hC, FC, bC⟩ := M.c
    obtain ⟨fR, fdR, hR, FR, bR⟩ := M.r
    have hr1 : Room 1 _ := hr.mono (by omega)
    have hrS : Room 5 _ := hr.mono (by decide)
    refine ⟨_, (pss_cons (ps_asg (pv 2) (pg_tup rfl (pgs_cons (pg_name (i := 3) scSr.nd rfl (.inl rfl)) (pgs_cons (pg_name (i := 4) scSr.nd rfl (.inl rfl)) (pgs_cons (pg_name (i := 5) scSr.nd rfl (.inl rfl)) pgs_nil)))))
      (pss_cons (ps_set (i := 6) scSr.nd rfl (Or.inr rfl) (pe_bm PySem.F.plainAttrs_list PySem.F.slot_list_index PySem.F.type_list_index mt_index (pe_call GA_ hrA_ (by rfl) mA_ kA_ bA_ .nil pass0 (pa_cons (pe_meth0 (pv 1) GI.cls hC FC hr1 bC .nil pass0) pa_nil)) (pa_cons (pv 4) pa_nil)))
      (pss_cons (ps_setLc (i := 7) (own := [("row", 8)]) (g := (gName 8)) (tt := ttP K) (te := tVar 8) (by rfl) scSr.nd rfl rfl (sw_true rfl rfl rfl (by decide +kernel)) (pi_list (pe_meth0 (pv 1) GI.cls hR FR hr1 bR .nil pass0)) (blkOk_by (own := [("row", 8)]) (N := nSr) (sc := defScope sSr) (by decide +kernel)) (fun _ _ _ _ _ => (pg_name (i := 8) scSr.nd rfl (.inl rfl))) (fun _ _ _ _ _ => (pts_one (pt_cmpR op_notN1 (pe_ix ix_tup (pe_ix ix_tup (pv 8) pe_int (fun _ _ => rfl)) (pv 6) (fun _ _ => rfl)) pe_non (nomark _)))) (fun _ _ _ _ _ => (pv 8)))
      (pss_cons (ps_setLc (i := 9) (own := [("row", 8)]) (g := (gName 8)) (tt := ttM K) (te := tVar 8) (by rfl) scSr.nd rfl rfl (sw_true rfl rfl rfl (by decide +kernel)) (pi_list (pe_meth0 (pv 1) GI.cls hR FR hr1 bR .nil pass0)) (blkOk_by (own := [("row", 8)]) (N := nSr) (sc := defScope sSr) (by decide +kernel)) (fun _ _ _ _ _ => (pg_name (i := 8) scSr.nd rfl (.inl rfl))) (fun _ _ _ _ _ => (pts_one (pt_cmpR op_isN1 (pe_ix ix_tup (pe_ix ix_tup (pv 8) pe_int (fun _ _ => rfl)) (pv 6) (fun _ _ => rfl)) pe_non (nomark _)))) (fun _ _ _ _ _ => (pv 8)))
      (Evl.pss_cut (ps_if (pt_cmpR op_eq (pv 5) pe_str (nomark _)) (pss_one (ps_set (i := 7) scSr.nd rfl (Or.inl rfl) (pe_sortLamR (T := lamT P0) (js := [6]) TB rfl lamM lamU hrS nscSr nfrSr nfsSr rfl (by rfl) mS (pa_cons (pv 7) pa_nil) (fun c A outer s H f hr => pe_call GB_ (hr.mono (by decide)) (by rfl) mB_ kB_ bB_ .nil pass0 (pa_cons (pe_ix (r := rIxT K) ix_tup (pe_ix (r := rIxT K) ix_tup (pe_var (i := 0) rfl (.inl rfl)) pe_int (fun _ _ => rfl)) (pe_var (i := 1) rfl (.inr (.inr rfl))) (fun _ _ => rfl)) pa_nil))))) (pss_one (ps_set (i := 7) scSr.nd rfl (Or.inl rfl) (pe_sortLam (T := lamT P0) (js := [6]) TB rfl lamM lamU hrS nscSr nfrSr nfsSr rfl (by rfl) mS (pa_cons (pv 7) pa_nil) (fun c A outer s H f hr => pe_call GB_ (hr.mono (by decide)) (by rfl) mB_ kB_ bB_ .nil pass0 (pa_cons (pe_ix (r := rIxT K) ix_tup (pe_ix (r := rIxT K) ix_tup (pe_var (i := 0) rfl (.inl rfl)) pe_int (fun _ _ => rfl)) (pe_var (i := 1) rfl (.inr (.inr rfl))) (fun _ _ => rfl)) pa_nil))))))
      (pss_one (ps_ret (pe_op op_cat (pv 7) (pv 9))))))))), ?_⟩
    obtain ⟨v, e1, dv⟩ := dh3 hd
    cases dv
    obtain ⟨kd, KD⟩ := val_at hx
    obtain ⟨xs0, zL, cc⟩ := id hL
    obtain ⟨dx, bv, h1, h2, h3⟩ := id hI
    have fl : (vS (nms ps)).all flatV = true := List.all_eq_true.mpr fun v hv => by
      obtain ⟨x, _, rfl⟩ := List.mem_map.mp hv
      rfl
    refine ⟨_, rfl, p, _, rfl, SqT.of e1, rfl, _, _, rfl, _, _, rfl, _, _, rfl, rfl, ?_⟩
    dsimp only [gNil]
    refine ⟨_, rfl, a, dx, _, rfl, h1, rfl, a, cv, rs, rfl, hI, cv, ps, rfl, hL, cp.l8, fun W Hw sW hW eW => ⟨.inl ⟨rfl, _, SqL.of eW⟩, _, rfl, W, vS (nms ps), .str x, (nms ps).idxOf x, .str x, rfl, rfl, SqL.of eW, rfl, fl, by rw [List.getElem?_map, idx_at hx]; rfl, by simp [eqV], fun m z' lt ez => ?_, _, rfl, ?_⟩⟩
    · rw [List.getElem?_map] at ez
      obtain ⟨z, ez2, rfl⟩ := Option.map_eq_some_iff.mp ez
      have := idx_no lt ez2
      simp [eqV, this]
    refine ⟨a, dx, _, rfl, sW _ _ h1, rfl, a, cv, rs, rfl, hI.same sW, fun l hl => ?_⟩
    have zl := Same.upd (o := .lst (rs.map (·.1))) hl
    have el : L2.upd Hw l (.lst (rs.map (·.1))) l = some (.lst (rs.map (·.1))) := upd_same
    have sl := sW.trans zl
    generalize L2.upd Hw l (.lst (rs.map (·.1))) = H1 at zl el sl  ⊢
    refine ⟨l, rfl, ⟨_, SqL.of el⟩, fun D hD => lc_list (K := K) (a := l) (xs := rs.map (·.1)) (fun i H' => H' D = some (.lst (((rs.take i).filter fun r => there ps x r).map (·.1))) ∧ Same H1 H') ⟨upd_same, Same.upd hD⟩ (fun i H' _ pr => SqL.of (pr.2 _ _ el)) ?_ ?_⟩
    · rintro i y H2 hy ⟨eD, s2⟩
      rw [List.getElem?_map] at hy
      obtain ⟨r, er, rfl⟩ := Option.map_eq_some_iff.mp hy
      have rm := List.mem_of_getElem? er
      obtain ⟨ra, va, la, xs, z, ev, e2, eu, ez, dz, vk⟩ := KD (((h3 r rm).same (sl.trans s2))) (rw_ r.2 (List.mem_map_of_mem rm)).1
      rw [ev]
      refine ⟨rfl, ?_⟩
      change ttP K _ _ _
      refine ⟨_, rfl, ra, _, _, .ref va, rfl, rfl, SqT.of e2, at_of (j := 0) rfl rfl, _, rfl, va, xs, _, z, rfl, rfl, SqT.of eu, at_of rfl ez, rfl, _, rfl, ?_⟩
      have tk : (rs.take (i + 1)).filter (fun r => there ps x r) = ((rs.take i).filter fun r => there ps x r) ++ ([r].filter fun r => there ps x r) := by rw [List.take_add_one, er, List.filter_append]; rfl
      rw [dh_isN dz]
      have nl : ((rs.take i).filter fun r => there ps x r).length ≤ 1000 := Nat.le_trans (List.length_filter_le _ _) (by rw [List.length_take]; omega)
      cases q : isN (valAt ps x r.2) with
      | false =>
        refine iteT ⟨_, rfl, _, eD, lt_size (by rw [List.length_map]; omega), ?_, fun b' o e => by rw [upd_ne (ne_of_none e hD)]; exact s2 b' o e⟩
        rw [upd_same, tk, show [r].filter (fun r => there ps x r) = [r] from List.filter_cons_of_pos (by simp [there, q]), List.map_append, ← ev]
        rfl
      | true =>
        refine iteF ⟨?_, s2⟩
        rw [eD, tk, show [r].filter (fun r => there ps x r) = [] from List.filter_cons_of_neg (by simp [there, q]), List.append_nil]
    rintro H2 ⟨eD, s2⟩
    rw [List.length_map, List.take_length] at eD
    have t2 := sl.trans s2
    refine ⟨_, rfl, ?_⟩
    refine ⟨a, dx, _, rfl, t2 _ _ h1, rfl, a, cv, rs, rfl, hI.same t2, fun m hm => ?_⟩
    have zm := Same.upd (o := .lst (rs.map (·.1))) hm
    have em : L2.upd H2 m (.lst (rs.map (·.1))) m = some (.lst (rs.map (·.1))) := upd_same
    have sm := t2.trans zm
    have eD3 := zm _ _ eD
    generalize L2.upd H2 m (.lst (rs.map (·.1))) = H3 at zm em sm eD3 ⊢
    refine ⟨m, rfl, ⟨_, SqL.of em⟩, fun E1 hE1 => lc_list (K := K) (a := m) (xs := rs.map (·.1)) (fun i H' => H' E1 = some (.lst (((rs.take i).filter fun r => !there ps x r).map (·.1))) ∧ Same H3 H') ⟨upd_same, Same.upd hE1⟩ (fun i H' _ pr => SqL.of (pr.2 _ _ em)) ?_ ?_⟩
    · rintro i y H2 hy ⟨eD, s2⟩
      rw [List.getElem?_map] at hy
      obtain ⟨r, er, rfl⟩ := Option.map_eq_some_iff.mp hy
      have rm := List.mem_of_getElem? er
      obtain ⟨ra, va, la, xs, z, ev, e2, eu, ez, dz, vk⟩ := KD (((h3 r rm).same (sm.trans s2))) (rw_ r.2 (List.mem_map_of_mem rm)).1
      rw [ev]
      refine ⟨rfl, ?_⟩
      change ttM K _ _ _
      refine ⟨_, rfl, ra, _, _, .ref va, rfl, rfl, SqT.of e2, at_of (j := 0) rfl rfl, _, rfl, va, xs, _, z, rfl, rfl, SqT.of eu, at_of rfl ez, rfl, _, rfl, ?_⟩
      have tk : (rs.take (i + 1)).filter (fun r => !there ps x r) = ((rs.take i).filter fun r => !there ps x r) ++ ([r].filter fun r => !there ps x r) := by rw [List.take_add_one, er, List.filter_append]; rfl
      rw [dh_isN dz]
      have nl : ((rs.take i).filter fun r => !there ps x r).length ≤ 1000 := Nat.le_trans (List.length_filter_le _ _) (by rw [List.length_take]; omega)
      cases q : isN (valAt ps x r.2) with
      | true =>
        refine iteT ⟨_, rfl, _, eD, lt_size (by rw [List.length_map]; omega), ?_, fun b' o e => by rw [upd_ne (ne_of_none e hE1)]; exact s2 b' o e⟩
        rw [upd_same, tk, show [r].filter (fun r => !there ps x r) = [r] from List.filter_cons_of_pos (by simp [there, q]), List.map_append, ← ev]
        rfl
      | false =>
        refine iteF ⟨?_, s2⟩
        rw [eD, tk, show [r].filter (fun r => !there ps x r) = [] from List.filter_cons_of_neg (by simp [there, q]), List.append_nil]
    rintro H4 ⟨eE, s4⟩
    rw [List.length_map, List.take_length] at eE
    have t4 := sm.trans s4
    have eD4 := s4 _ _ eD3
    have s04 := t4
    have hT4 := hT.ext s04
    have hb : ∀ y ∈ (rs.filter fun r => there ps x r), Vk kd (valAt ps x y.2) ∧ isN (valAt ps x y.2) = false := fun y hy => by
      obtain ⟨h5, h6⟩ := List.mem_filter.mp hy
      obtain ⟨_, _, _, _, _, _, _, _, _, _, vk⟩ := KD (h3 y h5) (rw_ y.2 (List.mem_map_of_mem h5)).1
      exact ⟨vk, by simpa [there] using h6⟩
    have hbk : ∀ z ∈ ((rs.filter fun r => there ps x r).map fun r => (r.1, kyD (valAt ps x r.2))), ∃ y ∈ (rs.filter fun r => there ps x r), z = (y.1, kyD (valAt ps x y.2)) := fun z hz => by
      obtain ⟨y, hy, rfl⟩ := List.mem_map.mp hz
      exact ⟨y, hy, rfl⟩
    have srt : ∀ b : Bool, b = !u → ∀ Q' : VK, (∀ (S : Addr) (H' : Hp), ExtN H4 H' → Tabs (lamT P0) H' → H' S = some (.lst ((((rs.filter fun r => there ps x r).mergeSort (rowLe ps x u))).map (·.1))) → Q' (.ref S) H') → tSortL K (lamT P0) b ["row", "at"] [6] (tVar 7) (tCall spOk [] C8.E0 (tCons (tOp (rIxT K) (tOp (rIxT K) (tVar 0) (tC (.int 0))) (tVar 1)) tNil))
        [some tb, some (.ref a), some (.ref p), some (.str "sort"), some (.str x), some (.str (updn u)), some (.int ((nms ps).idxOf x : Nat)), some (.ref D), none, some (.ref E1)] H4
        Q' := by
      rintro b rfl Q' k'
      refine ⟨_, rfl, hT4, fun H5 n5 t5 => ⟨D, (rs.filter fun r => there ps x r).map fun r => (r.1, kyD (valAt ps x r.2)), rfl, ?_, ?_, ?_, ?_, ?_, ?_⟩⟩
      · rw [List.map_map]
        exact SqL.of (n5 _ _ eD4 nofun)
      · intro d hd d' hd'
        obtain ⟨z, hz, rfl⟩ := List.mem_map.mp hd
        obtain ⟨z', hz', rfl⟩ := List.mem_map.mp hd'
        obtain ⟨y, hy, rfl⟩ := hbk z hz
        obtain ⟨y', hy', rfl⟩ := hbk z' hz'
        exact kyD_alike (hb y hy).1 (hb y' hy').1 (hb y hy).2 (hb y' hy').2
      · refine .inr fun d hd => ?_
        obtain ⟨z, hz, rfl⟩ := List.mem_map.mp hd
        obtain ⟨y, hy, rfl⟩ := hbk z hz
        exact (kyD_flat (hb y hy).1 (hb y hy).2).1
      · intro z hz
        obtain ⟨y, hy, rfl⟩ := hbk z hz
        exact (kyD_flat (hb y hy).1 (hb y hy).2).2
      · intro z hz
        obtain ⟨y, hy, rfl⟩ := hbk z hz
        have hm := (List.mem_filter.mp hy).1
        obtain ⟨ra, va, la, xs, z, ev, e2, eu, ez, dz, vk⟩ := KD ((h3 y hm).same s04) (rw_ y.2 (List.mem_map_of_mem hm)).1
        have nn : valAt ps x y.2 ≠ .none := fun q => by
          have := (hb y hy).2
          rw [q] at this
          exact absurd this (by decide)
        have dz5 := Dh.n n5 dz
        rw [ev]
        exact ⟨_, rfl, ra, _, _, .ref va, rfl, rfl, SqT.of (n5 _ _ e2 nofun), at_of (j := 0) rfl rfl, _, rfl, va, xs, _, z, rfl, rfl, SqT.of (n5 _ _ eu nofun), at_of rfl ez, z, _, kd, rfl, dz5, vk, nn, fun v kv => ⟨rfl, kv⟩⟩
      · intro q hq
        refine k' q _ (n5.trans (ExtN.of (Same.upd hq))) (t5.ext (Same.upd hq)) ?_
        rw [upd_same, sorted_keys]
        rfl
    refine ⟨fun σ' H' => ∃ S, σ' = [some tb, some (.ref a), some (.ref p), some (.str "sort"), some (.str x), some (.str (updn u)), some (.int ((nms ps).idxOf x : Nat)), some (.ref S), none, some (.ref E1)] ∧ ExtN H4 H' ∧ Tabs (lamT P0) H' ∧ H' S = some (.lst ((((rs.filter fun r => there ps x r).mergeSort (rowLe ps x u))).map (·.1))), ?_, ?_⟩
    · refine ⟨_, rfl, rfl, _, rfl, ?_⟩
      cases u with
      | true =>
        rw [show decide (V.str (updn true) = V.str "down") = false by decide +kernel]
        refine iteF ?_
        exact srt false rfl _ fun S H' n5 t5 e5 => ⟨S, rfl, n5, t5, e5⟩
      | false =>
        rw [show decide (V.str (updn false) = V.str "down") = true by decide +kernel]
        refine iteT ?_
        exact srt true rfl _ fun S H' n5 t5 e5 => ⟨S, rfl, n5, t5, e5⟩
    · rintro σ' H5 ⟨S, rfl, n5, t5, eS⟩
      refine ⟨_, rfl, _, rfl, S, E1, _, _, rfl, rfl, eS, n5 _ _ eE nofun, ?_, fun q hq => ?_⟩
      · rw [List.length_map, List.length_map, List.length_mergeSort]
        have h6 := List.length_filter_le (fun r => there ps x r) rs
        have h7 := List.length_filter_le (fun r => !there ps x r) rs
        exact Nat.le_trans (show _ ≤ 2000 by omega) (by decide)
      · refine k q _ (((ExtN.of s04).trans n5).trans (ExtN.of (Same.upd hq))) (t5.ext (Same.upd hq)) ?_
        rw [upd_same, ← List.map_append]
        rfl
end
end
end K17
set_option Elab.async false
set_option linter.all false
set_option maxRecDepth 100000
set_option maxHeartbeats 4000000
namespace K17
open PySem PySem.Spec PyProof.Rows L2 Lc
open LamX
/-! ## run -/
/-- a dict comprehension over a dict's keys -/
theorem dc_keys {d : Addr} {o : Obj} {kvs0 : List (Key × V)} {g : TG} {tt : TT} {tk tv : TE} {vs : List Nat} {σ : L2.St} {H1 : Hp} {D : Addr} {Qd : Hp → Prop} (Pv : Nat → Hp → Prop) (h0 : Pv 0 (L2.upd H1 D (.dK []))) (hl : ∀ i H, i ≤ kvs0.length → Pv i H → H d = some (.frz o (.dK kvs0)))
    (hs : ∀ i k0 v0 H, kvs0[i]? = some (k0, v0) → Pv i H → g (kV k0) (wipe σ vs) H fun σ2 H2 => wipe σ2 vs = wipe σ vs ∧ tt σ2 H2 fun b H3 =>
      if b = true then tk σ2 H3 fun y H4 => tv σ2 H4 fun z H5 => ∃ kvs k, y = kV k ∧ H5 D = some (.dK kvs) ∧ kvs.length < sizeLine ∧ Pv (i + 1) (L2.upd H5 D (.dK (putK kvs k z))) else Pv (i + 1) H3) (hd : ∀ H, Pv kvs0.length H → Qd H) :
    ∃ W : Nat → Nat → Hp → Prop, (∃ m, W 0 m (L2.upd H1 D (.dK []))) ∧ ∀ i m H, W i m H →
      ((Itk d o kvs0).stop i H ∧ Qd H) ∨ ((Itk d o kvs0).go i H ∧ ∃ Nx : Hp → Prop, (∀ H', Nx H' → ∃ m', m' < m ∧ W (i + 1) m' H') ∧ ∀ x H', (Itk d o kvs0).yld i H x H' → g x (wipe σ vs) H' fun σ2 H2 => wipe σ2 vs = wipe σ vs ∧ tt σ2 H2 fun b H3 =>
        if b = true then tk σ2 H3 fun y H4 => tv σ2 H4 fun z H5 => ∃ kvs k, y = kV k ∧ H5 D = some (.dK kvs) ∧ kvs.length < sizeLine ∧ Nx (L2.upd H5 D (.dK (putK kvs k z))) else Nx H3) := by
  refine ⟨fun i m H => m = kvs0.length - i ∧ i ≤ kvs0.length ∧ Pv i H, ⟨kvs0.length, by simp, Nat.zero_le _, h0⟩, ?_⟩
  rintro i m H ⟨rfl, hi, p⟩
  have q := hl i H hi p
  by_cases hlt : i < kvs0.length
  · refine .inr ⟨⟨q, hlt⟩, Pv (i + 1), fun H' p' => ⟨kvs0.length - (i + 1), by omega, rfl, hlt, p'⟩, fun x H' y => ?_⟩
    obtain ⟨e, k0, v0, e2, e3⟩ := y
    subst e
    subst e3
    exact hs i k0 v0 _ e2 p
  · have e : i = kvs0.length := by omega
    subst e
    exact .inl ⟨⟨q, Nat.le_refl _⟩, hd H p⟩
/-! ## resolved, and run -/
inductive StepsAt (H : Hp) : List V → List Ps → Prop
  | nil : StepsAt H [] []
  | cons {a : Addr} {ys : List V} {st : Ps} {sts : List Ps} (h : Dh H (.ref a) st.d) (r : StepsAt H ys sts) : StepsAt H (.ref a :: ys) (st :: sts)
theorem StepsAt.same {H H' : Hp} (s : Same H H') : ∀ {ys : List V} {sts : List Ps}, StepsAt H ys sts → StepsAt H' ys sts
  | _, _, .nil => .nil
  | _, _, .cons h r => .cons (h.same s) (r.same s)
theorem StepsAt.len {H : Hp} : ∀ {ys : List V} {sts : List Ps}, StepsAt H ys sts → ys.length = sts.length
  | _, _, .nil => rfl
  | _, _, .cons h r => by rw [List.length_cons, List.length_cons, r.len]
theorem StepsAt.get {H : Hp} : ∀ {ys : List V} {sts : List Ps}, StepsAt H ys sts → ∀ {i : Nat} {y : V}, ys[i]? = some y → ∃ a st, sts[i]? = some st ∧ y = .ref a ∧ Dh H (.ref a) st.d
  | _, _, .nil, i, y, e => by simp at e
  | _, _, .cons h r, 0, y, e => by
    cases e
    exact ⟨_, _, rfl, rfl, h⟩
  | _, _, .cons h r, i + 1, y, e => by
    obtain ⟨a, st, e1, e2⟩ := r.get (i := i) (by simpa using e)
    exact ⟨a, st, by simpa using e1, e2⟩
theorem StepsAt.snoc {H : Hp} {a : Addr} {st : Ps} : ∀ {ys : List V} {sts : List Ps}, StepsAt H ys sts → Dh H (.ref a) st.d → StepsAt H (ys ++ [.ref a]) (sts ++ [st])
  | _, _, .nil, g => .cons g .nil
  | _, _, .cons h r, g => .cons h (r.snoc g)
def spRes : Sp := fun vs H Q _ => ∃ (p sv : Addr) (S : V) (src : Str) (ys : List V) (sts : List Ps), vs = [.ref p, S] ∧ H p = some (.tup [.str src, .ref sv]) ∧ H sv = some (.tup ys) ∧ StepsAt H ys sts ∧ ys.length ≤ 10 ∧
  ∀ (q tv : Addr) (H' : Hp), Same H H' → H' q = some (.tup [.str src, .ref tv]) → H' tv = some (.tup ys) → Q (.ref q) H'
theorem not_choose : ∀ st : Ps, st.w ≠ "choose"
  | .sort _ _ => by show ("sort" : Str) ≠ "choose"; decide +kernel
structure RbA (P : Program) (w : World) (K : PySem.W.Frag) (mg : Str → Option Value) (base : Heap) (C P0 rA g : Addr) : Prop where
  gr : mg "ROWS_BEHIND" = some (.ref rA)
  d : KDct K w rA "sort" (.ref g)
  h : Held P w K mg base 16 g (spSr C P0)
def spOf (C P0 g q : Addr) : Option Sp := if q = g then some (spSr C P0) else none
theorem spOf_at {C P0 g : Addr} : spOf C P0 g g = some (spSr C P0) := if_pos rfl
/-- a table's rows behind steps -/
def srtAll (ps : CsL) : RowsL → List Ps → RowsL
  | rs, [] => rs
  | rs, .sort x u :: sts => srtAll ps (srtR ps x u rs) sts
def StepN (ps : CsL) : Ps → Prop
  | .sort x _ => x ∈ nms ps
theorem srtR_perm (ps : CsL) (x : Str) (u : Bool) (rs : RowsL) : (srtR ps x u rs).Perm rs := by
  unfold srtR
  exact ((List.mergeSort_perm _ _).append_right _).trans (List.filter_append_perm (fun r => there ps x r) rs)
theorem srtR_len {ps : CsL} {x : Str} {u : Bool} {rs : RowsL} : (srtR ps x u rs).length = rs.length := (srtR_perm ps x u rs).length_eq
theorem srtR_w {ps : CsL} {x : Str} {u : Bool} {rs : RowsL} (h : RowW ps (rs.map (·.2))) : RowW ps ((srtR ps x u rs).map (·.2)) := fun r hr => by
  obtain ⟨y, hy, rfl⟩ := List.mem_map.mp hr
  exact h _ (List.mem_map_of_mem ((srtR_perm ps x u rs).mem_iff.mp hy))
theorem srtR_at {ps : CsL} {x : Str} {u : Bool} {rs : RowsL} {H : Hp} (h : RowsAt H rs) : RowsAt H (srtR ps x u rs) := fun r hr => h r ((srtR_perm ps x u rs).mem_iff.mp hr)
theorem RowsAt.n {H H' : Hp} {rs : RowsL} (s : ExtN H H') (h : RowsAt H rs) : RowsAt H' rs := fun r hr => Dh.n s (h r hr)
theorem IsTb.n {C : Addr} {H H' : Hp} {a cv : Addr} {rs : RowsL} (s : ExtN H H') (h : IsTb C H a cv rs) : IsTb C H' a cv rs := by
  obtain ⟨dx, bv, h1, h2, h3⟩ := h
  exact ⟨dx, bv, s _ _ h1 nofun, s _ _ h2 nofun, RowsAt.n s h3⟩
theorem CA.n {H H' : Hp} {L : Addr} {ps : CsL} (s : ExtN H H') (h : CA H L ps) : CA H' L ps := by
  obtain ⟨xs, ⟨ob, c, d, e⟩, cc⟩ := h
  exact ⟨xs, ⟨ob, c, d, s _ _ e nofun⟩, cc.t fun b ys e => s _ _ e nofun⟩
theorem StepsAt.n {H H' : Hp} (s : ExtN H H') : ∀ {ys : List V} {sts : List Ps}, StepsAt H ys sts → StepsAt H' ys sts
  | _, _, .nil => .nil
  | _, _, .cons h r => .cons (Dh.n s h) (StepsAt.n s r)
def TabsAt (C : Addr) (H : Hp) (kvs : List (Key × V)) : Prop := ∀ kv ∈ kvs, ∃ (z : Str) (a cv : Addr) (rs : RowsL), kv = ((Sum.inr z : Key), .ref a) ∧ IsTb C H a cv rs ∧ RowsOk rs ∧ valV kvs (Sum.inr z : Key) = some (.ref a)
def spRun (C P0 : Addr) : Sp := fun vs H Q _ => ∃ (D a cv p sv : Addr) (src : Str) (kvs : List (Key × V)) (rs : RowsL) (ps : CsL) (ys : List V) (sts : List Ps), vs = [.ref D, .ref p, .non] ∧ H D = some (.dK kvs) ∧ Tabs (lamT P0) H ∧ TabsAt C H kvs ∧ kvs.length ≤ 4 ∧ valV kvs (Sum.inr src : Key) = some (.ref a) ∧ IsTb C H a cv rs ∧ CA H cv ps ∧ ColP ps ∧ RowW ps (rs.map (·.2)) ∧ rs.length ≤ 1000 ∧ H p = some (.tup [.str src, .ref sv]) ∧ H sv = some (.tup ys) ∧ StepsAt H ys sts ∧ (∀ st ∈ sts, StepN ps st) ∧ ys.length ≤ 10 ∧
  ∀ (a' cv' : Addr) (H' : Hp), ExtN H H' → Tabs (lamT P0) H' → IsTb C H' a' cv' (srtAll ps rs sts) → CA H' cv' ps → Q (.ref a') H'
section
variable {P : Program} {w : World} {K : PySem.W.Frag} {mg : Str → Option Value} {base : Heap} {f : Addr} {fd : FuncData}
abbrev sRes : Stmt := top 100
abbrev nRes : List Str := ["pipeline", "setting", "source", "steps", "plain", "step", "index"]
abbrev pRes : List Str := ["pipeline", "setting"]
theorem scRes : FnScope nRes pRes (defScope sRes) := ⟨rfl, rfl, rfl, by decide +kernel, rfl, by decide +kernel, by decide +kernel⟩
section
theorem ok_Res (F : Fun K "resolved" "resolved" sRes f fd) (T : Bt mg) : FnOk P w K mg base CX0 1 f fd pRes (spRes) := by
  refine F.ok scRes (fun vs H Q E h => ?_) (fun cdv A outer s H vs Q E hr h => ?_)
  · obtain ⟨p, sv, S, src, ys, sts, rfl, _⟩ := h
    rfl
  · obtain ⟨p, sv, S, src, ys, sts, rfl, hp, hs, ha, l10, k⟩ := h
    refine ⟨_, (pss_cons (ps_asg (pv 0) (pg_tup rfl (pgs_cons (pg_name (i := 2) scRes.nd rfl (.inl rfl)) (pgs_cons (pg_name (i := 3) scRes.nd rfl (.inl rfl)) pgs_nil))))
      (pss_cons (ps_set (i := 4) scRes.nd rfl (Or.inl rfl) (pe_lst pa_nil))
      (pss_cons (ps_for PassesOwn.never rfl (pi_tup (pv 3)) (pg_name (i := 5) scRes.nd rfl (.inl rfl)) (pss_one (ps_if (pt_cmpR op_eq (pe_ix ix_tup (pv 5) pe_int (fun _ _ => rfl)) pe_str (nomark _)) pss_dead (pss_one (ps_expr (pe_bm PySem.F.plainAttrs_list PySem.F.slot_list_append PySem.F.type_list_append mt_append (pv 4) (pa_cons (pv 5) pa_nil)))))))
      (pss_one (ps_ret (pe_tup (pa_cons (pv 2) (pa_cons (pe_callTy call_tuple_of (by rfl) T.tuple boot_tuple (pa_cons (pv 4) pa_nil)) pa_nil)))))))), ?_⟩
    refine ⟨_, rfl, p, _, rfl, SqT.of hp, rfl, _, _, rfl, _, _, rfl, rfl, ?_⟩
    dsimp only [gNil]
    refine ⟨by show 0 ≤ sizeLine; decide, fun L hL => ?_⟩
    have zL := Same.upd (o := .lst []) hL
    have eL : upd H L (.lst []) L = some (.lst []) := upd_same
    generalize upd H L (.lst []) = H1 at zL eL ⊢
    refine ⟨_, rfl, sv, rfl, ⟨_, SqT.of (zL _ _ hs)⟩, for_tup (K := K) (a := sv) (xs := ys) (fun i σ H' => (∃ x5 x6 : Option V, σ = [some (.ref p), some S, some (.str src), some (.ref sv), some (.ref L), x5, x6]) ∧ H' L = some (.lst (ys.take i)) ∧ Same H H') ⟨⟨_, _, rfl⟩, eL, zL⟩ (fun i σ H' _ pr => SqT.of (pr.2.2 _ _ hs)) ?_ ?_⟩
    · rintro i y σ H2 hy ⟨⟨x5, x6, rfl⟩, e2, s2⟩
      obtain ⟨a, st, e3, rfl, d3⟩ := ha.get hy
      obtain ⟨xs, e4, lx⟩ := ps_at d3
      have nc : ¬ (V.str st.w = V.str "choose") := fun h => not_choose st (by injection h)
      refine ⟨_, rfl, a, _, _, .str st.w, rfl, rfl, SqT.of (s2 _ _ e4), at_of (j := 0) rfl rfl, rfl, _, rfl, ?_⟩
      rw [decide_eq_false nc]
      have li := (List.getElem?_eq_some_iff.mp hy).1
      refine iteF ⟨_, rfl, .inl ⟨rfl, _, SqL.of e2⟩, _, rfl, L, _, _, rfl, rfl, e2, Nat.lt_of_le_of_lt (show (ys.take i).length ≤ 10 by rw [List.length_take]; omega) (by decide), ⟨⟨_, _, rfl⟩, ?_, fun b o e => by rw [upd_ne (ne_of_none e hL)]; exact s2 b o e⟩⟩
      rw [upd_same, List.take_add_one, hy]
      rfl
    · rintro σ H2 ⟨⟨x5, x6, rfl⟩, e2, s2⟩
      rw [List.take_length] at e2
      refine ⟨_, rfl, _, rfl, L, ys, rfl, .inl ⟨SqL.of e2, fun tv htv => ⟨by show 2 ≤ sizeLine; decide, fun q hq => ?_⟩⟩⟩
      have z1 := Same.upd (o := .tup ys) htv
      have z2 := Same.upd (o := .tup [.str src, .ref tv]) hq
      exact k q tv _ ((s2.trans z1).trans z2) upd_same (z2 _ _ upd_same)
end
abbrev sRun : Stmt := top 122
abbrev nRun : List Str := ["tables", "pipeline", "setting", "source", "steps", "shapes", "name", "table", "step", "follow", "rows"]
abbrev pRun : List Str := ["tables", "pipeline", "setting"]
theorem scRun : FnScope nRun pRun (defScope sRun) := ⟨rfl, rfl, rfl, by decide +kernel, rfl, by decide +kernel, by decide +kernel⟩
section
variable {fA_ fB_ : Addr} {fdA_ fdB_ : FuncData}
theorem ok_Run (F : Fun K "run" "run" sRun f fd) (T : Bt mg) {C : Addr} (M : TbM P w K mg base C) {P0 rA g : Addr} (A3 : RbA P w K mg base C P0 rA g)
    (GA_ : FnOk P w K mg base CX0 1 fA_ fdA_ ["pipeline", "setting"] (spRes)) (mA_ : mg "resolved" = some (.ref fA_)) (kA_ : PySem.W.keepIn K (.ref fA_) = true) (bA_ : Binds K fdA_ ["pipeline", "setting"] [])
    (GB_ : FnOk P w K mg base CX0 17 fB_ fdB_ ["tables", "columns", "step"] (spCb)) (mB_ : mg "columns_behind" = some (.ref fB_)) (kB_ : PySem.W.keepIn K (.ref fB_) = true) (bB_ : Binds K fdB_ ["tables", "columns", "step"] []) : FnOk P w K mg base CX0 18 f fd pRun ((spRun C P0)) := by
  refine F.ok scRun (fun vs H Q E h => ?_) (fun cdv A outer s H vs Q E hr h => ?_)
  · obtain ⟨D, a, cv, p, sv, src, kvs0, rs, ps, ys, sts, rfl, _⟩ := h
    rfl
  · obtain ⟨D, a, cv, p, sv, src, kvs0, rs, ps, ys, sts, rfl, hD, hTb, hT, l4, hv, hI, hL, cp, rw_, ln, hp, hs, ha, so, l10, k⟩ := h
    have ok := rw_.ok
    have hrA_ : Room (1) _ := hr.mono (by first | decide | omega)
    have hrB_ : Room (17) _ := hr.mono (by first | decide | omega)
    obtain ⟨fI, fdI, GI, FI, bI⟩ := M.i
    obtain ⟨fC, fdC, hC, FC, bC⟩ := M.c
    have hr1 : Room 1 _ := hr.mono (by decide)
    have hr2 : Room (1 + 1) _ := hr.mono (by decide)
    have hr3 : Room 16 _ := hr.mono (by decide)
    have AS : ∀ f sp, spOf C P0 g f = some sp → Held P w K mg base 16 f sp := fun f sp e => by
      unfold spOf at e
      by_cases z : f = g
      · subst z
        rw [if_pos rfl] at e
        obtain rfl := Option.some.inj e
        exact A3.h
      · rw [if_neg z] at e
        cases e
    refine ⟨_, (pss_cons (ps_asg (pe_call GA_ hrA_ (by rfl) mA_ kA_ bA_ .nil pass0 (pa_cons (pv 1) (pa_cons (pe_ifExp (pt_cmpR op_isN (pv 2) pe_non (nomark _)) pe_dnewK (pv 2)) pa_nil))) (pg_tup rfl (pgs_cons (pg_name (i := 3) scRun.nd rfl (.inl rfl)) (pgs_cons (pg_name (i := 4) scRun.nd rfl (.inl rfl)) pgs_nil))))
      (pss_cons (ps_lock (ps_setDc (i := 5) (own := [("name", 6)]) (g := (gName 6)) (tt := tYes) (tk := (tVar 6)) (tv := (tMeth C "columns" (spTC C) [] E0 (tDGet (tVar 0) (tVar 6)) tNil)) (by rfl) scRun.nd rfl rfl (sw_dict rfl rfl rfl (by decide +kernel)) (pi_keys (pv 0)) (blkOk_by (own := [("name", 6)]) (N := nRun) (sc := defScope sRun) (by decide +kernel)) (fun _ _ _ _ _ => (pg_name (i := 6) scRun.nd rfl (.inl rfl))) (fun _ _ _ _ _ => pts_nil) (fun _ _ _ _ _ => (pv 6)) (fun _ _ _ _ _ => (pe_meth0 (pe_dget (hu_of hr) (pv 0) (pv 6) (fun _ _ => rfl)) GI.cls hC FC hr1 bC .nil pass0))))
      (pss_cons (ps_set (i := 7) scRun.nd rfl (Or.inl rfl) (pe_dget (hu_of hr) (pv 0) (pv 3) (fun _ _ => rfl)))
      (pss_cons (ps_for PassesOwn.never rfl (pi_tup (pv 4)) (pg_name (i := 8) scRun.nd rfl (.inl rfl)) (pss_cons (ps_set (i := 9) scRun.nd rfl (Or.inl rfl) (pe_ix ix_kdict (pe_glob (v := .ref rA) (by rfl) A3.gr rfl) (pe_ix ix_tup (pv 8) pe_int (fun _ _ => rfl)) (fun _ _ => rfl)))
      (pss_cons (ps_set (i := 10) scRun.nd rfl (Or.inl rfl) (pe_callA (i := 9) AS hr3 rfl (Or.inl rfl) (pa_cons (pv 0) (pa_cons (pv 7) (pa_cons (pv 8) pa_nil)))))
      (pss_one (ps_set (i := 7) scRun.nd rfl (Or.inl rfl) (pe_make GI.mkC FI hr2 (by rfl) GI.gC bI .nil pass0 (pa_cons (pe_call GB_ hrB_ (by rfl) mB_ kB_ bB_ .nil pass0 (pa_cons (pv 5) (pa_cons (pe_meth0 (pv 7) GI.cls hC FC hr1 bC .nil pass0) (pa_cons (pv 8) pa_nil)))) (pa_cons (pv 10) pa_nil))))))))
      (pss_one (ps_ret (pv 7))))))), ?_⟩
    refine ⟨_, rfl, _, rfl, rfl, _, rfl, ?_⟩
    rw [show decide (V.non = V.non) = true from rfl]
    refine iteT ?_
    intro S0 hS0
    have z0 := Same.upd (o := .dK []) hS0
    refine ⟨p, sv, _, src, ys, sts, rfl, z0 _ _ hp, z0 _ _ hs, ha.same z0, l10, fun q tv H1 s1 eq etv => ?_⟩
    refine ⟨q, _, rfl, SqT.of eq, rfl, _, _, rfl, _, _, rfl, rfl, ?_⟩
    dsimp only [gNil]
    have s01 := z0.trans s1
    have hD1 := s01 _ _ hD
    refine ⟨D, _, hD1, trivial, fun od => ?_⟩
    have eD : L2.upd H1 D (.frz od (.dK kvs0)) D = some (.frz od (.dK kvs0)) := upd_same
    have hT2 : TabsAt C (L2.upd H1 D (.frz od (.dK kvs0))) kvs0 := fun kv hk => by
      obtain ⟨z, a, cv, rs, e, h, o, e2⟩ := hT kv hk
      exact ⟨z, a, cv, rs, e, (h.same s01).upd hD1 ⟨nofun, nofun⟩ o, o, e2⟩
    have oD : ∀ b o, b ≠ D → H1 b = some o → L2.upd H1 D (.frz od (.dK kvs0)) b = some o := fun b o n e => by rw [upd_ne n]; exact e
    generalize L2.upd H1 D (.frz od (.dK kvs0)) = H2 at eD hT2 oD ⊢
    refine ⟨_, rfl, D, od, rfl, .inl ⟨_, eD, fun S hS => dc_keys (d := D) (o := od) (kvs0 := kvs0) (fun i H' => (∃ kvs : List (Key × V), H' S = some (.dK kvs) ∧ kvs.length ≤ i) ∧ Same H2 H') ⟨⟨[], upd_same, Nat.le_refl _⟩, Same.upd hS⟩ (fun i H' _ pr => pr.2 _ _ eD) ?_ ?_⟩⟩
    · rintro i k0 v0 H3 hk ⟨⟨kvs, eS, lk⟩, s3⟩
      obtain ⟨z, a0, cv0, rs0, e0, h0, _, ev⟩ := hT2 _ (List.mem_of_getElem? hk)
      cases e0
      have li := (List.getElem?_eq_some_iff.mp hk).1
      refine ⟨rfl, ?_⟩
      dsimp only [tYes]
      refine iteT ?_
      have h3 := h0.same s3
      obtain ⟨dx, bv, h1, h2, _⟩ := id h3
      refine ⟨_, rfl, _, rfl, _, rfl, D, .ref a0, rfl, .inl ⟨_, Sum.inr z, .inr ⟨od, s3 _ _ eD⟩, rfl, ev.symm⟩, a0, dx, _, rfl, h1, rfl, a0, cv0, rs0, rfl, h3, kvs, Sum.inr z, rfl, eS, lt_size (by omega), ⟨_, upd_same, Nat.le_trans (length_putK _ _ _) (by omega)⟩, fun b o e => by rw [upd_ne (ne_of_none e hS)]; exact s3 b o e⟩
    rintro H3 ⟨⟨kvs, eS, _⟩, s3⟩
    refine ⟨s3 _ _ eD, ?_⟩
    have s14 : Same H1 (L2.upd H3 D (.dK kvs0)) := fun b o e => by
      by_cases hb : b = D
      · subst hb
        rw [upd_same]
        rw [hD1] at e
        exact e
      · rw [upd_ne hb]
        exact s3 _ _ (oD b o hb e)
    dsimp only
    generalize L2.upd H3 D (.dK kvs0) = H4 at s14 ⊢
    have s04 := s01.trans s14
    have hI4 := hI.same s04
    refine ⟨_, rfl, _, rfl, D, .ref a, rfl, ?_, ?_⟩
    · have q := DGet.k (k := (Sum.inr src : Key)) (s04 _ _ hD)
      rw [hv] at q
      exact q
    clear hT2 oD eD s3 eS
    have hTb4 := hTb.ext s04
    refine ⟨_, rfl, tv, rfl, ⟨_, SqT.of (s14 _ _ etv)⟩, for_tup (K := K) (a := tv) (xs := ys) (fun i σ H' => (∃ (ai cvi : Addr) (rsi : RowsL) (x6 x8 x9 x10 : Option V), σ = [some (.ref D), some (.ref p), some .non, some (.str src), some (.ref tv), some (.ref S), x6, some (.ref ai), x8, x9, x10] ∧ IsTb C H' ai cvi rsi ∧ CA H' cvi ps ∧ RowW ps (rsi.map (·.2)) ∧ rsi.length ≤ rs.length ∧ srtAll ps rsi (sts.drop i) = srtAll ps rs sts) ∧ ExtN H4 H' ∧ Tabs (lamT P0) H') ⟨⟨a, cv, rs, _, _, _, _, rfl, hI4, hL.same s04, rw_, Nat.le_refl _, rfl⟩, ExtN.refl _, hTb4⟩ (fun i σ H' _ pr => SqT.of (pr.2.1 _ _ (s14 _ _ etv) nofun)) ?_ ?_⟩
    · rintro i y σ H5 hy ⟨⟨ai, cvi, rsi, x6, x8, x9, x10, rfl, hI5, hL5, rw5, ln5, so5⟩, n5, t5⟩
      obtain ⟨b, st, e3, rfl, d3⟩ := (StepsAt.n ((ExtN.of s04).trans n5) ha).get hy
      obtain ⟨xs, e4, lx⟩ := ps_at d3
      have li := (List.getElem?_eq_some_iff.mp e3).1
      have sn := so st (List.mem_of_getElem? e3)
      rw [show sts.drop i = st :: sts.drop (i + 1) by rw [List.drop_eq_getElem_cons li]; obtain ⟨_, q⟩ := List.getElem?_eq_some_iff.mp e3; rw [q]] at so5
      cases st with
      | sort x u =>
      have sn : x ∈ nms ps := sn
      refine ⟨_, rfl, b, _, _, .str "sort", rfl, rfl, SqT.of e4, at_of (j := 0) rfl rfl, rA, "sort", _, rfl, rfl, A3.d, ?_⟩
      refine ⟨g, spSr C P0, rfl, spOf_at, _, rfl, _, rfl, _, rfl, .ref D, ai, cvi, b, ps, x, u, rsi, rfl, t5, hI5, hL5, cp, rw5, by omega, d3, sn, fun l H6 n6 t6 e6 => ?_⟩
      have hI6 := IsTb.n n6 hI5
      obtain ⟨dx, bv, h1, h2, h3⟩ := id hI6
      refine ⟨_, rfl, _, rfl, ai, dx, _, rfl, h1, rfl, ai, cvi, _, rfl, hI6, _, rfl, _, cvi, b, ps, ps, .sort x u, rfl, CA.n n6 hL5, cp, Dh.n n6 d3, .sort sn, fun cv7 H7 s7 hL7 => ⟨_, rfl, ?_⟩⟩
      dsimp only [tNil]
      refine mk_tb (.inl (s7 _ _ e6)) (srtR_at (RowsAt.same h3 s7)) (srtR_w rw5).ok fun a2 H8 s8 _ hI8 => ?_
      exact ⟨⟨a2, cv7, srtR ps x u rsi, _, _, _, _, rfl, hI8, hL7.same s8, srtR_w rw5, by rw [srtR_len]; exact ln5, so5⟩, n5.trans (n6.trans (ExtN.of (s7.trans s8))), t6.ext (s7.trans s8)⟩
    · rintro σ H5 ⟨⟨ai, cvi, rsi, x6, x8, x9, x10, rfl, hI5, hL5, rw5, ln5, so5⟩, n5, t5⟩
      rw [ha.len, List.drop_length] at so5
      have e5 : rsi = srtAll ps rs sts := so5
      rw [e5] at hI5
      exact ⟨_, rfl, k ai cvi H5 ((ExtN.of s04).trans n5) t5 hI5 hL5⟩
end
end
end K17
set_option Elab.async false
set_option linter.all false
namespace Lc
/-! ## a stable sort tells each item's rank -/
section
variable {α : Type} {le : α → α → Bool}
/-- a stands ahead of b: by the order, or by its place -/
def prc (le : α → α → Bool) (a b : α × Nat) : Bool := le a.1 b.1 && (!le b.1 a.1 || decide (a.2 < b.2))
theorem prc_self (a : α × Nat) : prc le a a = false := by
  unfold prc
  cases le a.1 a.1 <;> simp
theorem prc_asym {a b : α × Nat} (h : prc le a b = true) : prc le b a = false := by
  unfold prc at h ⊢
  cases h1 : le a.1 b.1 <;> cases h2 : le b.1 a.1 <;> simp [h1, h2] at h ⊢
  omega
theorem count_at {R : List (α × Nat)} (s : R.Pairwise fun a b => prc le a b = true) {p : Nat} {x : α × Nat} (e : R[p]? = some x) : (R.countP fun y => prc le y x) = p := by
  obtain ⟨hp, ex⟩ := List.getElem?_eq_some_iff.mp e
  have d : R = R.take p ++ x :: R.drop (p + 1) := by
    rw [← ex, ← List.drop_eq_getElem_cons hp, List.take_append_drop]
  rw [d] at s
  obtain ⟨s1, s2, s3⟩ := List.pairwise_append.mp s
  have s4 := (List.pairwise_cons.mp s2).1
  have c1 : ((R.take p).countP fun y => prc le y x) = p := by
    rw [List.countP_eq_length.mpr fun y hy => s3 y hy x List.mem_cons_self, List.length_take]
    omega
  have c2 : ((R.drop (p + 1)).countP fun y => prc le y x) = 0 := List.countP_eq_zero.mpr fun y hy z => by
    rw [prc_asym (s4 y hy)] at z
    cases z
  have key : ((R.take p ++ x :: R.drop (p + 1)).countP fun y => prc le y x) = p := by
    rw [List.countP_append, List.countP_cons, c1, c2, prc_self]
    rfl
  rw [← d] at key
  exact key
variable (trans : ∀ a b c, le a b = true → le b c = true → le a c = true) (total : ∀ a b, (le a b || le b a) = true)
include trans total
/-- the stable sort of tagged items, their tags rising -/
theorem sort_prc {l : List (α × Nat)} (h : l.Pairwise fun a b => a.2 < b.2) : (l.mergeSort fun a b => le a.1 b.1).Pairwise fun a b => prc le a b = true := by
  have nd : l.Nodup := h.imp fun {a b} q e => by rw [e] at q; omega
  have srt := List.pairwise_mergeSort (le := fun a b : α × Nat => le a.1 b.1) (fun a b c => trans a.1 b.1 c.1) (fun a b => total a.1 b.1) l
  have pm := List.mergeSort_perm l fun a b : α × Nat => le a.1 b.1
  have ndM : (l.mergeSort fun a b => le a.1 b.1).Nodup := pm.nodup_iff.mpr nd
  rw [List.pairwise_iff_forall_sublist]
  intro a b hab
  have l1 : le a.1 b.1 = true := (List.pairwise_iff_forall_sublist.mp srt) hab
  unfold prc
  rw [l1, Bool.true_and]
  cases l2 : le b.1 a.1 with
  | false => rfl
  | true =>
    show decide (a.2 < b.2) = true
    have ma : a ∈ l := pm.mem_iff.mp (hab.subset List.mem_cons_self)
    have mb : b ∈ l := pm.mem_iff.mp (hab.subset (List.mem_cons_of_mem _ List.mem_cons_self))
    have nab : a ≠ b := (List.pairwise_iff_forall_sublist.mp ndM) hab
    refine decide_eq_true (Classical.byContradiction fun z => ?_)
    -- b stands ahead of a in l
    have hba : [b, a].Sublist l := by
      obtain ⟨i, hi, ei⟩ := List.getElem_of_mem ma
      obtain ⟨j, hj, ej⟩ := List.getElem_of_mem mb
      have ji : j < i := by
        rcases Nat.lt_trichotomy i j with q | q | q
        · have := List.pairwise_iff_getElem.mp h i j hi hj q
          rw [ei, ej] at this
          exact absurd this z
        · subst q
          exact absurd (ei.symm.trans ej) nab
        · exact q
      have d : l = l.take i ++ a :: l.drop (i + 1) := by rw [← ei, ← List.drop_eq_getElem_cons hi, List.take_append_drop]
      have m : b ∈ l.take i := by
        rw [List.mem_take_iff_getElem]
        exact ⟨j, by omega, ej⟩
      rw [d]
      exact (List.singleton_sublist.mpr m).append (List.Sublist.cons_cons a (List.nil_sublist _))
    have hba' := List.pair_sublist_mergeSort (le := fun a b : α × Nat => le a.1 b.1) (fun a b c => trans a.1 b.1 c.1) (fun a b => total a.1 b.1) (hab := l2) hba
    -- both orders in a list without doubles
    have key : ∀ {L : List (α × Nat)}, L.Nodup → [a, b].Sublist L → [b, a].Sublist L → False := by
      intro L
      induction L with
      | nil => intro _ s _; cases s
      | cons c L ih =>
        intro nd s1 s2
        rw [List.nodup_cons] at nd
        cases s1 with
        | cons _ s1 =>
          cases s2 with
          | cons _ s2 => exact ih nd.2 s1 s2
          | cons_cons _ s2 => exact nd.1 (s1.subset (List.mem_cons_of_mem _ List.mem_cons_self))
        | cons_cons _ s1 =>
          cases s2 with
          | cons _ s2 => exact nd.1 (s2.subset (List.mem_cons_of_mem _ List.mem_cons_self))
          | cons_cons _ s2 => exact nab rfl
    exact key ndM hab hba'
/-- some sorted, the others behind them -/
def srtTag (le : α → α → Bool) (f : α → Bool) (l : List (α × Nat)) : List (α × Nat) := ((l.filter fun a => f a.1).mergeSort fun a b => le a.1 b.1) ++ l.filter fun a => !f a.1
omit trans total in
theorem srtTag_perm {le : α → α → Bool} (f : α → Bool) (l : List (α × Nat)) : (srtTag le f l).Perm l := by
  unfold srtTag
  exact ((List.mergeSort_perm _ _).append_right _).trans (List.filter_append_perm (fun a : α × Nat => f a.1) l)
theorem srtTag_prc {f : α → Bool} {l : List (α × Nat)} (h : l.Pairwise fun a b => a.2 < b.2) (far : ∀ a b, f a = true → f b = false → le a b = true ∧ le b a = false) (same : ∀ a b, f a = false → f b = false → le a b = true) : (srtTag le f l).Pairwise fun a b => prc le a b = true := by
  unfold srtTag
  refine List.pairwise_append.mpr ⟨sort_prc trans total (h.filter _), ?_, fun a ha b hb => ?_⟩
  · refine (List.pairwise_filter.mpr (h.imp fun {a b} q ha hb => ?_))
    have fa : f a.1 = false := by simpa using ha
    have fb : f b.1 = false := by simpa using hb
    unfold prc
    rw [same _ _ fa fb, same _ _ fb fa, decide_eq_true q]
    rfl
  · have fa : f a.1 = true := (List.mem_filter.mp ((List.mergeSort_perm _ _).mem_iff.mp ha)).2
    have fb : f b.1 = false := by simpa using (List.mem_filter.mp hb).2
    obtain ⟨q1, q2⟩ := far _ _ fa fb
    unfold prc
    rw [q1, q2]
    rfl
omit trans total in
theorem srtTag_fst (f : α → Bool) (l : List α) (k : Nat) : (srtTag le f (l.zipIdx k)).map (·.1) = ((l.filter f).mergeSort le) ++ l.filter fun a => !f a := by
  have fl : ∀ (g : α → Bool) (l : List α) (k : Nat), ((l.zipIdx k).filter fun a => g a.1).map (·.1) = l.filter g := by
    intro g l
    induction l with
    | nil => intro k; rfl
    | cons a l ih =>
      intro k
      rw [List.zipIdx_cons, List.filter_cons, List.filter_cons]
      dsimp only
      split
      · rw [List.map_cons, ih]
      · exact ih _
  unfold srtTag
  rw [List.map_append, List.map_mergeSort (s := le) (f := fun a : α × Nat => a.1) (fun a _ b _ => rfl), fl f, fl (fun a => !f a)]
/-- how many stand ahead of the j-th -/
def rankOf (le : α → α → Bool) (l : List α) (j : Nat) (a : α) : Nat := l.zipIdx.countP fun y => prc le y (a, j)
theorem rank_at {f : α → Bool} {l : List α} (far : ∀ a b, f a = true → f b = false → le a b = true ∧ le b a = false) (same : ∀ a b, f a = false → f b = false → le a b = true) {j : Nat} {a : α} (e : l[j]? = some a) :
    (((l.filter f).mergeSort le) ++ l.filter fun a => !f a)[rankOf le l j a]? = some a ∧ ∀ {i : Nat} {b : α}, l[i]? = some b → rankOf le l i b = rankOf le l j a → i = j := by
  have rise : l.zipIdx.Pairwise fun a b => a.2 < b.2 := by
    have key : ∀ (l : List α) (k : Nat), (l.zipIdx k).Pairwise fun a b => a.2 < b.2 := by
      intro l
      induction l with
      | nil => intro k; exact List.Pairwise.nil
      | cons a l ih =>
        intro k
        rw [List.zipIdx_cons]
        refine List.pairwise_cons.mpr ⟨fun b hb => ?_, ih _⟩
        have := List.le_snd_of_mem_zipIdx hb
        show k < b.2
        omega
    exact key l 0
  have pw := srtTag_prc trans total rise far same
  have pm := srtTag_perm (le := le) f l.zipIdx
  have at_ : ∀ {i : Nat} {b : α}, l[i]? = some b → (srtTag le f l.zipIdx)[rankOf le l i b]? = some (b, i) := fun {i b} e => by
    have m : (b, i) ∈ l.zipIdx := by
      obtain ⟨hi, eb⟩ := List.getElem?_eq_some_iff.mp e
      rw [List.mem_iff_getElem?]
      exact ⟨i, by rw [List.getElem?_zipIdx, e]; simp⟩
    obtain ⟨p, hp⟩ := List.mem_iff_getElem?.mp (pm.mem_iff.mpr m)
    have c := count_at pw hp
    rw [pm.countP_eq] at c
    unfold rankOf
    rw [c]
    exact hp
  refine ⟨?_, fun {i b} e' q => ?_⟩
  · rw [← srtTag_fst f l 0, List.getElem?_map, at_ e]
    rfl
  · have h1 := at_ e'
    rw [q, at_ e] at h1
    injection h1 with h1
    injection h1 with h1 h2
    exact h2.symm
theorem rank_onto {f : α → Bool} {l : List α} (far : ∀ a b, f a = true → f b = false → le a b = true ∧ le b a = false) (same : ∀ a b, f a = false → f b = false → le a b = true) {p : Nat} (hp : p < l.length) :
    ∃ j a, l[j]? = some a ∧ rankOf le l j a = p := by
  have rise : l.zipIdx.Pairwise fun a b => a.2 < b.2 := by
    have key : ∀ (l : List α) (k : Nat), (l.zipIdx k).Pairwise fun a b => a.2 < b.2 := by
      intro l
      induction l with
      | nil => intro k; exact List.Pairwise.nil
      | cons a l ih =>
        intro k
        rw [List.zipIdx_cons]
        refine List.pairwise_cons.mpr ⟨fun b hb => ?_, ih _⟩
        have := List.le_snd_of_mem_zipIdx hb
        show k < b.2
        omega
    exact key l 0
  have pw := srtTag_prc trans total rise far same
  have pm := srtTag_perm (le := le) f l.zipIdx
  have hp' : p < (srtTag le f l.zipIdx).length := by rw [pm.length_eq, List.length_zipIdx]; exact hp
  have e := List.getElem?_eq_getElem hp'
  generalize (srtTag le f l.zipIdx)[p] = y at e
  obtain ⟨a, j⟩ := y
  have m := pm.mem_iff.mp (List.mem_of_getElem? e)
  rw [List.mem_iff_getElem?] at m
  obtain ⟨i, hi⟩ := m
  rw [List.getElem?_zipIdx] at hi
  cases q : l[i]? with
  | none => rw [q] at hi; cases hi
  | some z =>
    rw [q] at hi
    simp only [Option.map_some, Option.some.injEq, Prod.mk.injEq, Nat.zero_add] at hi
    obtain ⟨rfl, rfl⟩ := hi
    refine ⟨_, _, q, ?_⟩
    unfold rankOf
    rw [← pm.countP_eq]
    exact count_at pw e
end
end Lc
set_option Elab.async false
set_option linter.all false
set_option maxRecDepth 100000
set_option maxHeartbeats 4000000
namespace K17
open PySem PySem.Spec PyProof.Rows L2 Lc
open LamX
/-! ## the order of rows by their values -/
theorem bySz_lt {n d n' d' : Int} (h : 0 < d) (h1 : d ≤ lim) (h' : 0 < d') (h1' : d' ≤ lim) : bySz n d < bySz n' d' ↔ n * d' < n' * d := by
  unfold bySz
  rw [Int.mul_assoc n, Int.mul_assoc n']
  have hl : (0 : Int) ≤ lim := by decide
  have SL : d * d' ≤ lim * lim := Int.mul_le_mul h1 h1' (Int.le_of_lt h') hl
  have S0 : (0 : Int) ≤ lim * lim := Int.mul_nonneg hl hl
  generalize lim * lim = S at *
  constructor
  · intro k
    refine Classical.byContradiction fun z => ?_
    have z := Int.not_lt.mp z
    have : n' * S / d' ≤ n * S / d := by
      rw [Int.le_ediv_iff_mul_le h]
      have a : n' * S / d' * d' ≤ n' * S := Int.ediv_mul_le _ (by omega)
      generalize n' * S / d' = q at a k ⊢
      refine Int.le_of_mul_le_mul_right (a := d') ?_ h'
      rw [Int.mul_right_comm]
      refine Int.le_trans (Int.mul_le_mul_of_nonneg_right a (Int.le_of_lt h)) ?_
      rw [Int.mul_right_comm, Int.mul_right_comm n S d']
      exact Int.mul_le_mul_of_nonneg_right z S0
    omega
  · intro k
    have b : n * S / d * d ≤ n * S := Int.ediv_mul_le _ (by omega)
    generalize n * S / d = q at b ⊢
    refine Int.lt_of_lt_of_le (Int.lt_succ q) ((Int.le_ediv_iff_mul_le h').mpr ?_)
    refine Int.le_of_mul_le_mul_right (a := d) ?_ h
    have e1 : (q + 1) * d' * d = q * d * d' + d * d' := by rw [Int.add_mul, Int.add_mul, Int.one_mul, Int.mul_right_comm, Int.mul_comm d' d]
    rw [e1]
    refine Int.le_trans (Int.add_le_add (Int.mul_le_mul_of_nonneg_right b (Int.le_of_lt h')) SL) ?_
    have e2 : n * S * d' + S = (n * d' + 1) * S := by rw [Int.add_mul, Int.one_mul, Int.mul_right_comm]
    rw [e2, Int.mul_right_comm n' S d]
    exact Int.mul_le_mul_of_nonneg_right k S0
def lessD (a b : PyData) : Bool := PySem.W.dataLt (kyD a) (kyD b)
theorem lt_asym {a b : PyData} (h : PySem.W.dataLt a b = true) : PySem.W.dataLt b a = false := by
  rcases (PySem.W.sortLe_total (listOrd itemOrd) false PySem.W.keyToks).total a b with e | e
  · have e : (!PySem.W.dataLt b a) = true := e
    simpa using e
  · have e : (!PySem.W.dataLt a b) = true := e
    rw [h] at e
    cases e
def bI (b : Bool) : Int := if b then 1 else 0
def aheadD (u : Bool) (a b : PyData) : Int := if isN a || isN b then bI (!isN a) - bI (!isN b) else if u then bI (lessD a b) - bI (lessD b a) else bI (lessD b a) - bI (lessD a b)
def rowF (ps : CsL) (x : Str) (u : Bool) (a b : V × RowD) : Bool := if there ps x a then (!there ps x b || rowLe ps x u a b) else !there ps x b
theorem rowLe_eq {ps : CsL} {x : Str} {u : Bool} {a b : V × RowD} : rowLe ps x u a b = if u then !lessD (valAt ps x b.2) (valAt ps x a.2) else !lessD (valAt ps x a.2) (valAt ps x b.2) := by cases u <;> rfl
theorem rowLe_tot (ps : CsL) (x : Str) (u : Bool) : PySem.W.TotalLe (rowLe ps x u) := PySem.W.sortLe_total _ _ _
theorem rowF_total {ps : CsL} {x : Str} {u : Bool} (a b : V × RowD) : (rowF ps x u a b || rowF ps x u b a) = true := by
  unfold rowF
  have := (rowLe_tot ps x u).total a b
  cases there ps x a <;> cases there ps x b <;> simp
  exact this
theorem rowF_trans {ps : CsL} {x : Str} {u : Bool} (a b c : V × RowD) : rowF ps x u a b = true → rowF ps x u b c = true → rowF ps x u a c = true := by
  unfold rowF
  have := (rowLe_tot ps x u).trans a b c
  cases there ps x a <;> cases there ps x b <;> cases there ps x c <;> simp
  exact this
theorem rowF_far {ps : CsL} {x : Str} {u : Bool} (a b : V × RowD) (ha : there ps x a = true) (hb : there ps x b = false) : rowF ps x u a b = true ∧ rowF ps x u b a = false := by
  unfold rowF
  rw [ha, hb]
  exact ⟨rfl, rfl⟩
theorem rowF_same {ps : CsL} {x : Str} {u : Bool} (a b : V × RowD) (ha : there ps x a = false) (hb : there ps x b = false) : rowF ps x u a b = true := by
  unfold rowF
  rw [ha, hb]
  rfl
theorem srtR_F (ps : CsL) (x : Str) (u : Bool) (rs : RowsL) : srtR ps x u rs = ((rs.filter (there ps x)).mergeSort (rowF ps x u)) ++ rs.filter fun r => !there ps x r := by
  unfold srtR
  rw [PySem.W.sort_congr (r := rowLe ps x u) (s := rowF ps x u) fun a ha b hb => by
    unfold rowF
    rw [(List.mem_filter.mp ha).2, (List.mem_filter.mp hb).2]
    rfl]
theorem prc_ahead {ps : CsL} {x : Str} {u : Bool} {a b : V × RowD} {k j : Nat} : prc (rowF ps x u) (b, k) (a, j) = decide (0 < aheadD u (valAt ps x b.2) (valAt ps x a.2) ∨ (aheadD u (valAt ps x b.2) (valAt ps x a.2) = 0 ∧ k < j)) := by
  unfold prc rowF aheadD
  dsimp only
  rw [rowLe_eq, rowLe_eq]
  unfold there
  have a1 := @lt_asym (kyD (valAt ps x a.2)) (kyD (valAt ps x b.2))
  have a2 := @lt_asym (kyD (valAt ps x b.2)) (kyD (valAt ps x a.2))
  unfold lessD
  cases isN (valAt ps x b.2) <;> cases isN (valAt ps x a.2)
  · cases q1 : PySem.W.dataLt (kyD (valAt ps x a.2)) (kyD (valAt ps x b.2)) <;> cases q2 : PySem.W.dataLt (kyD (valAt ps x b.2)) (kyD (valAt ps x a.2)) <;> cases u <;> first | (rw [q1] at a1; rw [q2] at a1; exact absurd (a1 rfl) (by decide)) | simp [bI]
  · simp [bI]
  · simp [bI]
  · simp [bI]
theorem b2i_lt (a b : Bool) : decide (b2i a < b2i b) = (!a && b) := by cases a <;> cases b <;> rfl
section
variable {X : Cx}
theorem op_lt_bl (hu : X.A.units < cLine) : OpR X (compareOp .Lt) (fun x y H Q => ∃ i j, x = .bl i ∧ y = .bl j ∧ Q (.bl (!i && j)) H) := by
  intro pins s σ H x y v u Q I rx ry h
  obtain ⟨i, j, rfl, rfl, q⟩ := h
  cases rx
  cases ry
  refine PySem.W.lt_data (.bool i) (.bool j) rfl nofun hu ?_
  rw [PySem.W.dataLt_bool]
  exact fin_bl I q (b2i_lt i j).symm
end
def rLtV : R2 := fun x y H Q => (∃ i j, x = .str i ∧ y = .str j ∧ Q (.bl (decide (i.cps.toList < j.cps.toList))) H) ∨ ∃ i j, x = .bl i ∧ y = .bl j ∧ Q (.bl (!i && j)) H
theorem op_ltV {X : Cx} (hu : X.A.units < cLine) : OpR X (compareOp .Lt) rLtV := op_lt_str.or (op_lt_bl hu)
def spLs : Sp := fun vs H Q _ => ∃ (v v' : V) (d d' : PyData) (kd : Str), vs = [v, v'] ∧ Dh H v d ∧ Dh H v' d' ∧ Vk kd d ∧ Vk kd d' ∧ isN d = false ∧ isN d' = false ∧ Q (.bl (lessD d d')) H
def spAh : Sp := fun vs H Q _ => ∃ (v v' : V) (d d' : PyData) (kd : Str) (u : Bool), vs = [v, v', .str (updn u)] ∧ Dh H v d ∧ Dh H v' d' ∧ Vk kd d ∧ Vk kd d' ∧ Q (.int (aheadD u d d')) H
def spSd : Sp := fun vs H Q _ => ∃ (R : Addr) (ps : CsL) (x : Str) (u : Bool) (rs : RowsL), vs = [.ref R, .int ((nms ps).idxOf x : Nat), .str (updn u)] ∧ H R = some (.lst (rs.map (·.1))) ∧ RowsAt H rs ∧ RowW ps (rs.map (·.2)) ∧ x ∈ nms ps ∧ rs.length ≤ 40 ∧
  ∀ (F : Addr) (H' : Hp), H F = none → Same H H' → H' F = some (.lst ((srtR ps x u rs).map (·.1))) → Q (.ref F) H'
section
variable {P : Program} {w : World} {K : PySem.W.Frag} {mg : Str → Option Value} {base : Heap} {f : Addr} {fd : FuncData}
abbrev sLs : Stmt := top 134
abbrev nLs : List Str := ["_law_a", "_law_b"]
abbrev pLs : List Str := ["_law_a", "_law_b"]
theorem scLs : FnScope nLs pLs (defScope sLs) := ⟨rfl, rfl, rfl, by decide +kernel, rfl, by decide +kernel, by decide +kernel⟩
section
theorem ok_Ls (F : Fun K "_law_less" "_law_less" sLs f fd) (T : Bt mg) : FnOk P w K mg base CX0 1 f fd pLs (spLs) := by
  refine F.ok scLs (fun vs H Q E h => ?_) (fun cdv A outer s H vs Q E hr h => ?_)
  · obtain ⟨v, v', d, d', kd, rfl, _⟩ := h
    rfl
  · obtain ⟨v, v', d, d', kd, rfl, hd, hd', vk, vk', nn, nn', k⟩ := h
    refine ⟨_, (pss_cons (ps_if (pt_val (pe_callB call_isi (by rfl) T.isi boot_isinstance (pa_cons (pv 0) (pa_cons (pe_bltn (v := .ty "tuple") (by rfl) T.tuple boot_tuple rfl) pa_nil)))) (pss_one (ps_ret (pe_cmpR op_lt (pe_op op_mulW (pe_ix ix_tup (pv 0) pe_int (fun _ _ => rfl)) (pe_ix ix_tup (pv 1) pe_int (fun _ _ => rfl))) (pe_op op_mulW (pe_ix ix_tup (pv 1) pe_int (fun _ _ => rfl)) (pe_ix ix_tup (pv 0) pe_int (fun _ _ => rfl))) (nomark _)))) pss_nil)
      (pss_one (ps_ret (pe_cmpR (op_ltV (Nat.lt_of_le_of_lt (Nat.le_add_right _ 64) hr.units)) (pv 0) (pv 1) (nomark _))))), ?_⟩
    cases vk with
    | non => exact absurd nn (by decide)
    | num rt h1 h2 =>
      rename_i n d
      cases vk' with
      | non => exact absurd nn' (by decide)
      | num rt' h1' h2' =>
      rename_i n' d'
      obtain ⟨a, rfl, e⟩ := num_at hd
      obtain ⟨a', rfl, e'⟩ := num_at hd'
      have ty : TyN H (.ref a) "tuple" := .tup e
      have c200 : ∀ {i : Int}, i.natAbs ≤ 10000000000000000000000000000000000000000 → i.natAbs < 2 ^ 200 := fun h => Nat.lt_of_le_of_lt h (by decide)
      have l : lim = 10000000000000000000000000000000000000000 := rfl
      have q := bySz_lt (n := n) (n' := n') (rt_pos rt) (by omega) (rt_pos rt') (by omega)
      refine ⟨_, rfl, .ref a, .ty "tuple", _, _, _, rfl, .ty "tuple", ty.x, kit_tuple ty.mem, _, rfl, iteT ⟨_, rfl, ?_⟩⟩
      refine ⟨a, _, _, .int n, rfl, rfl, SqT.of e, rfl, _, rfl, a', _, _, .int d', rfl, rfl, SqT.of e', rfl, _, _, rfl, rfl, wide_mul (c200 h1) (c200 h2') (by decide) (by decide) (by decide), _, rfl, a', _, _, .int n', rfl, rfl, SqT.of e', rfl, _, rfl, a, _, _, .int d, rfl, rfl, SqT.of e, rfl, _, _, rfl, rfl, wide_mul (c200 h1') (c200 h2) (by decide) (by decide) (by decide), _, _, rfl, rfl, ?_⟩
      have k : Q (.bl (PySem.W.dataLt (.int (bySz n d)) (.int (bySz n' d')))) H := k
      rw [PySem.W.dataLt_int, decide_eq_decide.mpr q] at k
      exact k
    | flag b =>
      cases vk' with
      | non => exact absurd nn' (by decide)
      | flag b' =>
      cases hd
      cases hd'
      have ty : TyN H (.bl b) "bool" := .bl b
      have k : Q (.bl (PySem.W.dataLt (.bool b) (.bool b'))) H := k
      rw [PySem.W.dataLt_bool, b2i_lt] at k
      exact ⟨_, rfl, .bl b, .ty "tuple", _, _, _, rfl, .ty "tuple", ty.x, kit_tuple ty.mem, _, rfl, iteF ⟨_, rfl, _, rfl, .inr ⟨_, _, rfl, rfl, k⟩⟩⟩
    | word sh nm =>
      rename_i x
      cases vk' with
      | non => exact absurd nn' (by decide)
      | word sh' nm' =>
      rename_i x'
      cases hd
      cases hd'
      have ty : TyN H (.str x) "str" := .str x
      have k : Q (.bl (PySem.W.dataLt (.str x) (.str x'))) H := k
      rw [PySem.W.dataLt_str] at k
      exact ⟨_, rfl, .str x, .ty "tuple", _, _, _, rfl, .ty "tuple", ty.x, kit_tuple ty.mem, _, rfl, iteF ⟨_, rfl, _, rfl, .inl ⟨_, _, rfl, rfl, k⟩⟩⟩
end
abbrev sAh : Stmt := top 135
abbrev nAh : List Str := ["_law_one", "_law_other", "_law_order"]
abbrev pAh : List Str := ["_law_one", "_law_other", "_law_order"]
theorem scAh : FnScope nAh pAh (defScope sAh) := ⟨rfl, rfl, rfl, by decide +kernel, rfl, by decide +kernel, by decide +kernel⟩
section
variable {fA_ : Addr} {fdA_ : FuncData}
theorem ok_Ah (F : Fun K "_law_ahead" "_law_ahead" sAh f fd) (T : Bt mg)
    (GA_ : FnOk P w K mg base CX0 1 fA_ fdA_ ["_law_a", "_law_b"] (spLs)) (mA_ : mg "_law_less" = some (.ref fA_)) (kA_ : PySem.W.keepIn K (.ref fA_) = true) (bA_ : Binds K fdA_ ["_law_a", "_law_b"] []) : FnOk P w K mg base CX0 2 f fd pAh (spAh) := by
  refine F.ok scAh (fun vs H Q E h => ?_) (fun cdv A outer s H vs Q E hr h => ?_)
  · obtain ⟨v, v', d, d', kd, u, rfl, _⟩ := h
    rfl
  · obtain ⟨v, v', d, d', kd, u, rfl, hd, hd', vk, vk', k⟩ := h
    have hrA_ : Room (1) _ := hr.mono (by first | decide | omega)
    refine ⟨_, (pss_cons (ps_if (PW.pt (pw_or (pt_cmpR op_isN1 (pv 0) pe_non (nomark _)) (pw_or1 (pt_cmpR op_isN1 (pv 1) pe_non (nomark _))))) (pss_one (ps_ret (pe_op op_sub (pe_callTy call_int1 (by rfl) T.int boot_int (pa_cons (pe_cmpR op_notN1 (pv 0) pe_non (nomark _)) pa_nil)) (pe_callTy call_int1 (by rfl) T.int boot_int (pa_cons (pe_cmpR op_notN1 (pv 1) pe_non (nomark _)) pa_nil))))) pss_nil)
      (pss_cons (ps_if (pt_cmpR op_eq (pv 2) pe_str (nomark _)) (pss_one (ps_ret (pe_op op_sub (pe_callTy call_int1 (by rfl) T.int boot_int (pa_cons (pe_call GA_ hrA_ (by rfl) mA_ kA_ bA_ .nil pass0 (pa_cons (pv 0) (pa_cons (pv 1) pa_nil))) pa_nil)) (pe_callTy call_int1 (by rfl) T.int boot_int (pa_cons (pe_call GA_ hrA_ (by rfl) mA_ kA_ bA_ .nil pass0 (pa_cons (pv 1) (pa_cons (pv 0) pa_nil))) pa_nil))))) pss_nil)
      (pss_one (ps_ret (pe_op op_sub (pe_callTy call_int1 (by rfl) T.int boot_int (pa_cons (pe_call GA_ hrA_ (by rfl) mA_ kA_ bA_ .nil pass0 (pa_cons (pv 1) (pa_cons (pv 0) pa_nil))) pa_nil)) (pe_callTy call_int1 (by rfl) T.int boot_int (pa_cons (pe_call GA_ hrA_ (by rfl) mA_ kA_ bA_ .nil pass0 (pa_cons (pv 0) (pa_cons (pv 1) pa_nil))) pa_nil))))))), ?_⟩
    have e1 := dh_isN hd
    have e2 := dh_isN hd'
    have k : Q (.int (if isN d || isN d' then bI (!isN d) - bI (!isN d') else if u then bI (lessD d d') - bI (lessD d' d) else bI (lessD d' d) - bI (lessD d d'))) H := k
    have neg : ∀ {v : V} {d : PyData}, decide (v = .non) = isN d → (!decide (v = V.non)) = !isN d := fun e => by rw [e]
    refine ⟨_, rfl, rfl, _, rfl, ?_⟩
    rw [e1]
    cases q1 : isN d with
    | true =>
      rw [q1] at k e1
      refine iteT (iteT ⟨_, rfl, rfl, .inr ⟨_, rfl, _, rfl, rfl, .inr ⟨_, rfl, _, _, rfl, rfl, ?_⟩⟩⟩)
      rw [e1, e2]
      exact k
    | false =>
      rw [q1] at k e1
      refine iteF ⟨_, rfl, rfl, _, rfl, ?_⟩
      rw [e2]
      cases q2 : isN d' with
      | true =>
        rw [q2] at k e2
        refine iteT ⟨_, rfl, rfl, .inr ⟨_, rfl, _, rfl, rfl, .inr ⟨_, rfl, _, _, rfl, rfl, ?_⟩⟩⟩
        rw [e1, e2]
        exact k
      | false =>
        rw [q2] at k
        refine iteF ⟨_, rfl, rfl, _, rfl, ?_⟩
        cases u with
        | true =>
          rw [show decide (V.str (updn true) = V.str "up") = true by decide +kernel]
          exact iteT ⟨_, rfl, _, rfl, v, v', d, d', kd, rfl, hd, hd', vk, vk', q1, q2, .inr ⟨_, rfl, _, rfl, _, rfl, v', v, d', d, kd, rfl, hd', hd, vk', vk, q2, q1, .inr ⟨_, rfl, _, _, rfl, rfl, k⟩⟩⟩
        | false =>
          rw [show decide (V.str (updn false) = V.str "up") = false by decide +kernel]
          exact iteF ⟨_, rfl, _, rfl, v', v, d', d, kd, rfl, hd', hd, vk', vk, q2, q1, .inr ⟨_, rfl, _, rfl, _, rfl, v, v', d, d', kd, rfl, hd, hd', vk, vk', q1, q2, .inr ⟨_, rfl, _, _, rfl, rfl, k⟩⟩⟩
end
abbrev sSd : Stmt := top 136
abbrev nSd : List Str := ["_law_rows", "_law_place", "_law_order", "_law_found", "_law_at", "_law_rank", "_law_other", "_law_sign"]
abbrev pSd : List Str := ["_law_rows", "_law_place", "_law_order"]
theorem scSd : FnScope nSd pSd (defScope sSd) := ⟨rfl, rfl, rfl, by decide +kernel, rfl, by decide +kernel, by decide +kernel⟩
section
variable {fA_ : Addr} {fdA_ : FuncData}
theorem ok_Sd (F : Fun K "_law_sorted" "_law_sorted" sSd f fd) (T : Bt mg)
    (GA_ : FnOk P w K mg base CX0 2 fA_ fdA_ ["_law_one", "_law_other", "_law_order"] (spAh)) (mA_ : mg "_law_ahead" = some (.ref fA_)) (kA_ : PySem.W.keepIn K (.ref fA_) = true) (bA_ : Binds K fdA_ ["_law_one", "_law_other", "_law_order"] []) : FnOk P w K mg base CX0 3 f fd pSd (spSd) := by
  refine F.ok scSd (fun vs H Q E h => ?_) (fun cdv A outer s H vs Q E hr h => ?_)
  · obtain ⟨R, ps, x, u, rs, rfl, _⟩ := h
    rfl
  · obtain ⟨R, ps, x, u, rs, rfl, hR, hA, rw_, hx, l40, k⟩ := h
    have hrA_ : Room (2) _ := hr.mono (by first | decide | omega)
    refine ⟨_, (pss_cons (ps_set (i := 3) scSd.nd rfl (Or.inl rfl) (pe_op op_rep (pe_lst (pa_cons pe_non pa_nil)) (pe_callB call_len_seq (by rfl) T.len PySem.boot_len (pa_cons (pv 0) pa_nil))))
      (pss_cons (ps_for PassesOwn.never rfl (pi_range1 (by rfl) T.range (pa_cons (pe_callB call_len_seq (by rfl) T.len PySem.boot_len (pa_cons (pv 0) pa_nil)) pa_nil)) (pg_name (i := 4) scSd.nd rfl (.inl rfl)) (pss_cons (ps_set (i := 5) scSd.nd rfl (Or.inl rfl) pe_int)
      (pss_cons (ps_for PassesOwn.never rfl (pi_range1 (by rfl) T.range (pa_cons (pe_callB call_len_seq (by rfl) T.len PySem.boot_len (pa_cons (pv 0) pa_nil)) pa_nil)) (pg_name (i := 6) scSd.nd rfl (.inl rfl)) (pss_cons (ps_set (i := 7) scSd.nd rfl (Or.inl rfl) (pe_call GA_ hrA_ (by rfl) mA_ kA_ bA_ .nil pass0 (pa_cons (pe_ix ix_tup (pe_ix ix_tup (pe_ix ix_list (pv 0) (pv 6) (fun _ _ => rfl)) pe_int (fun _ _ => rfl)) (pv 1) (fun _ _ => rfl)) (pa_cons (pe_ix ix_tup (pe_ix ix_tup (pe_ix ix_list (pv 0) (pv 4) (fun _ _ => rfl)) pe_int (fun _ _ => rfl)) (pv 1) (fun _ _ => rfl)) (pa_cons (pv 2) pa_nil)))))
      (pss_one (ps_if (PW.pt (pw_or (pt_cmpR op_gt (pv 7) pe_int (nomark _)) (pw_or1 (PW.pt (pw_and (pt_cmpR op_eq (pv 7) pe_int (nomark _)) (pw_and1 (pt_cmpR op_lt (pv 6) (pv 4) (nomark _)))))))) (pss_one (ps_set (i := 5) scSd.nd rfl (Or.inl rfl) (pe_op op_add (pv 5) pe_int))) pss_nil))))
      (pss_one (ps_asg (pe_ix ix_list (pv 0) (pv 4) (fun _ _ => rfl)) (pg_sub (pv 3) (pv 5) set_list))))))
      (pss_one (ps_ret (pv 3))))), ?_⟩
    have one : 1 ≤ sizeLine := by decide
    have ll : (rs.map (·.1)).length = rs.length := List.length_map _
    obtain ⟨kd, KD⟩ := val_at hx
    refine ⟨one, fun L0 hL0 => ?_⟩
    have z0 := Same.upd (o := .lst [.non]) hL0
    refine ⟨_, rfl, R, _, rfl, .inl (SqL.of (z0 _ _ hR)), L0, _, [.non], rfl, rfl, upd_same, by omega, by rw [ll]; omega, ?_, fun F0 hF => ?_⟩
    · rw [ll]
      exact Nat.le_trans (show _ ≤ 40 by simp; omega) (by decide)
    have z1 := Same.upd (o := .lst (List.replicate (((rs.map (·.1)).length : Nat) : Int).toNat [V.non]).flatten) hF
    have eF : L2.upd (L2.upd H L0 (.lst [.non])) F0 (.lst (List.replicate (((rs.map (·.1)).length : Nat) : Int).toNat [V.non]).flatten) F0 = some (.lst (List.replicate rs.length V.non)) := by
      rw [upd_same, ll]
      congr 2
      show (List.replicate rs.length [V.non]).flatten = _
      generalize rs.length = n
      induction n with
      | zero => rfl
      | succ n ih => rw [List.replicate_succ, List.flatten_cons, ih, List.replicate_succ]; rfl
    have s1 := z0.trans z1
    have fF : H F0 = none := Same.gone z0 hF
    generalize L2.upd (L2.upd H L0 (.lst [.non])) F0 (.lst (List.replicate (((rs.map (·.1)).length : Nat) : Int).toNat [V.non]).flatten) = H1 at eF s1 ⊢
    have at_ := fun {j : Nat} {a : V × RowD} (e : rs[j]? = some a) => rank_at (le := rowF ps x u) (f := there ps x) (l := rs) rowF_trans rowF_total rowF_far rowF_same e
    refine ⟨_, rfl, R, _, rfl, .inl (SqL.of (s1 _ _ hR)), _, rfl, by omega, by rw [ll]; omega, for_range (lo := 0) (n := (rs.map fun r : V × RowD => r.1).length) (fun j σ H' => (∃ x4 x5 x6 x7 : Option V, σ = [some (.ref R), some (.int ((nms ps).idxOf x : Nat)), some (.str (updn u)), some (.ref F0), x4, x5, x6, x7]) ∧ Same H H' ∧ ∃ Fs : List V, H' F0 = some (.lst Fs) ∧ Fs.length = rs.length ∧ ∀ i b, i < j → rs[i]? = some b → Fs[rankOf (rowF ps x u) rs i b]? = some b.1) ⟨⟨_, _, _, _, rfl⟩, s1, _, eF, List.length_replicate, fun i b h => absurd h (Nat.not_lt_zero i)⟩ ?_ ?_⟩
    · rintro j σ H2 hj ⟨⟨x4, x5, x6, x7, rfl⟩, s2, Fs, eFs, lF, hFs⟩
      rw [ll] at hj
      have er : rs[j]? = some rs[j] := List.getElem?_eq_getElem hj
      generalize rs[j] = r at er
      have rm := List.mem_of_getElem? er
      obtain ⟨ra, va, la, xs, z, ev, e2, eu, ez, dz, vk⟩ := KD ((hA r rm).same s2) (rw_ r.2 (List.mem_map_of_mem rm)).1
      refine ⟨_, rfl, R, _, rfl, .inl (SqL.of (s2 _ _ hR)), _, rfl, by omega, by rw [ll]; omega, for_range (lo := 0) (n := (rs.map fun r : V × RowD => r.1).length) (fun k σ H' => (∃ x6 x7 : Option V, σ = [some (.ref R), some (.int ((nms ps).idxOf x : Nat)), some (.str (updn u)), some (.ref F0), some (.int (0 + (j : Nat))), some (.int (((rs.zipIdx.take k).countP fun y => prc (rowF ps x u) y (r, j) : Nat) : Int)), x6, x7]) ∧ H' = H2) ⟨⟨_, _, rfl⟩, rfl⟩ ?_ ?_⟩
      · rintro k σ H3 hk ⟨⟨x6, x7, rfl⟩, rfl⟩
        rw [ll] at hk
        have eq : rs[k]? = some rs[k] := List.getElem?_eq_getElem hk
        generalize rs[k] = q at eq
        have qm := List.mem_of_getElem? eq
        obtain ⟨ra', va', la', xs', z', ev', e2', eu', ez', dz', vk'⟩ := KD ((hA q qm).same s2) (rw_ q.2 (List.mem_map_of_mem qm)).1
        have ez2 : rs.zipIdx[k]? = some (q, k) := by rw [List.getElem?_zipIdx, eq]; simp
        have cnt : (rs.zipIdx.take (k + 1)).countP (fun y => prc (rowF ps x u) y (r, j)) = (rs.zipIdx.take k).countP (fun y => prc (rowF ps x u) y (r, j)) + (if 0 < aheadD u (valAt ps x q.2) (valAt ps x r.2) ∨ (aheadD u (valAt ps x q.2) (valAt ps x r.2) = 0 ∧ k < j) then 1 else 0) := by
          rw [List.take_add_one, ez2, List.countP_append]
          show _ + List.countP _ [(q, k)] = _
          rw [List.countP_singleton, prc_ahead]
          simp only [decide_eq_true_eq]
        generalize (rs.zipIdx.take k).countP (fun y => prc (rowF ps x u) y (r, j)) = n at cnt ⊢
        refine ⟨_, rfl, _, rfl, R, _, _, q.1, rfl, rfl, SqL.of (s2 _ _ hR), at_of (j := k) (by omega) (by rw [List.getElem?_map, eq]; rfl), ?_⟩
        rw [ev']
        refine ⟨ra', _, _, .ref va', rfl, rfl, SqT.of e2', at_of (j := 0) rfl rfl, _, rfl, va', xs', _, z', rfl, rfl, SqT.of eu', at_of rfl ez', ?_⟩
        refine ⟨_, rfl, _, rfl, R, _, _, r.1, rfl, rfl, SqL.of (s2 _ _ hR), at_of (j := j) (by omega) (by rw [List.getElem?_map, er]; rfl), ?_⟩
        rw [ev]
        refine ⟨ra, _, _, .ref va, rfl, rfl, SqT.of e2, at_of (j := 0) rfl rfl, _, rfl, va, xs, _, z, rfl, rfl, SqT.of eu, at_of rfl ez, _, rfl, z', z, _, _, kd, u, rfl, dz', dz, vk', vk, ?_⟩
        generalize aheadD u (valAt ps x q.2) (valAt ps x r.2) = sg at cnt ⊢
        have fin : ∀ (x7 : Option V) (m : Int), m = (((rs.zipIdx.take (k + 1)).countP fun y => prc (rowF ps x u) y (r, j) : Nat) : Int) → (∃ x6 x7' : Option V, [some (V.ref R), some (.int ((nms ps).idxOf x : Nat)), some (.str (updn u)), some (.ref F0), some (.int (0 + (j : Nat))), some (.int m), some (.int (0 + (k : Nat))), x7] = [some (V.ref R), some (.int ((nms ps).idxOf x : Nat)), some (.str (updn u)), some (.ref F0), some (.int (0 + (j : Nat))), some (.int (((rs.zipIdx.take (k + 1)).countP fun y => prc (rowF ps x u) y (r, j) : Nat) : Int)), x6, x7']) ∧ H3 = H3 := fun x7 m e => ⟨⟨some (.int (0 + (k : Nat))), x7, by rw [e]⟩, rfl⟩
        refine ⟨_, rfl, _, _, rfl, rfl, _, rfl, ite2 (fun y => ?_) (fun y => ?_)⟩
        · have y := of_decide_eq_true y
          rw [if_pos (.inl y)] at cnt
          exact iteT ⟨_, rfl, _, _, rfl, rfl, fin _ _ (by rw [cnt]; rfl)⟩
        have y : ¬ 0 < sg := fun h => y (decide_eq_true h)
        refine ⟨_, rfl, rfl, _, rfl, ite2 (fun y2 => ?_) (fun y2 => ?_)⟩
        · have y2 : sg = 0 := by have := of_decide_eq_true y2; injection this
          refine ⟨_, rfl, _, rfl, _, _, rfl, rfl, _, rfl, ite2 (fun y3 => ?_) (fun y3 => ?_)⟩
          · have y3 := of_decide_eq_true y3
            rw [if_pos (.inr ⟨y2, by omega⟩)] at cnt
            exact ⟨_, rfl, _, _, rfl, rfl, fin _ _ (by rw [cnt]; rfl)⟩
          · have y3 : ¬ _ := fun h => y3 (decide_eq_true h)
            rw [if_neg (fun h => by rcases h with h | h; exact y h; exact y3 (by omega))] at cnt
            exact fin _ _ (by rw [cnt]; rfl)
        · have y2 : ¬ sg = 0 := fun h => y2 (by rw [h]; rfl)
          rw [if_neg (fun h => by rcases h with h | h; exact y h; exact y2 h.1)] at cnt
          exact iteF (fin _ _ (by rw [cnt]; rfl))
      · rintro σ H3 ⟨⟨x6, x7, rfl⟩, rfl⟩
        rw [ll, List.take_of_length_le (by rw [List.length_zipIdx]; exact Nat.le_refl _)]
        show _
        have hrk : rankOf (rowF ps x u) rs j r < rs.length := by
          have := (at_ er).1
          rw [← srtR_F] at this
          have h := (List.getElem?_eq_some_iff.mp this).1
          rw [srtR_len] at h
          exact h
        refine ⟨_, rfl, _, rfl, R, _, _, r.1, rfl, rfl, SqL.of (s2 _ _ hR), at_of (j := j) (by omega) (by rw [List.getElem?_map, er]; rfl), _, rfl, _, rfl, F0, Fs, _, rankOf (rowF ps x u) rs j r, rfl, rfl, eFs, ?_, ⟨_, _, _, _, rfl⟩, fun b o e => by rw [upd_ne (ne_of_none e fF)]; exact s2 b o e, _, upd_same, by rw [List.length_set]; exact lF, fun i b hi eb => ?_⟩
        · unfold ixN
          rw [if_pos (by omega), if_pos (by rw [lF]; exact Int.ofNat_lt.mpr hrk)]
          rfl
        · rcases Nat.lt_succ_iff_lt_or_eq.mp hi with hi | rfl
          · rw [List.getElem?_set_ne fun q => absurd ((at_ er).2 eb q.symm) (by omega)]
            exact hFs i b hi eb
          · rw [er] at eb
            obtain rfl := Option.some.inj eb
            rw [List.getElem?_set_self (by rw [lF]; exact hrk)]
    · rintro σ H2 ⟨⟨x4, x5, x6, x7, rfl⟩, s2, Fs, eFs, lF, hFs⟩
      rw [ll] at hFs
      have e : Fs = (srtR ps x u rs).map (·.1) := by
        refine List.ext_getElem? fun p => ?_
        by_cases hp : p < rs.length
        · obtain ⟨j, a, ea, rk⟩ := rank_onto (le := rowF ps x u) (f := there ps x) (l := rs) rowF_trans rowF_total rowF_far rowF_same hp
          have h1 := hFs j a (List.getElem?_eq_some_iff.mp ea).1 ea
          have h2 := (at_ ea).1
          rw [rk] at h1 h2
          rw [← srtR_F] at h2
          rw [h1, List.getElem?_map, h2]
          rfl
        · rw [List.getElem?_eq_none (by omega), List.getElem?_eq_none (by rw [List.length_map, srtR_len]; omega)]
      rw [e] at eFs
      exact ⟨_, rfl, k F0 H2 fF s2 eFs⟩
end
end
end K17
set_option Elab.async false
set_option linter.all false
set_option maxRecDepth 100000
set_option maxHeartbeats 4000000
namespace K17
open PySem PySem.Spec PyProof.Rows L2 Lc
open LamX
theorem tm_int {i : Int} (h : i.natAbs ≤ 10000000000000000000000000000000000000000) : Tm 0 2000 (.int i) := by
  have b : i.natAbs < 2 ^ 1000 := Nat.lt_of_le_of_lt h (Nat.lt_of_lt_of_le (show 10000000000000000000000000000000000000000 < 2 ^ 140 by decide) (Nat.pow_le_pow_right (by decide) (by decide)))
  obtain ⟨h1, h2⟩ := num_len b
  exact ⟨h1, rfl, Nat.le_refl _, Nat.le_trans h2 (by decide)⟩
theorem tm_txt {x : Str} (h : Sh 100 x) : Tm 0 2000 (.str x) := by
  refine ⟨rfl, rfl, Nat.le_refl _, ?_⟩
  show (reprText x).length ≤ 2000
  have := StrLaws.reprText_len x (fun c hc => Nat.lt_trans (h.ok c hc) (by decide))
  have e := lenL x
  have := h.len
  omega
theorem tm_nonB : Tm 0 2000 .none ∧ ∀ b : Bool, Tm 0 2000 (.bool b) := ⟨⟨rfl, rfl, Nat.le_refl _, by decide +kernel⟩, fun b => ⟨rfl, rfl, Nat.le_refl _, by cases b <;> decide +kernel⟩⟩
theorem Vk.tm {k : Str} {d : PyData} (h : Vk k d) : Tm 1 4100 d := by
  cases h with
  | non => exact tm_nonB.1.mono (by decide) (by decide)
  | flag b => exact (tm_nonB.2 b).mono (by decide) (by decide)
  | word h _ => exact (tm_txt (h.mono (by decide))).mono (by decide) (by decide)
  | @num n d _ h1 h2 =>
    exact (tm_tup (k := 0) (n := 2000) (fun x hx => by simp at hx; rcases hx with rfl | rfl; exact tm_int h1; exact tm_int h2)).mono (by decide) (by show 2000 * 2 + 2 * 2 + 4 ≤ 4100; decide)
theorem Vks.tm {ks : List Str} {ds : List PyData} (h : Vks ks ds) (l : ks.length ≤ 8) : Tm 2 33000 (.tuple ds) := by
  have ln := h.len
  have all : ∀ d ∈ ds, Tm 1 4100 d := by
    clear ln l
    induction h with
    | nil => exact nofun
    | cons h r ih =>
      intro d hd
      rcases List.mem_cons.mp hd with rfl | hd
      · exact h.tm
      · exact ih d hd
  exact (tm_tup all).mono (by decide) (by omega)
/-! ## rows that are drawn -/
def RowV (ks : List Str) (rs : RowsL) : Prop := ∀ r ∈ rs, Vks ks r.2.vals ∧ LinOk r.2.lin
theorem part_tm2 {p : Str × Int} (h : PartOk p) : Tm 1 4010 (partD p) := by
  have := h.2
  exact (tm_tup (k := 0) (n := 2000) (ds := [.str p.1, .int p.2]) fun d hd => by
    simp only [List.mem_cons, List.not_mem_nil, or_false] at hd
    rcases hd with rfl | rfl
    · exact tm_txt (h.1.mono (by decide))
    · exact tm_int (by omega)).mono (Nat.le_refl _) (by show 2000 * 2 + 2 * 2 + 4 ≤ 4010; decide)
theorem row_tm {ks : List Str} {r : RowD} (h : Vks ks r.vals) (l8 : ks.length ≤ 8) (o : LinOk r.lin) : Tm 3 66010 r.d := by
  have h1 := h.tm l8
  have h2 : Tm 2 33000 (linD r.lin) := by
    have := tm_tup (k := 1) (n := 4010) (ds := r.lin.map partD) fun d hd => by
      obtain ⟨p, hp, rfl⟩ := List.mem_map.mp hd
      exact part_tm2 (o.2 p hp)
    have l4 := o.1
    rw [List.length_map] at this
    exact this.mono (Nat.le_refl _) (by omega)
  exact (tm_tup (k := 2) (n := 33000) (ds := [.tuple r.vals, linD r.lin]) fun d hd => by
    simp only [List.mem_cons, List.not_mem_nil, or_false] at hd
    rcases hd with rfl | rfl
    · exact h1
    · exact h2).mono (Nat.le_refl _) (by show 33000 * 2 + 2 * 2 + 4 ≤ 66010; decide)
def rowsD (rs : RowsL) : PyData := .list (rs.map fun r => r.2.d)
theorem rows_tm {ks : List Str} {rs : RowsL} (h : RowV ks rs) (l8 : ks.length ≤ 8) (l : rs.length ≤ 40) : Tm 4 2660000 (rowsD rs) := by
  have := tm_lst (k := 3) (n := 66010) (ds := rs.map fun r => r.2.d) fun d hd => by
    obtain ⟨r, hr, rfl⟩ := List.mem_map.mp hd
    exact row_tm (h r hr).1 l8 (h r hr).2
  rw [List.length_map] at this
  exact this.mono (Nat.le_refl _) (by omega)
theorem rows_dh {H : Hp} : ∀ {rs : RowsL}, RowsAt H rs → DhAll H (rs.map (·.1)) (rs.map fun r => r.2.d)
  | [], _ => .nil
  | r :: rs, h => .cons (h r List.mem_cons_self) (rows_dh fun q hq => h q (List.mem_cons_of_mem _ hq))
theorem colP_tmL {p : Str × Str} (h : Sh 12 p.1) (k : KindS p.2) : Tm 1 4010 (colP p) :=
  (tm_tup (k := 0) (n := 2000) (ds := [.str p.1, .str p.2]) fun d hd => by
    simp only [List.mem_cons, List.not_mem_nil, or_false] at hd
    rcases hd with rfl | rfl
    · exact tm_txt (h.mono (by decide))
    · exact tm_txt k.sh).mono (Nat.le_refl _) (by show 2000 * 2 + 2 * 2 + 4 ≤ 4010; decide)
def colsDL (ps : List (Str × Str)) : PyData := .tuple (ps.map colP)
theorem cols_tmL {ps : List (Str × Str)} (h : ∀ p ∈ ps, Sh 12 p.1 ∧ nameB (.str p.1) = true ∧ KindS p.2) (l8 : ps.length ≤ 8) : Tm 2 33000 (colsDL ps) := by
  have := tm_tup (k := 1) (n := 4010) (ds := ps.map colP) fun d hd => by
    obtain ⟨p, hp, rfl⟩ := List.mem_map.mp hd
    exact colP_tmL (h p hp).1 (h p hp).2.2
  rw [List.length_map] at this
  exact this.mono (Nat.le_refl _) (by omega)
def bothDL (ps : List (Str × Str)) (rs : RowsL) : PyData := .list [colsDL ps, rowsD rs]
theorem both_tm {ps : List (Str × Str)} {rs : RowsL} (h : ∀ p ∈ ps, Sh 12 p.1 ∧ nameB (.str p.1) = true ∧ KindS p.2) (l8 : ps.length ≤ 8) (g : RowV (ps.map (·.2)) rs) (l : rs.length ≤ 40) : Tm 5 5400000 (bothDL ps rs) :=
  (tm_lst (k := 4) (n := 2660000) (ds := [colsDL ps, rowsD rs]) fun d hd => by
    simp only [List.mem_cons, List.not_mem_nil, or_false] at hd
    rcases hd with rfl | rfl
    · exact (cols_tmL h l8).mono (by decide) (by decide)
    · exact rows_tm g (by rw [List.length_map]; exact l8) l).mono (Nat.le_refl _) (by show 2660000 * 2 + 2 * 2 + 4 ≤ 5400000; decide)
theorem both_shw {K : PySem.W.Frag} {H : Hp} {M L R : Addr} {ps : CsL} {rs : RowsL} (cp : ColP ps) (hL : CA H L ps) (eR : H R = some (.lst (rs.map (·.1)))) (ra : RowsAt H rs) (w : RowW ps (rs.map (·.2))) (ln : rs.length ≤ 40) (e : H M = some (.lst [.ref L, .ref R])) : Shw K H (.ref M) (bothDL ps rs).shown := by
  obtain ⟨xs, zL, cc⟩ := hL
  have g : RowV (ps.map (·.2)) rs := fun r hr => w r.2 (List.mem_map_of_mem hr)
  have t := both_tm cp.ok cp.l8 g ln
  have tc := cols_tmL cp.ok cp.l8
  have tr := rows_tm g (by rw [List.length_map]; exact cp.l8) ln
  have dc : Dp K H (.ref L) (colsDL ps) := .tup zL.sq (cc.dh.dp (by simpa [PyData.hasDict, colsDL] using tc.nd))
  have dr : Dp K H (.ref R) (rowsD rs) := (Dh.lst eR (rows_dh ra) : Dh H (.ref R) (rowsD rs)).dp tr.nd
  exact .data (.lst (SqL.of e) (.cons dc (.cons dr .nil))) t.sh t.nd (Nat.le_trans t.dz (by decide)) (Nat.le_trans t.ln (by decide))
theorem rows_shw {K : PySem.W.Frag} {H : Hp} {R : Addr} {ps : CsL} {rs : RowsL} (cp : ColP ps) (eR : H R = some (.lst (rs.map (·.1)))) (ra : RowsAt H rs) (w : RowW ps (rs.map (·.2))) (ln : rs.length ≤ 40) : Shw K H (.ref R) (rowsD rs).shown := by
  have g : RowV (ps.map (·.2)) rs := fun r hr => w r.2 (List.mem_map_of_mem hr)
  have tr := rows_tm g (by rw [List.length_map]; exact cp.l8) ln
  exact (Dh.lst eR (rows_dh ra) : Dh H (.ref R) (rowsD rs)).shwT tr (by decide) (by decide)
def cutD (ds : List PyData) (lo hi : Option Int) : List PyData := (ds.drop (HT.sIx ds.length 0 lo)).take (HT.sIx ds.length ds.length hi - HT.sIx ds.length 0 lo)
theorem dh_drop {H : Hp} : ∀ {xs : List V} {ds : List PyData} (i : Nat), DhAll H xs ds → DhAll H (xs.drop i) (ds.drop i)
  | _, _, 0, h => h
  | _, _, i + 1, .nil => .nil
  | _, _, i + 1, .cons _ r => dh_drop i r
theorem dh_take {H : Hp} : ∀ {xs : List V} {ds : List PyData} (i : Nat), DhAll H xs ds → DhAll H (xs.take i) (ds.take i)
  | _, _, 0, _ => .nil
  | _, _, i + 1, .nil => .nil
  | _, _, i + 1, .cons h r => .cons h (dh_take i r)
theorem dh_cut {H : Hp} {xs : List V} {ds : List PyData} {lo hi : Option Int} (h : DhAll H xs ds) : DhAll H (cutV xs lo hi) (cutD ds lo hi) := by
  unfold cutV cutD
  rw [h.len]
  exact dh_take _ (dh_drop _ h)
theorem cutD_to {ds : List PyData} {v : Nat} (h : v ≤ ds.length) : cutD ds none (some (v : Int)) = ds.take v := by
  have e1 : HT.sIx ds.length 0 none = 0 := rfl
  have e2 : HT.sIx ds.length ds.length (some (v : Int)) = v := by
    rw [HT.sIx_nat]
    omega
  unfold cutD
  rw [e1, e2]
  simp
theorem cutD_from (ds : List PyData) (v : Nat) : cutD ds (some (v : Int)) none = ds.drop v := by
  have e1 : HT.sIx ds.length ds.length none = ds.length := rfl
  have e2 : HT.sIx ds.length 0 (some (v : Int)) = min v ds.length := HT.sIx_nat _ _ _
  unfold cutD
  rw [e1, e2]
  rcases Nat.le_total v ds.length with q | q
  · rw [Nat.min_eq_left q]
    exact List.take_of_length_le (by rw [List.length_drop]; omega)
  · rw [Nat.min_eq_right q, List.drop_length, List.drop_eq_nil_of_le q]
    simp
theorem slH {K : PySem.W.Frag} {H : Hp} {Q : VK} {v : V} {ds : List PyData} {lo hi : Option Int} (h : Dh H v (.tuple ds)) (k : ∀ r H', Dh H' r (.tuple (cutD ds lo hi)) → Same H H' → Q r H') : rSlA K v lo hi H Q := by
  cases h with
  | @tup a xs _ e hs =>
  refine ⟨a, xs, rfl, SqT.of e, fun z => ?_, fun _ p hp => ?_⟩
  · refine k _ _ ?_ (Same.refl H)
    have : cutD ds lo hi = ds := by
      rw [hs.len] at z
      unfold cutD
      rw [z.1, z.2]
      simp
    rw [this]
    exact .tup e hs
  · have zp := Same.upd (o := .tup (cutV xs lo hi)) hp
    exact k _ _ (.tup upd_same ((dh_cut hs).same zp)) zp
theorem catH {K : PySem.W.Frag} {H : Hp} {Q : VK} {v u : V} {ds es : List PyData} (h : Dh H v (.tuple ds)) (g : Dh H u (.tuple es)) (l : ds.length + es.length ≤ 1000) (k : ∀ r H', Dh H' r (.tuple (ds ++ es)) → Same H H' → Q r H') : rCatA K v u H Q := by
  have h0 := h
  have g0 := g
  cases h with
  | @tup a xs _ e hs =>
  cases g with
  | @tup b ys _ e' gs =>
  refine ⟨a, b, xs, ys, rfl, rfl, SqT.of e, SqT.of e', by rw [hs.len, gs.len]; exact Nat.le_trans l (by decide), fun z => ?_, fun _ z => ?_, fun _ _ p hp => ?_⟩
  · subst z
    cases hs
    exact k _ _ g0 (Same.refl H)
  · subst z
    cases gs
    rw [List.append_nil] at k
    exact k _ _ h0 (Same.refl H)
  · have zp := Same.upd (o := .tup (xs ++ ys)) hp
    exact k _ _ (.tup upd_same ((hs.append gs).same zp)) zp
mutual
theorem dh_dl {t : Addr} {H : Hp} (hT : ∃ xs, H t = some (.lst xs)) : ∀ {v : V} {d : PyData}, Dh H v d → noL d = true → Dh (dl t H) v d
  | _, _, .non, _ => .non
  | _, _, .bl b, _ => .bl b
  | _, _, .int i, _ => .int i
  | _, _, .str x, _ => .str x
  | _, _, .tup e h, n => .tup (dl_at (fun z => by obtain ⟨xs, q⟩ := hT; rw [z, q] at e; cases e) e) (dhA_dl hT h (by simpa [noL] using n))
  | _, _, .lst e h, n => by simp [noL] at n
  | _, _, .dct e, _ => .dct (dl_at (fun z => by obtain ⟨xs, q⟩ := hT; rw [z, q] at e; cases e) e)
theorem dhA_dl {t : Addr} {H : Hp} (hT : ∃ xs, H t = some (.lst xs)) : ∀ {vs : List V} {ds : List PyData}, DhAll H vs ds → noLs ds = true → DhAll (dl t H) vs ds
  | _, _, .nil, _ => .nil
  | _, _, .cons h r, n => by
    rw [noLs, Bool.and_eq_true] at n
    exact .cons (dh_dl hT h n.1) (dhA_dl hT r n.2)
end
theorem cutD_len (ds : List PyData) (lo hi : Option Int) : (cutD ds lo hi).length ≤ ds.length := by
  unfold cutD
  rw [List.length_take, List.length_drop]
  omega
theorem Vks.mix : ∀ {ks : List Str} {a b : List PyData}, Vks ks a → Vks ks b → Vks ks (a.take 1 ++ b.drop 1)
  | _, _, _, .nil, .nil => .nil
  | _, _, _, .cons h _, .cons _ r => .cons h r
theorem srtAll_snoc {ps : CsL} {st : Ps} : ∀ {sts : List Ps} {rs : RowsL}, srtAll ps rs (sts ++ [st]) = srtAll ps (srtAll ps rs sts) [st]
  | [], rs => by cases st; rfl
  | .sort x u :: sts, rs => srtAll_snoc (sts := sts) (rs := srtR ps x u rs)
theorem srtAll_len {ps : CsL} : ∀ {sts : List Ps} {rs : RowsL}, (srtAll ps rs sts).length = rs.length
  | [], _ => rfl
  | .sort x u :: sts, rs => (srtAll_len (sts := sts) (rs := srtR ps x u rs)).trans srtR_len
theorem srtAll_w {ps : CsL} : ∀ {sts : List Ps} {rs : RowsL}, RowW ps (rs.map (·.2)) → RowW ps ((srtAll ps rs sts).map (·.2))
  | [], _, h => h
  | .sort _ _ :: sts, _, h => srtAll_w (sts := sts) (srtR_w h)
theorem TapeL.n {c t : Addr} {H H' : Hp} (s : ExtN H H') (h : TapeL c H t) : TapeL c H' t := by
  obtain ⟨ns, pos, rest, mix, h1, h2, h3⟩ := h
  exact ⟨ns, pos, rest, mix, s _ _ h1 nofun, s _ _ h2 nofun, h3⟩
theorem Tabs.b {T : List (Addr × Str)} {t : Addr} {H H' : Hp} (h : Tabs T H) (Tt : Tape H t) (s : SameB t H H') : Tabs T H' := fun p hp => by
  obtain ⟨_, _, _, _, _, q, _⟩ := Tt
  obtain ⟨ps, h1, h2, h3⟩ := h p hp
  refine ⟨ps, s _ _ (ne_of h1 q nofun) h1, h2, fun pos cv e => ?_⟩
  obtain ⟨c, ec, eo⟩ := h3 pos cv e
  exact ⟨c, ec, s _ _ (ne_of eo q nofun) eo⟩
theorem dl_n {t : Addr} {H H' : Hp} (s : ExtN H H') : ExtN (dl t H) (dl t H') := fun b o e n => dl_at (dl_of e).1 (s b o (dl_of e).2 n)
theorem rowsF {t : Addr} {H : Hp} {rs : RowsL} (T : Tape H t) (ra : RowsAt H rs) (o : RowsOk rs) : RowsAt (dl t H) rs := fun r hr => by
  obtain ⟨_, _, _, _, _, q, _⟩ := T
  exact dh_dl ⟨_, q⟩ (ra r hr) (row_noL (o r hr).1)
def spLaw (K : PySem.W.Frag) (P0 : Addr) : Sp := fun vs H Q _ => ∃ (a : Addr) (ns : List Int), vs = [.ref a] ∧ SqL K H a (ns.map V.int) ∧ Tabs (lamT P0) H ∧ ∀ H', Q (.bl true) H'
section
variable {P : Program} {w : World} {K : PySem.W.Frag} {mg : Str → Option Value} {base : Heap} {f : Addr} {fd : FuncData}
abbrev sLaw : Stmt := top 137
abbrev nLaw : List Str := ["_law_script", "_law_tape_here", "_law_columns_here", "_law_rows", "_law_k", "_law_values_here", "_law_first", "_law_table", "_law_steps", "_law_step", "_law_place", "_law_name_here", "_law_kind"]
abbrev pLaw : List Str := ["_law_script"]
theorem scLaw : FnScope nLaw pLaw (defScope sLaw) := ⟨rfl, rfl, rfl, by decide +kernel, rfl, by decide +kernel, by decide +kernel⟩
section
variable {fA_ fB_ fC_ fD_ fE_ fF_ : Addr} {fdA_ fdB_ fdC_ fdD_ fdE_ fdF_ : FuncData}
theorem ok_Law (F : Fun K "law" "law" sLaw f fd) (T : Bt mg) {C : Addr} (M : TbM P w K mg base C) {P0 fU : Addr} {fdU : FuncData} {dsU : List Value} (GU : FnOk P w K mg base CX0 18 fU fdU ["tables", "pipeline", "setting"] (spRun C P0)) (mU : mg "run" = some (.ref fU)) (kU : PySem.W.keepIn K (.ref fU) = true) (bU : Binds K fdU ["tables", "pipeline", "setting"] dsU) (vU : Vals [V.non] dsU)
    (GA_ : FnOk P w K mg base CX0 1 fA_ fdA_ ["_law_script"] (spTape K)) (mA_ : mg "_law_tape" = some (.ref fA_)) (kA_ : PySem.W.keepIn K (.ref fA_) = true) (bA_ : Binds K fdA_ ["_law_script"] [])
    (GB_ : FnOk P w K mg base CX0 1 fB_ fdB_ ["_law_tape_here", "_law_many"] (spDrawL)) (mB_ : mg "_law_draw" = some (.ref fB_)) (kB_ : PySem.W.keepIn K (.ref fB_) = true) (bB_ : Binds K fdB_ ["_law_tape_here", "_law_many"] [])
    (GC_ : FnOk P w K mg base CX0 4 fC_ fdC_ ["_law_tape_here", "_law_lead", "_law_many", "_law_taken"] (spCls)) (mC_ : mg "_law_columns" = some (.ref fC_)) (kC_ : PySem.W.keepIn K (.ref fC_) = true) (bC_ : Binds K fdC_ ["_law_tape_here", "_law_lead", "_law_many", "_law_taken"] [])
    (GD_ : FnOk P w K mg base CX0 4 fD_ fdD_ ["_law_tape_here", "_law_columns_here", "_law_wide"] (spVals)) (mD_ : mg "_law_values" = some (.ref fD_)) (kD_ : PySem.W.keepIn K (.ref fD_) = true) (bD_ : Binds K fdD_ ["_law_tape_here", "_law_columns_here", "_law_wide"] [])
    (GE_ : FnOk P w K mg base CX0 2 fE_ fdE_ ["_law_tape_here", "_law_columns_here"] (spSrt)) (mE_ : mg "_law_sort_step" = some (.ref fE_)) (kE_ : PySem.W.keepIn K (.ref fE_) = true) (bE_ : Binds K fdE_ ["_law_tape_here", "_law_columns_here"] [])
    (GF_ : FnOk P w K mg base CX0 3 fF_ fdF_ ["_law_rows", "_law_place", "_law_order"] (spSd)) (mF_ : mg "_law_sorted" = some (.ref fF_)) (kF_ : PySem.W.keepIn K (.ref fF_) = true) (bF_ : Binds K fdF_ ["_law_rows", "_law_place", "_law_order"] []) : FnG P w K mg base 19 f fd pLaw (spLaw K P0) := by
  refine Lc.Fun.okG F scLaw (fun vs H Q E h => ?_) (fun cdv A outer s H vs Q E hg hr h => ?_)
  · obtain ⟨a0, ns, rfl, _⟩ := h
    rfl
  · obtain ⟨a0, ns, rfl, hS, hT0, k⟩ := h
    have hrA_ : Room (1) _ := hr.mono (by first | decide | omega)
    have hrB_ : Room (1) _ := hr.mono (by first | decide | omega)
    have hrC_ : Room (4) _ := hr.mono (by first | decide | omega)
    have hrD_ : Room (4) _ := hr.mono (by first | decide | omega)
    have hrE_ : Room (2) _ := hr.mono (by first | decide | omega)
    have hrF_ : Room (3) _ := hr.mono (by first | decide | omega)
    obtain ⟨fI, fdI, GI, FI, bI⟩ := M.i
    obtain ⟨fC, fdC, hC, FC, bC⟩ := M.c
    obtain ⟨fR, fdR, hR, FR, bR⟩ := M.r
    have hr1 : Room 1 _ := hr.mono (by omega)
    have hr2 : Room (1 + 1) _ := hr.mono (by decide)
    have hrU : Room 18 _ := hr.mono (by decide)
    refine ⟨_, (pss_cons (ps_set (i := 1) scLaw.nd rfl (Or.inl rfl) (pe_call GA_ hrA_ (by rfl) mA_ kA_ bA_ .nil pass0 (pa_cons (pv 0) pa_nil)))
      (pss_cons (ps_set (i := 2) scLaw.nd rfl (Or.inl rfl) (pe_call GC_ hrC_ (by rfl) mC_ kC_ bC_ .nil pass0 (pa_cons (pv 1) (pa_cons (pe_slice sl_list (pe_lst (pa_cons pe_str (pa_cons pe_str (pa_cons pe_str pa_nil)))) (po_some (pe_call GB_ hrB_ (by rfl) mB_ kB_ bB_ .nil pass0 (pa_cons (pv 1) (pa_cons pe_int pa_nil)))) po_none) (pa_cons pe_int (pa_cons (pe_lst pa_nil) pa_nil))))))
      (pss_cons (ps_set (i := 3) scLaw.nd rfl (Or.inl rfl) (pe_lst pa_nil))
      (pss_cons (ps_for PassesOwn.never rfl (pi_range1 (by rfl) T.range (pa_cons (pe_call GB_ hrB_ (by rfl) mB_ kB_ bB_ .nil pass0 (pa_cons (pv 1) (pa_cons (pe_op op_add pe_int (pe_op op_mul pe_int (pe_callTy call_int1 (by rfl) T.int boot_int (pa_cons (pe_cmpR op_eq (pe_call GB_ hrB_ (by rfl) mB_ kB_ bB_ .nil pass0 (pa_cons (pv 1) (pa_cons pe_int pa_nil))) pe_int (nomark _)) pa_nil)))) pa_nil))) pa_nil)) (pg_name (i := 4) scLaw.nd rfl (.inl rfl)) (pss_cons (ps_set (i := 5) scLaw.nd rfl (Or.inl rfl) (pe_call GD_ hrD_ (by rfl) mD_ kD_ bD_ .nil pass0 (pa_cons (pv 1) (pa_cons (pv 2) (pa_cons pe_bl pa_nil)))))
      (Evl.pss_cut (ps_if (PW.pt (pw_and (pt_truth (pv 3) (fun _ => rfl)) (pw_and1 (pt_cmpR op_eq (pe_call GB_ hrB_ (by rfl) mB_ kB_ bB_ .nil pass0 (pa_cons (pv 1) (pa_cons pe_int pa_nil))) pe_int (nomark _))))) (pss_one (ps_set (i := 5) scLaw.nd rfl (Or.inl rfl) (pe_op op_catA (pe_slice sl_tupA (pe_ix ix_tup (pe_ix ix_list (pv 3) (pe_call GB_ hrB_ (by rfl) mB_ kB_ bB_ .nil pass0 (pa_cons (pv 1) (pa_cons (pe_callB call_len_seq (by rfl) T.len PySem.boot_len (pa_cons (pv 3) pa_nil)) pa_nil))) (fun _ _ => rfl)) pe_int (fun _ _ => rfl)) po_none (po_some pe_int)) (pe_slice sl_tupA (pv 5) (po_some pe_int) po_none)))) pss_nil)
      (pss_one (ps_expr (pe_bm PySem.F.plainAttrs_list PySem.F.slot_list_append PySem.F.type_list_append mt_append (pv 3) (pa_cons (pe_tup (pa_cons (pv 5) (pa_cons (pe_tup (pa_cons (pe_tup (pa_cons pe_str (pa_cons (pe_op op_mul pe_int (pv 4)) pa_nil))) pa_nil)) pa_nil))) pa_nil)))))))
      (pss_cons (ps_set (i := 6) scLaw.nd rfl (Or.inl rfl) (pe_make GI.mkC FI hr2 (by rfl) GI.gC bI .nil pass0 (pa_cons (pv 2) (pa_cons (pe_callTy call_tuple_of (by rfl) T.tuple boot_tuple (pa_cons (pv 3) pa_nil)) pa_nil))))
      (pss_cons (ps_set (i := 7) scLaw.nd rfl (Or.inl rfl) (pv 6))
      (pss_cons (ps_set (i := 8) scLaw.nd rfl (Or.inl rfl) (pe_tup pa_nil))
      (pss_cons (ps_for PassesOwn.never rfl (pi_range1 (by rfl) T.range (pa_cons (pe_op op_add pe_int (pe_call GB_ hrB_ (by rfl) mB_ kB_ bB_ .nil pass0 (pa_cons (pv 1) (pa_cons pe_int pa_nil)))) pa_nil)) (pg_name (i := 4) scLaw.nd rfl (.inl rfl)) (pss_cons (ps_set (i := 9) scLaw.nd rfl (Or.inl rfl) (pe_call GE_ hrE_ (by rfl) mE_ kE_ bE_ .nil pass0 (pa_cons (pv 1) (pa_cons (pv 2) pa_nil))))
      (pss_cons (ps_set (i := 10) scLaw.nd rfl (Or.inl rfl) (pe_bm PySem.F.plainAttrs_list PySem.F.slot_list_index PySem.F.type_list_index mt_index (pe_lc (own := [("_law_name_here", 11), ("_law_kind", 12)]) (g := (gTup K 2 (gCons (gName 11) (gCons (gName 12) gNil)))) (tt := tYes) (te := tVar 11) (by rfl) scLaw.nd (pi_tup (pv 2)) (blkOk_by (own := [("_law_name_here", 11), ("_law_kind", 12)]) (N := nLaw) (sc := defScope sLaw) (by decide +kernel)) (fun _ _ _ _ _ => (pg_tup rfl (pgs_cons (pg_name (i := 11) scLaw.nd rfl (.inl rfl)) (pgs_cons (pg_name (i := 12) scLaw.nd rfl (.inl rfl)) pgs_nil)))) (fun _ _ _ _ _ => pts_nil) (fun _ _ _ _ _ => (pv 11))) (pa_cons (pe_ix ix_tup (pv 9) pe_int (fun _ _ => rfl)) pa_nil)))
      (pss_cons (ps_set (i := 3) scLaw.nd rfl (Or.inl rfl) (pe_call GF_ hrF_ (by rfl) mF_ kF_ bF_ .nil pass0 (pa_cons (pv 3) (pa_cons (pv 10) (pa_cons (pe_ix ix_tup (pv 9) pe_int (fun _ _ => rfl)) pa_nil)))))
      (pss_cons (ps_set (i := 7) scLaw.nd rfl (Or.inl rfl) (pe_call GU hrU (by rfl) mU kU bU vU pass0 (pa_cons (pe_disp (pps_cons pe_str (pv 7) pps_nil) (by rfl) (by rfl) (by decide) (by decide)) (pa_cons (pe_tup (pa_cons pe_str (pa_cons (pe_tup (pa_cons (pv 9) pa_nil)) pa_nil))) pa_nil))))
      (Evl.pss_cut (ps_set (i := 8) scLaw.nd rfl (Or.inl rfl) (pe_op op_catA (pv 8) (pe_tup (pa_cons (pv 9) pa_nil))))
      (pss_one (ps_if (pt_cmpR op_ne (pe_callB (call_reprV hg hr.units) (by rfl) T.repr boot_repr (pa_cons (pe_lst (pa_cons (pe_meth0 (pv 7) GI.cls hC FC hr1 bC .nil pass0) (pa_cons (pe_meth0 (pv 7) GI.cls hR FR hr1 bR .nil pass0) pa_nil))) pa_nil)) (pe_callB (call_reprV hg hr.units) (by rfl) T.repr boot_repr (pa_cons (pe_lst (pa_cons (pv 2) (pa_cons (pv 3) pa_nil))) pa_nil)) (nomark _)) (pss_one (ps_ret pe_bl)) pss_nil))))))))
      (pss_one (ps_ret (pe_cmpR op_eq (pe_callB (call_reprV hg hr.units) (by rfl) T.repr boot_repr (pa_cons (pe_meth0 (pe_call GU hrU (by rfl) mU kU bU vU pass0 (pa_cons (pe_disp (pps_cons pe_str (pv 6) pps_nil) (by rfl) (by rfl) (by decide) (by decide)) (pa_cons (pe_tup (pa_cons pe_str (pa_cons (pv 8) pa_nil))) pa_nil))) GI.cls hR FR hr1 bR .nil pass0) pa_nil)) (pe_callB (call_reprV hg hr.units) (by rfl) T.repr boot_repr (pa_cons (pv 3) pa_nil)) (nomark _)))))))))))), ?_⟩
    have two : 2 ≤ sizeLine := by decide
    have one : 1 ≤ sizeLine := by decide
    refine ⟨_, rfl, a0, ns, rfl, hS, fun t H0 s0 ht hT1 => ?_⟩
    obtain ⟨c, hT1⟩ := hT1
    have hT1 : TapeL c H0 t := hT1
    have tb0 := hT0.ext s0
    -- columns
    refine ⟨_, rfl, by show 3 ≤ sizeLine; decide, fun p0 hp0 => ?_⟩
    have z0 := Same.upd (o := .lst [.str "number", .str "word", .str "flag"]) hp0
    have n0 := hT1.tape.ne hp0
    refine ⟨_, rfl, t, c, _, rfl, hT1.same z0, by decide, big1000 (by decide) (by decide), fun j H1 j0 j1 T1 S1 => ?_⟩
    obtain ⟨lead, el, hk, l1, l3⟩ : ∃ lead : List Str, cutV [.str "number", .str "word", .str "flag"] (some j) none = lead.map V.str ∧ (∀ k ∈ lead, KindS k) ∧ 1 ≤ lead.length ∧ lead.length ≤ 3 := by
      have : j = 0 ∨ j = 1 ∨ j = 2 := by omega
      rcases this with rfl | rfl | rfl
      · exact ⟨["number", "word", "flag"], rfl, fun k hk => by simp only [List.mem_cons, List.not_mem_nil, or_false] at hk; rcases hk with rfl | rfl | rfl; exact .inl rfl; exact .inr (.inl rfl); exact .inr (.inr rfl), by decide, by decide⟩
      · exact ⟨["word", "flag"], rfl, fun k hk => by simp only [List.mem_cons, List.not_mem_nil, or_false] at hk; rcases hk with rfl | rfl; exact .inr (.inl rfl); exact .inr (.inr rfl), by decide, by decide⟩
      · exact ⟨["flag"], rfl, fun k hk => by simp only [List.mem_cons, List.not_mem_nil, or_false] at hk; rcases hk with rfl; exact .inr (.inr rfl), by decide, by decide⟩
    refine ⟨j, rfl, p0, _, rfl, SqL.of (S1 _ _ n0 upd_same), fun p1 hp1 => ?_⟩
    rw [el]
    have z1 := Same.upd (o := .lst (lead.map V.str)) hp1
    refine ⟨by show 0 ≤ sizeLine; decide, fun p2 hp2 => ?_⟩
    have z2 := Same.upd (o := .lst []) hp2
    have T12 := T1.same (z1.trans z2)
    refine ⟨t, c, p1, p2, 2, lead, [], rfl, T12, .inr (z2 _ _ upd_same), .inr upd_same, by decide, by decide, by decide, by show lead.length + 2 ≤ 8; omega, hk, fun L xs ps H2 hL hc ho nd _ l1' l3' T2 S2 => ?_⟩
    have l3' : ps.length ≤ lead.length + 2 := l3'
    have l8 : ps.length ≤ 8 := by omega
    have cp : ColP ps := ⟨ho, nd, by omega, l8⟩
    have cL : CA H2 L ps := ⟨xs, hL, hc⟩
    have tb2 := Tabs.b (Tabs.ext (Tabs.b (tb0.ext z0) (hT1.same z0).tape S1) (z1.trans z2)) T12.tape S2
    clear S1 S2 z0 z1 z2 hp0 hp1 hp2 n0 el hk T1 T12 hT1 tb0 s0 hT0
    -- rows
    refine ⟨by show 0 ≤ sizeLine; decide, fun R hR => ?_⟩
    have zR := Same.upd (o := .lst []) hR
    have nR := T2.tape.ne hR
    have nRc : R ≠ c := by
      obtain ⟨zs, e⟩ := T2.list
      exact (ne_of_none e hR).symm
    have T3 := T2.same zR
    have eR3 : L2.upd H2 R (.lst []) R = some (.lst []) := upd_same
    have S3 := Same.b t zR
    generalize L2.upd H2 R (.lst []) = H3 at T3 eR3 S3 ⊢
    clear zR
    refine ⟨_, rfl, _, rfl, t, c, _, rfl, T3, by decide, big1000 (by decide) (by decide), fun jw H4 w0 w1 T4 S4 => ⟨rfl, .inr ⟨_, rfl, _, _, rfl, rfl, .inl ⟨by decide, by decide⟩, _, _, rfl, rfl, t, c, _, rfl, T4, ?_, ?_, fun m H5 m0 m1 T5 S5 => ⟨m, rfl, by omega, ?_, for_range (lo := 0) (n := m.toNat) (fun i σ H' => (∃ (rs : RowsL) (x4 x5 : Option V), σ = [some (.ref a0), some (.ref t), some (.ref L), some (.ref R), x4, x5, none, none, none, none, none, none, none] ∧ H' R = some (.lst (rs.map (·.1))) ∧ RowsAt (dl t H') rs ∧ RowW ps (rs.map (·.2)) ∧ rs.length ≤ i) ∧ TapeL c H' t ∧ SameB t H2 H') ⟨⟨[], _, _, rfl, S5 _ _ nR (S4 _ _ nR eR3), nofun, nofun, Nat.le_refl _⟩, T5, S3.trans (S4.trans S5)⟩ ?_ ?_⟩⟩⟩⟩
    · split <;> omega
    · refine big1000 ?_ ?_ <;> split <;> omega
    · have : m ≤ 40 := by split at m1 <;> omega
      omega
    · clear T5 T4 T3 S5 S4 S3 eR3 m0
      have m40 : m ≤ 40 := by split at m1 <;> omega
      clear m1
      rintro i σ H6 hi ⟨⟨rs, x4, x5, rfl, eR, ra, rv, lr⟩, T6, S6⟩
      have gR : H2 R = none := hR
      refine ⟨_, rfl, _, rfl, t, c, L, true, xs, ps, rfl, T6, (hL.b T2.tape S6).rd, hc.b T2.tape S6, fun p hp => (cp.ok p hp).2.2, cp.l8, fun r ds H7 df vks T7 S7 => ?_⟩
      have d7 : DhT t H7 (.ref r) (.tuple ds) := DhF.t T6.tape df
      have ra7 : RowsAt (dl t H7) rs := fun q hq => (ra q hq).same (dl_same S7)
      have eR7 := S7 _ _ nR eR
      have i40 : i < 40 := by omega
      clear df ra eR T6
      refine ⟨fun σ H' => ∃ (v : V) (es : List PyData), σ = [some (.ref a0), some (.ref t), some (.ref L), some (.ref R), some (.int (0 + (i : Nat))), some v, none, none, none, none, none, none, none] ∧ DhT t H' v (.tuple es) ∧ Vks (ps.map (·.2)) es ∧ H' R = some (.lst (rs.map (·.1))) ∧ RowsAt (dl t H') rs ∧ TapeL c H' t ∧ SameB t H7 H', ?_, ?_⟩
      · refine ⟨_, rfl, _, .inl ⟨_, SqL.of eR7, rfl⟩, ?_⟩
        cases rs with
        | nil => exact iteF ⟨.ref r, ds, rfl, d7, vks, eR7, ra7, T7, SameB.refl _ _⟩
        | cons r0 rest =>
        refine iteT ⟨_, rfl, t, c, _, rfl, T7, by decide, big1000 (by decide) (by decide), fun j8 H8 a8 b8 T8 S8 => ⟨rfl, _, rfl, ite2 (fun q => ?_) (fun q => ?_)⟩⟩
        · have eR8 := S8 _ _ nR eR7
          refine ⟨_, rfl, _, rfl, _, rfl, R, _, rfl, .inl (SqL.of eR8), t, c, _, rfl, T8, by simp <;> omega, big1000 (by simp <;> omega) (by rw [List.length_map]; omega), fun j9 H9 a9 b9 T9 S9 => ?_⟩
          have hj : j9.toNat < (r0 :: rest).length := by rw [List.length_map] at b9; omega
          obtain ⟨y, ey⟩ : ∃ y, (r0 :: rest)[j9.toNat]? = some y := ⟨_, List.getElem?_eq_getElem hj⟩
          have ym := List.mem_of_getElem? ey
          have S79 := S8.trans S9
          have ra9 : RowsAt (dl t H9) (r0 :: rest) := fun q hq => (ra7 q hq).same (dl_same S79)
          obtain ⟨r', va, la, e1, e2, hv, _⟩ := row_at (ra9 y ym)
          have yv := (rv y.2 (List.mem_map_of_mem ym)).1
          have d9 : Dh H9 (.ref r) (.tuple ds) := (dtb d7 S79).same dl_here
          refine ⟨R, _, _, y.1, rfl, rfl, SqL.of (S9 _ _ nR eR8), at_of (j := j9.toNat) (by omega) (by rw [List.getElem?_map, ey]; rfl), ?_⟩
          rw [e1]
          refine ⟨r', _, _, .ref va, rfl, rfl, SqT.of (dl_of e2).2, at_of (j := 0) rfl rfl, _, rfl, slH (hv.same dl_here) fun r1 H10 d1 s10 => ⟨_, rfl, _, rfl, slH (d9.same s10) fun r2 H11 d2 s11 => catH (d1.same s11) d2 ?_ fun r3 H12 d3 s12 => ?_⟩⟩
          · have h1 := yv.len
            have h2 := vks.len
            rw [List.length_map] at h1 h2
            have := cutD_len y.2.vals none (some 1)
            have := cutD_len ds (some 1) none
            omega
          · have s := (s10.trans s11).trans s12
            have vm : Vks (ps.map (·.2)) (cutD y.2.vals none (some 1) ++ cutD ds (some 1) none) := by
              rw [show (some 1 : Option Int) = some ((1 : Nat) : Int) from rfl, cutD_to (by rw [← yv.len, List.length_map]; exact cp.l1), cutD_from]
              exact yv.mix vks
            have T12 := T9.same s
            obtain ⟨_, _, _, _, _, q, _⟩ := T12.tape
            exact ⟨r3, _, rfl, dh_dl ⟨_, q⟩ d3 (by rw [noL]; exact noLs_all.mpr vm.noL), vm, s _ _ (S9 _ _ nR eR8), fun q hq => (ra9 q hq).same (dl_same (Same.b t s)), T12, S79.trans (Same.b t s)⟩
        · exact ⟨.ref r, ds, rfl, dtb d7 S8, vks, S8 _ _ nR eR7, fun q hq => (ra7 q hq).same (dl_same S8), T8, S8⟩
      · rintro σ H8 ⟨v, es, rfl, dv, ve, eR, ra, T8, S8⟩
        have S28 := (S6.trans S7).trans S8
        clear ra7 d7 eR7 S6 S7 T7
        refine ⟨_, rfl, .inl ⟨rfl, _, SqL.of eR⟩, _, rfl, _, rfl, _, _, rfl, rfl, .inl ⟨by decide, by decide⟩, two, fun q1 hq1 => ⟨one, fun q2 hq2 => ⟨two, fun q3 hq3 => ?_⟩⟩⟩
        have z1 := Same.upd (o := .tup [.str "t", .int (2 * (0 + (i : Nat)))]) hq1
        have z2 := Same.upd (o := .tup [.ref q1]) hq2
        have z3 := Same.upd (o := .tup [v, .ref q2]) hq3
        have T9 := T8.same z1
        have T10 := T9.same z2
        have d1 : DhT t _ (.ref q1) (partD ("t", 2 * (0 + (i : Nat)))) := dh_tupT T8.tape (.cons (.str _) (.cons (.int _) .nil)) hq1
        have d2 : DhT t _ (.ref q2) (linD [("t", 2 * (0 + (i : Nat)))]) := dh_tupT T9.tape (.cons d1 .nil) hq2
        have d3 : DhT t _ (.ref q3) (RowD.d ⟨es, [("t", 2 * (0 + (i : Nat)))]⟩) := dh_tupT T10.tape (.cons (dts (dts dv z1) z2) (.cons d2 .nil)) hq3
        have s := (z1.trans z2).trans z3
        have T11 := T10.same z3
        have eR' := s _ _ eR
        have nol : noLs es = true := noLs_all.mpr ve.noL
        generalize L2.upd (L2.upd (L2.upd H8 q1 (.tup [.str "t", .int (2 * (0 + (i : Nat)))])) q2 (.tup [.ref q1])) q3 (.tup [v, .ref q2]) = H11 at d3 s T11 eR' ⊢
        refine ⟨R, _, _, rfl, rfl, eR', lt_size (by rw [List.length_map]; omega), ⟨rs ++ [(.ref q3, ⟨es, [("t", 2 * (0 + (i : Nat)))]⟩)], _, _, rfl, by rw [upd_same, List.map_append]; rfl, fun q hq => ?_, fun q hq => ?_, by rw [List.length_append]; show rs.length + 1 ≤ i + 1; omega⟩, T11.upd nR nRc, fun b' o n e => ?_⟩
        · rcases List.mem_append.mp hq with hq | hq
          · exact (((ra q hq).same (dl_same (Same.b t s))).t (dlT eR') (row_noL (noLs_all.mpr (rv q.2 (List.mem_map_of_mem hq)).1.noL)))
          · rw [List.mem_singleton.mp hq]
            exact DhT.upd d3 (row_noL nol) eR'
        · rw [List.map_append] at hq
          rcases List.mem_append.mp hq with hq | hq
          · exact rv q hq
          · rw [List.mem_singleton.mp hq]
            exact ⟨ve, by show 1 ≤ 4; decide, fun p hp => by rw [List.mem_singleton.mp hp]; exact ⟨(⟨by decide +kernel, by decide +kernel⟩ : Sh 12 "t"), by show 0 ≤ 2 * (0 + (i : Int)); omega, by show 2 * (0 + (i : Int)) < 400; omega⟩⟩
        · rw [upd_ne (ne_of_none e gR)]
          exact (S28.trans (Same.b t s)) b' o n e
    · clear T5 T4 T3 S5 S4 S3 eR3 m0
      have m40 : m ≤ 40 := by split at m1 <;> omega
      clear m1
      rintro σ H6 ⟨⟨rs, x4, x5, rfl, eR, ra, rw_, ln⟩, T6, S6⟩
      have ln : rs.length ≤ 40 := by omega
      have ok := rw_.ok
      have ra6 : RowsAt H6 rs := ra.same dl_here
      have cL6 := cL.b T2.tape S6
      have tb6 := Tabs.b tb2 T2.tape S6
      clear ra S6 tb2 T2 cL hL hc hR
      -- the table
      refine ⟨_, rfl, _, rfl, R, _, rfl, .inl ⟨SqL.of eR, fun tu htu => ?_⟩⟩
      dsimp only [tNil]
      have ztu := Same.upd (o := .tup (rs.map (·.1))) htu
      refine mk_tb (.inr upd_same) (ra6.same ztu) ok fun a H7 s7 ha hI => ?_
      have s67 := ztu.trans s7
      have T7 := T6.same s67
      have eR7 := s67 _ _ eR
      have cL7 := cL6.same s67
      have tb7 := tb6.ext s67
      clear ztu s7 T6 ra6 eR cL6 htu ha tb6 s67
      refine ⟨_, rfl, by show 0 ≤ sizeLine; decide, fun e0 he0 => ?_⟩
      have ze := Same.upd (o := .tup []) he0
      have ee : L2.upd H7 e0 (.tup []) e0 = some (.tup []) := upd_same
      have T8 := T7.same ze
      have eR8 := ze _ _ eR7
      have cL8 := cL7.same ze
      have tb8 := tb7.ext ze
      have hI8 := hI.same ze
      generalize L2.upd H7 e0 (.tup []) = H8 at ee T8 eR8 cL8 tb8 hI8 ⊢
      clear ze T7 eR7 cL7 tb7 hI he0
      refine ⟨_, rfl, t, c, _, rfl, T8, by decide, big1000 (by decide) (by decide), fun m2 H9 q0 q3 T9 S9 => ⟨_, _, rfl, rfl, _, rfl, by omega, by omega, for_range (lo := 0) (n := (1 + m2).toNat) (fun i σ H' => (∃ (R2 ta cv sv : Addr) (sts : List Ps) (ys : List V) (y4 y5 y9 y10 y11 y12 : Option V), σ = [some (.ref a0), some (.ref t), some (.ref L), some (.ref R2), y4, y5, some (.ref a), some (.ref ta), some (.ref sv), y9, y10, y11, y12] ∧ H' R2 = some (.lst ((srtAll ps rs sts).map (·.1))) ∧ R2 ≠ t ∧ IsTb C H' ta cv (srtAll ps rs sts) ∧ CA H' cv ps ∧ H' sv = some (.tup ys) ∧ StepsAt (dl t H') ys sts ∧ sts.length ≤ i ∧ ∀ st ∈ sts, StepN ps st) ∧ IsTb C H' a L rs ∧ CA H' L ps ∧ TapeL c H' t ∧ Tabs (lamT P0) H') ⟨⟨R, a, L, e0, [], [], _, _, _, _, _, _, rfl, S9 _ _ nR eR8, nR, hI8.b T8.tape S9 ok, cL8.b T8.tape S9, SameT.b T8.tape S9 _ _ ee, .nil, Nat.zero_le _, nofun⟩, hI8.b T8.tape S9 ok, cL8.b T8.tape S9, T9, Tabs.b tb8 T8.tape S9⟩ ?_ ?_⟩⟩
      · clear T9 S9 T8 eR8 cL8 tb8 hI8 ee nR
        rintro i σ H10 hi ⟨⟨R2, ta, cv, sv, sts, ys, y4, y5, y9, y10, y11, y12, rfl, eR, nR2, hIt, cV, esv, hst, ls, sn⟩, hIa, cL, T10, tb⟩
        have lw_ := srtAll_w (sts := sts) rw_
        have ll := srtAll_len (ps := ps) (sts := sts) (rs := rs)
        have okt := lw_.ok
        have sno := fun st => srtAll_snoc (ps := ps) (st := st) (sts := sts) (rs := rs)
        generalize srtAll ps rs sts = rr at eR hIt lw_ ll okt sno
        -- a step
        refine ⟨_, rfl, _, rfl, t, c, L, ps, rfl, T10, cL, cp, fun v x u H11 hx dv T11 S11 => ?_⟩
        obtain ⟨pa, rfl⟩ : ∃ pa, v = .ref pa := by cases dv; exact ⟨_, rfl⟩
        have eR11 := S11 _ _ nR2 eR
        have hIt11 := hIt.b T10.tape S11 okt
        have hIa11 := hIa.b T10.tape S11 ok
        have cV11 := cV.b T10.tape S11
        have cL11 := cL.b T10.tape S11
        have esv11 := SameT.b T10.tape S11 _ _ esv
        have hst11 := hst.same (dl_same S11)
        have tb11 := Tabs.b tb T10.tape S11
        have lys := hst.len
        clear eR hIt hIa cV cL esv hst tb T10 S11 nR2
        have dp11 : Dh H11 (.ref pa) (Ps.d (.sort x u)) := dv.same dl_here
        obtain ⟨v3, e1, dv3⟩ := dh3 dp11
        cases dv3
        -- its place
        obtain ⟨xs', zL, cc⟩ := id cL11
        refine ⟨_, rfl, L, rfl, ⟨_, zL.sq⟩, fun W hW => lc_tup (K := K) (a := L) (xs := xs') (fun i H' => H' W = some (.lst (vS ((nms ps).take i))) ∧ Same H11 H') ⟨upd_same, Same.upd hW⟩ (fun i H' _ pr => (zL.same pr.2).sq) ?_ ?_⟩
        · rintro i x H1 hx ⟨hW1, s1⟩
          obtain ⟨a, z, kk, rfl, ea, ep⟩ := cc.get _ _ hx
          refine ⟨a, _, rfl, SqT.of (s1 _ _ ea), rfl, _, _, rfl, _, _, rfl, rfl, rfl, ?_⟩
          dsimp only [tYes]
          exact iteT ⟨_, rfl, nm_turn hW hW1 ep cp.l8 s1⟩
        rintro H12 ⟨hW1, s12⟩
        rw [show xs'.length = (nms ps).length by rw [cc.len, List.length_map], List.take_length] at hW1
        have fl : (vS (nms ps)).all flatV = true := List.all_eq_true.mpr fun v hv => by
          obtain ⟨x, _, rfl⟩ := List.mem_map.mp hv
          rfl
        refine ⟨.inl ⟨rfl, _, SqL.of hW1⟩, _, rfl, pa, _, _, .str x, rfl, rfl, SqT.of (s12 _ _ e1), rfl, W, vS (nms ps), .str x, (nms ps).idxOf x, .str x, rfl, rfl, SqL.of hW1, rfl, fl, by rw [List.getElem?_map, idx_at hx]; rfl, by simp [eqV], fun m z' lt ez => ?_, ?_⟩
        · rw [List.getElem?_map] at ez
          obtain ⟨z, ez2, rfl⟩ := Option.map_eq_some_iff.mp ez
          have := idx_no lt ez2
          simp [eqV, this]
        -- the rows by the law
        have hIt12 := hIt11.same s12
        refine ⟨_, rfl, _, rfl, _, rfl, pa, _, _, .str (updn u), rfl, rfl, SqT.of (s12 _ _ e1), rfl, R2, ps, x, u, rr, rfl, s12 _ _ eR11, (by obtain ⟨_, _, _, _, h3⟩ := hIt12; exact h3), lw_, hx, by omega, fun F0 H13 hF s13 eF => ?_⟩
        have nF : F0 ≠ t := (T11.same s12).tape.ne hF
        have s113 := s12.trans s13
        have hIt13 := hIt12.same s13
        have cV13 := cV11.same s113
        have cL13 := cL11.same s113
        have hIa13 := hIa11.same s113
        have dp13 := dp11.same s113
        have dv13 := dts dv s113
        have hst13 := hst11.same (dl_same (Same.b t s113))
        have esv13 := s113 _ _ esv11
        have T13 := T11.same s113
        have tb13 := tb11.ext s113
        clear hIt11 hIt12 cV11 cL11 hIa11 dp11 dv hst11 esv11 T11 tb11 e1 eR11 s12 s13 s113 hW1 hW zL cc hF fl
        -- run
        intro d hd
        have zd := Same.upd (o := .dK []) hd
        refine ⟨_, rfl, upd_same, [((Sum.inr "t" : Key), .ref ta)], rfl, by show 1 ≤ 15; decide, ?_⟩
        have s12 : Same H13 (L2.upd (L2.upd H13 d (.dK [])) d (.dK (mergeK [] [((Sum.inr "t" : Key), .ref ta)]))) := fun b o e => by
          rw [upd_ne (ne_of_none e hd)]
          exact zd b o e
        have ed : L2.upd (L2.upd H13 d (.dK [])) d (.dK (mergeK [] [((Sum.inr "t" : Key), .ref ta)])) d = some (.dK [((Sum.inr "t" : Key), .ref ta)]) := upd_same
        generalize L2.upd (L2.upd H13 d (.dK [])) d (.dK (mergeK [] [((Sum.inr "t" : Key), .ref ta)])) = H14 at s12 ed ⊢
        refine ⟨_, rfl, one, fun u1 hu1 => ⟨two, fun u2 hu2 => ?_⟩⟩
        have z1 := Same.upd (o := .tup [.ref pa]) hu1
        have z2 := Same.upd (o := .tup [.str "t", .ref u1]) hu2
        have e1 : L2.upd (L2.upd H14 u1 (.tup [.ref pa])) u2 (.tup [.str "t", .ref u1]) u1 = some (.tup [.ref pa]) := z2 _ _ upd_same
        have e2 : L2.upd (L2.upd H14 u1 (.tup [.ref pa])) u2 (.tup [.str "t", .ref u1]) u2 = some (.tup [.str "t", .ref u1]) := upd_same
        have s15 := s12.trans (z1.trans z2)
        have ed3 := (z1.trans z2) _ _ ed
        generalize L2.upd (L2.upd H14 u1 (.tup [.ref pa])) u2 (.tup [.str "t", .ref u1]) = H15 at e1 e2 s15 ed3 ⊢
        refine ⟨d, ta, cv, u2, u1, "t", _, rr, ps, [.ref pa], [.sort x u], rfl, ed3, tb13.ext s15, fun kv hk => ⟨"t", ta, cv, rr, List.mem_singleton.mp hk, hIt13.same s15, okt, valV_pos rfl⟩, by show 1 ≤ 4; decide, valV_pos rfl, hIt13.same s15, cV13.same s15, cp, lw_, by omega, e2, e1, .cons (dp13.same s15) .nil, fun st hs => by rw [List.mem_singleton.mp hs]; exact hx, by show 1 ≤ 10; decide, fun ta' cv' H16 n16 tb16 hI' ca' => ?_⟩
        have n := (ExtN.of s15).trans n16
        have hI' : IsTb C H16 ta' cv' (srtR ps x u rr) := hI'
        have T16 := TapeL.n n T13
        have eF16 := n _ _ eF nofun
        have cL16 := CA.n n cL13
        have hIa16 := IsTb.n n hIa13
        have dv16 := Dh.n (dl_n (t := t) n) dv13
        have hst16 := StepsAt.n (dl_n (t := t) n) hst13
        have esv16 := n _ _ esv13 nofun
        have sn2 := sno (.sort x u)
        have sn2 : srtAll ps rs (sts ++ [.sort x u]) = srtR ps x u rr := sn2
        clear hIt13 cV13 cL13 hIa13 dp13 dv13 hst13 esv13 T13 tb13 eF s12 s15 n16 n ed3 e1 e2 ed zd z1 z2 hd hu1 hu2 sno
        -- the steps so far
        refine ⟨fun σ H' => ∃ sv2 : Addr, σ = [some (.ref a0), some (.ref t), some (.ref L), some (.ref F0), some (.int (0 + (i : Nat))), y5, some (.ref a), some (.ref ta'), some (.ref sv2), some (.ref pa), some (.int ((nms ps).idxOf x : Nat)), y11, y12] ∧ H' sv2 = some (.tup (ys ++ [.ref pa])) ∧ Same H16 H', ?_, ?_⟩
        · refine ⟨_, rfl, _, rfl, one, fun w1 hw1 => ?_⟩
          have zu := Same.upd (o := .tup [.ref pa]) hw1
          refine ⟨sv, w1, ys, [.ref pa], rfl, rfl, SqT.of (zu _ _ esv16), SqT.of upd_same, Nat.le_trans (show _ ≤ 100 by rw [lys]; show sts.length + 1 ≤ 100; omega) (by decide), fun e => ?_, fun _ e => (by cases e), fun _ _ q hq => ?_⟩
          · subst e
            exact ⟨w1, rfl, upd_same, zu⟩
          · exact ⟨q, rfl, upd_same, zu.trans (Same.upd hq)⟩
        rintro σ H17 ⟨sv2, rfl, esv2, s17⟩
        have hI17 := hI'.same s17
        obtain ⟨dx, bv, h1, h2, h3⟩ := id hI17
        have lr2 : (srtR ps x u rr).length ≤ 40 := by rw [srtR_len]; omega
        have w2 := srtR_w (x := x) (u := u) lw_
        -- the same
        refine ⟨_, rfl, ta', dx, _, rfl, h1, rfl, ta', cv', _, rfl, hI17, _, rfl, ta', dx, _, rfl, h1, rfl, ta', cv', _, rfl, hI17, fun l5 hl5 => ⟨two, fun M1 hM1 => ?_⟩⟩
        have z5 := Same.upd (o := .lst ((srtR ps x u rr).map (·.1))) hl5
        have z6 := Same.upd (o := .lst [.ref cv', .ref l5]) hM1
        have s18 := z5.trans z6
        have e5 := z6 _ _ (show L2.upd H17 l5 (.lst ((srtR ps x u rr).map (·.1))) l5 = some (.lst ((srtR ps x u rr).map (·.1))) from upd_same)
        have e6 : L2.upd (L2.upd H17 l5 (.lst ((srtR ps x u rr).map (·.1)))) M1 (.lst [.ref cv', .ref l5]) M1 = some (.lst [.ref cv', .ref l5]) := upd_same
        generalize L2.upd (L2.upd H17 l5 (.lst ((srtR ps x u rr).map (·.1)))) M1 (.lst [.ref cv', .ref l5]) = H18 at s18 e5 e6 ⊢
        refine ⟨.ref M1, _, rfl, both_shw cp ((ca'.same s17).same s18) e5 (RowsAt.same h3 s18) w2 lr2 e6, ?_⟩
        refine ⟨_, rfl, _, rfl, two, fun M2 hM2 => ?_⟩
        have z7 := Same.upd (o := .lst [.ref L, .ref F0]) hM2
        have s178 := s17.trans s18
        have s1 := s178.trans z7
        refine ⟨.ref M2, _, rfl, both_shw cp (cL16.same s1) (s1 _ _ eF16) (RowsAt.same h3 (s18.trans z7)) w2 lr2 upd_same, rfl, _, rfl, ?_⟩
        rw [decide_eq_true rfl]
        refine iteF ⟨⟨F0, ta', cv', sv2, sts ++ [.sort x u], ys ++ [.ref pa], _, _, _, _, _, _, rfl, ?_, nF, ?_, (ca'.same s1), (s18.trans z7) _ _ esv2, (hst16.snoc dv16).same (dl_same (Same.b t s1)), by rw [List.length_append]; show sts.length + 1 ≤ i + 1; omega, fun st hs => ?_⟩, hIa16.same s1, cL16.same s1, T16.same s1, tb16.ext s1⟩
        · rw [sn2]
          exact s1 _ _ eF16
        · rw [sn2]
          exact hI'.same s1
        · rcases List.mem_append.mp hs with hs | hs
          · exact sn st hs
          · rw [List.mem_singleton.mp hs]
            exact hx
      -- all steps at once
      · clear T9 S9 T8 eR8 cL8 tb8 hI8 ee nR
        rintro σ H10 ⟨⟨R2, ta, cv, sv, sts, ys, y4, y5, y9, y10, y11, y12, rfl, eR, nR2, hIt, cV, esv, hst, ls, sn⟩, hIa, cL, T10, tb⟩
        have lys := hst.len
        intro d hd
        have zd := Same.upd (o := .dK []) hd
        refine ⟨_, rfl, upd_same, [((Sum.inr "t" : Key), .ref a)], rfl, by show 1 ≤ 15; decide, ?_⟩
        have s12 : Same H10 (L2.upd (L2.upd H10 d (.dK [])) d (.dK (mergeK [] [((Sum.inr "t" : Key), .ref a)]))) := fun b o e => by
          rw [upd_ne (ne_of_none e hd)]
          exact zd b o e
        have ed : L2.upd (L2.upd H10 d (.dK [])) d (.dK (mergeK [] [((Sum.inr "t" : Key), .ref a)])) d = some (.dK [((Sum.inr "t" : Key), .ref a)]) := upd_same
        generalize L2.upd (L2.upd H10 d (.dK [])) d (.dK (mergeK [] [((Sum.inr "t" : Key), .ref a)])) = H12 at s12 ed ⊢
        refine ⟨_, rfl, two, fun u2 hu2 => ?_⟩
        have z2 := Same.upd (o := .tup [.str "t", .ref sv]) hu2
        have s13 := s12.trans z2
        refine ⟨d, a, L, u2, sv, "t", _, rs, ps, ys, sts, rfl, z2 _ _ ed, tb.ext s13, fun kv hk => ⟨"t", a, L, rs, List.mem_singleton.mp hk, hIa.same s13, ok, valV_pos rfl⟩, by show 1 ≤ 4; decide, valV_pos rfl, hIa.same s13, cL.same s13, cp, rw_, by omega, upd_same, s13 _ _ esv, (hst.same dl_here).same s13, sn, by omega, fun ta' cv' H14 n14 tb14 hI' ca' => ?_⟩
        have n := (ExtN.of s13).trans n14
        have ll := srtAll_len (ps := ps) (sts := sts) (rs := rs)
        have w2 := srtAll_w (sts := sts) rw_
        obtain ⟨dx, bv, h1, h2, h3⟩ := id hI'
        refine ⟨ta', dx, _, rfl, h1, rfl, ta', cv', _, rfl, hI', fun l5 hl5 => ?_⟩
        have z5 := Same.upd (o := .lst ((srtAll ps rs sts).map (·.1))) hl5
        refine ⟨.ref l5, _, rfl, rows_shw cp upd_same (RowsAt.same h3 z5) w2 (by omega), _, rfl, .ref R2, _, rfl, rows_shw cp (z5 _ _ (n _ _ eR nofun)) (RowsAt.same h3 z5) w2 (by omega), rfl, ?_⟩
        rw [decide_eq_true rfl]
        exact k _
end
end
end K17
set_option Elab.async false
set_option linter.all false
set_option maxRecDepth 100000
set_option maxHeartbeats 8000000
namespace K17
open PySem PySem.Spec PyProof.Rows L2 Lc He
theorem facts {P : Program} {w : World} {K : PySem.W.Frag} {h : Heap} {mg : Str → Option Value} {f : Addr} (X : K.In h) (G : h.Ns mainGlobals mg) (hfa : mg ("law" : Str) = some (.ref f)) (c : SaysD fa fn K) (e : ex K = true) (tb : TabsOk ts w K) :
    ∃ (fd fd2 : FuncData) (c : Addr), mg "sorted_rows" = some (.ref (ga K "sorted_rows")) ∧ (∃ o, K.lookup (ga K "sorted_rows") = some o ∧ o.data = .func fd2 ∧ fd2.code = .ref c) ∧ (∀ (s : Shared) (v : Value), BindsTo s fd ⟨[v], []⟩ [("_law_script", v)]) ∧ ∀ (p : Addr) (base : Heap), K.In base → base.Ns mainGlobals mg → LamX.TabB base mg c p → FnG P w K mg base 19 f fd ["_law_script"] (spLaw K p) := by
  obtain ⟨fd0, D0⟩ := c.def_ 0 (d := dMt "Table" "__init__" "Table.__init__" sTI) rfl
  obtain ⟨fd1, D1⟩ := c.def_ 1 (d := dMt "Table" "columns" "Table.columns" sTC) rfl
  obtain ⟨fd2, D2⟩ := c.def_ 2 (d := dMt "Table" "rows" "Table.rows" sTR) rfl
  obtain ⟨fd3, D3⟩ := c.def_ 3 (d := dOf "names_of" sNo) rfl
  obtain ⟨fd4, D4⟩ := c.def_ 4 (d := dOf "kind_in" sKi) rfl
  obtain ⟨fd5, D5⟩ := c.def_ 5 (d := dOf "behind_sort" sSo) rfl
  obtain ⟨fd6, D6⟩ := c.def_ 6 (d := dOf "word_of" sWd) rfl
  obtain ⟨fd7, D7⟩ := c.def_ 7 (d := dOf "columns_behind" sCb) rfl
  obtain ⟨fd8, D8⟩ := c.def_ 8 (d := dOf "resolved" sRes) rfl
  obtain ⟨fd9, D9⟩ := c.def_ 9 (d := dOf "by_size" sBz) rfl
  obtain ⟨fd10, D10⟩ := c.def_ 10 (d := dOf "order_key" sOk) rfl
  obtain ⟨fd11, D11⟩ := c.def_ 11 (d := dOf "sorted_rows" sSr) rfl
  obtain ⟨fd12, D12⟩ := c.def_ 12 (d := dKw "run" sRun [("setting", .non)]) rfl
  obtain ⟨fd13, D13⟩ := c.def_ 13 (d := dOf "_law_tape" sTape) rfl
  obtain ⟨fd14, D14⟩ := c.def_ 14 (d := dOf "_law_draw" sDraw) rfl
  obtain ⟨fd15, D15⟩ := c.def_ 15 (d := dOf "_law_lowest" sLst) rfl
  obtain ⟨fd16, D16⟩ := c.def_ 16 (d := dOf "_law_rational" sRat) rfl
  obtain ⟨fd17, D17⟩ := c.def_ 17 (d := dOf "_law_name" sLnm) rfl
  obtain ⟨fd18, D18⟩ := c.def_ 18 (d := dOf "_law_fresh" sFr) rfl
  obtain ⟨fd19, D19⟩ := c.def_ 19 (d := dOf "_law_columns" sCls) rfl
  obtain ⟨fd20, D20⟩ := c.def_ 20 (d := dOf "_law_value" sLv) rfl
  obtain ⟨fd21, D21⟩ := c.def_ 21 (d := dOf "_law_values" sLvs) rfl
  obtain ⟨fd22, D22⟩ := c.def_ 22 (d := dOf "_law_sort_step" sSrt) rfl
  obtain ⟨fd23, D23⟩ := c.def_ 23 (d := dOf "_law_less" sLs) rfl
  obtain ⟨fd24, D24⟩ := c.def_ 24 (d := dOf "_law_ahead" sAh) rfl
  obtain ⟨fd25, D25⟩ := c.def_ 25 (d := dOf "_law_sorted" sSd) rfl
  obtain ⟨fd26, D26⟩ := c.def_ 26 (d := dOf "law" sLaw) rfl
  have ef := hfa.symm.trans (glo_ok X G (c.fact 0 (f := .glo "law") rfl))
  cases ef
  have g : ∀ (i : Nat) (x : Str), fa[i]? = some (.glo x) → mg x = some (.ref (ga K x)) := fun i x z => glo_ok X G (c.fact i (f := .glo x) z)
  have z : ∀ (i : Nat) (x : Str), fa[i]? = some (.free x) → mg x = none := fun i x z => free_ok X G (c.fact i (f := .free x) z)
  have T : Bt mg := ⟨z 29 _ rfl, z 30 _ rfl, z 31 _ rfl, z 32 _ rfl, z 33 _ rfl, z 34 _ rfl, z 35 _ rfl, z 36 _ rfl, z 37 _ rfl, z 38 _ rfl, z 39 _ rfl, z 40 _ rfl, z 41 _ rfl, z 42 _ rfl, z 43 _ rfl, z 44 _ rfl, z 45 _ rfl, z 46 _ rfl⟩
  obtain ⟨uc0, mc0⟩ := int_ok X G (c.fact 48 (f := .int "LIMIT" lim) rfl)
  have a : ∀ (i : Nat) {b : Bool}, (exL K)[i]? = some b → b = true := fun i _ z => all_at e i z
  have b0 : Binds K fd0 ["self", "columns", "rows"] [] := D0.bindsN fun _ _ _ _ _ _ us hl => match us, hl with | [_, _, _], _ => rfl
  have b1 : Binds K fd1 ["self"] [] := D1.bindsN fun _ _ _ _ _ _ us hl => match us, hl with | [_], _ => rfl
  have b2 : Binds K fd2 ["self"] [] := D2.bindsN fun _ _ _ _ _ _ us hl => match us, hl with | [_], _ => rfl
  have b3 : Binds K fd3 ["columns"] [] := D3.bindsN fun _ _ _ _ _ _ us hl => match us, hl with | [_], _ => rfl
  have b4 : Binds K fd4 ["columns", "name"] [] := D4.bindsN fun _ _ _ _ _ _ us hl => match us, hl with | [_, _], _ => rfl
  have b5 : Binds K fd5 ["tables", "columns", "step"] [] := D5.bindsN fun _ _ _ _ _ _ us hl => match us, hl with | [_, _, _], _ => rfl
  have b6 : Binds K fd6 ["step"] [] := D6.bindsN fun _ _ _ _ _ _ us hl => match us, hl with | [_], _ => rfl
  have b7 : Binds K fd7 ["tables", "columns", "step"] [] := D7.bindsN fun _ _ _ _ _ _ us hl => match us, hl with | [_, _, _], _ => rfl
  have b8 : Binds K fd8 ["pipeline", "setting"] [] := D8.bindsN fun _ _ _ _ _ _ us hl => match us, hl with | [_, _], _ => rfl
  have b9 : Binds K fd9 ["value"] [] := D9.bindsN fun _ _ _ _ _ _ us hl => match us, hl with | [_], _ => rfl
  have b10 : Binds K fd10 ["value"] [] := D10.bindsN fun _ _ _ _ _ _ us hl => match us, hl with | [_], _ => rfl
  have b11 : Binds K fd11 ["tables", "table", "step"] [] := D11.bindsN fun _ _ _ _ _ _ us hl => match us, hl with | [_, _, _], _ => rfl
  obtain ⟨ds12, v12, b12⟩ := FunD.binds0 (ps := ["tables", "pipeline", "setting"]) D12 2 (List.cons_ne_nil _ _) rfl (fun D doc pm an cdv ct us ks hl hk => match us, ks, hl, hk with | [_, _], [_], _, _ => ⟨_, _, _, _, _, _, rfl, rfl, rfl⟩)
  have b13 : Binds K fd13 ["_law_script"] [] := D13.bindsN fun _ _ _ _ _ _ us hl => match us, hl with | [_], _ => rfl
  have b14 : Binds K fd14 ["_law_tape_here", "_law_many"] [] := D14.bindsN fun _ _ _ _ _ _ us hl => match us, hl with | [_, _], _ => rfl
  have b15 : Binds K fd15 ["_law_n", "_law_d"] [] := D15.bindsN fun _ _ _ _ _ _ us hl => match us, hl with | [_, _], _ => rfl
  have b16 : Binds K fd16 ["_law_tape_here", "_law_wide"] [] := D16.bindsN fun _ _ _ _ _ _ us hl => match us, hl with | [_, _], _ => rfl
  have b17 : Binds K fd17 ["_law_tape_here"] [] := D17.bindsN fun _ _ _ _ _ _ us hl => match us, hl with | [_], _ => rfl
  have b18 : Binds K fd18 ["_law_tape_here", "_law_taken"] [] := D18.bindsN fun _ _ _ _ _ _ us hl => match us, hl with | [_, _], _ => rfl
  have b19 : Binds K fd19 ["_law_tape_here", "_law_lead", "_law_many", "_law_taken"] [] := D19.bindsN fun _ _ _ _ _ _ us hl => match us, hl with | [_, _, _, _], _ => rfl
  have b20 : Binds K fd20 ["_law_tape_here", "_law_kind", "_law_wide"] [] := D20.bindsN fun _ _ _ _ _ _ us hl => match us, hl with | [_, _, _], _ => rfl
  have b21 : Binds K fd21 ["_law_tape_here", "_law_columns_here", "_law_wide"] [] := D21.bindsN fun _ _ _ _ _ _ us hl => match us, hl with | [_, _, _], _ => rfl
  have b22 : Binds K fd22 ["_law_tape_here", "_law_columns_here"] [] := D22.bindsN fun _ _ _ _ _ _ us hl => match us, hl with | [_, _], _ => rfl
  have b23 : Binds K fd23 ["_law_a", "_law_b"] [] := D23.bindsN fun _ _ _ _ _ _ us hl => match us, hl with | [_, _], _ => rfl
  have b24 : Binds K fd24 ["_law_one", "_law_other", "_law_order"] [] := D24.bindsN fun _ _ _ _ _ _ us hl => match us, hl with | [_, _, _], _ => rfl
  have b25 : Binds K fd25 ["_law_rows", "_law_place", "_law_order"] [] := D25.bindsN fun _ _ _ _ _ _ us hl => match us, hl with | [_, _, _], _ => rfl
  have bl := FunD.bindsA (ps := ["_law_script"]) D26 fun _ _ _ _ _ _ us hl => match us, hl with | [_], _ => rfl
  obtain ⟨cL, hL⟩ := code_of D11
  refine ⟨fd26, fd11, cL, g 14 _ rfl, hL, fun s v => bl s [v] rfl, fun p base _ _ TB => ?_⟩
  obtain ⟨_, _, _, hcL⟩ := hL
  have m_Table : mg "Table" = some (.ref (ga K "Table")) := g 1 _ rfl
  have m_LENGTHS : mg "LENGTHS" = some (.ref (ga K "LENGTHS")) := g 2 _ rfl
  have m_BEHIND : mg "BEHIND" = some (.ref (ga K "BEHIND")) := g 3 _ rfl
  have m_ROWS_BEHIND : mg "ROWS_BEHIND" = some (.ref (ga K "ROWS_BEHIND")) := g 4 _ rfl
  have m_ORDERS : mg "ORDERS" = some (.ref (ga K "ORDERS")) := g 5 _ rfl
  have m_names_of : mg "names_of" = some (.ref (ga K "names_of")) := g 6 _ rfl
  have m_kind_in : mg "kind_in" = some (.ref (ga K "kind_in")) := g 7 _ rfl
  have m_behind_sort : mg "behind_sort" = some (.ref (ga K "behind_sort")) := g 8 _ rfl
  have m_word_of : mg "word_of" = some (.ref (ga K "word_of")) := g 9 _ rfl
  have m_columns_behind : mg "columns_behind" = some (.ref (ga K "columns_behind")) := g 10 _ rfl
  have m_resolved : mg "resolved" = some (.ref (ga K "resolved")) := g 11 _ rfl
  have m_by_size : mg "by_size" = some (.ref (ga K "by_size")) := g 12 _ rfl
  have m_order_key : mg "order_key" = some (.ref (ga K "order_key")) := g 13 _ rfl
  have m_sorted_rows : mg "sorted_rows" = some (.ref (ga K "sorted_rows")) := g 14 _ rfl
  have m_run : mg "run" = some (.ref (ga K "run")) := g 15 _ rfl
  have m__law_tape : mg "_law_tape" = some (.ref (ga K "_law_tape")) := g 16 _ rfl
  have m__law_draw : mg "_law_draw" = some (.ref (ga K "_law_draw")) := g 17 _ rfl
  have m__law_lowest : mg "_law_lowest" = some (.ref (ga K "_law_lowest")) := g 18 _ rfl
  have m__law_rational : mg "_law_rational" = some (.ref (ga K "_law_rational")) := g 19 _ rfl
  have m__law_name : mg "_law_name" = some (.ref (ga K "_law_name")) := g 20 _ rfl
  have m__law_fresh : mg "_law_fresh" = some (.ref (ga K "_law_fresh")) := g 21 _ rfl
  have m__law_columns : mg "_law_columns" = some (.ref (ga K "_law_columns")) := g 22 _ rfl
  have m__law_value : mg "_law_value" = some (.ref (ga K "_law_value")) := g 23 _ rfl
  have m__law_values : mg "_law_values" = some (.ref (ga K "_law_values")) := g 24 _ rfl
  have m__law_sort_step : mg "_law_sort_step" = some (.ref (ga K "_law_sort_step")) := g 25 _ rfl
  have m__law_less : mg "_law_less" = some (.ref (ga K "_law_less")) := g 26 _ rfl
  have m__law_ahead : mg "_law_ahead" = some (.ref (ga K "_law_ahead")) := g 27 _ rfl
  have m__law_sorted : mg "_law_sorted" = some (.ref (ga K "_law_sorted")) := g 28 _ rfl
  have mf_sorted : mg "sorted" = none := z 47 _ rfl
  have Tb : TbF K mg (ga K "Table") _ := ⟨mkr_ok (a 1 rfl), cls_ok (a 2 rfl), noat_ok (a 3 rfl), noat_ok (a 4 rfl), m_Table⟩
  have G0 : FnOk P w K mg base CX0 (1) _ fd0 ["self", "columns", "rows"] (spTI (ga K "Table")) := ok_ti (fun_of D0) T Tb
  have G1 : FnOk P w K mg base CX0 (1) _ fd1 ["self"] (spTC (ga K "Table")) := ok_tc (fun_of D1) Tb
  have G2 : FnOk P w K mg base CX0 (1) _ fd2 ["self"] (spTR (ga K "Table")) := ok_tr (fun_of D2) T Tb
  have M : TbM P w K mg base (ga K "Table") := ⟨⟨_, _, Tb, G0, b0⟩, ⟨_, _, meth_ok (a 5 rfl), G1, b1⟩, ⟨_, _, meth_ok (a 6 rfl), G2, b2⟩⟩
  have t0 : ∃ es n, KDict K w (ga K "LENGTHS") es n := tb 0 _ rfl
  have t1 : ∃ es n, KDict K w (ga K "BEHIND") es n := tb 1 _ rfl
  have t2 : ∃ es n, KDict K w (ga K "ROWS_BEHIND") es n := tb 2 _ rfl
  have G3 : FnOk P w K mg base CX0 (1) _ fd3 ["columns"] (spNo) := ok_No (fun_of D3) T
  have G4 : FnOk P w K mg base CX0 (1) _ fd4 ["columns", "name"] (spKi) := ok_Ki (fun_of D4) T
  have G5 : FnOk P w K mg base CX0 (2) _ fd5 ["tables", "columns", "step"] (spBeh "sort") := ok_So (fun_of D5) T m_ORDERS (fun H => tupB_ok (a 7 rfl) H) G4 m_kind_in D4.kp b4
  have G6 : FnOk P w K mg base CX0 (1) _ fd6 ["step"] (spWd) := ok_Wd (fun_of D6) T
  have A2 : CbA P w K mg base (ga K "LENGTHS") (ga K "BEHIND") := by
    refine ⟨m_LENGTHS, m_BEHIND, t0, fun st => ?_, fun st => ?_⟩
    · cases st with
      | sort y u => exact di_ok t0 (a 8 rfl)
    · cases st with
      | sort y u => exact ⟨_, kdct_of t1 (eqO_ok (a 9 rfl)), ⟨⟨_, _, G5.mono (by decide), D5.kp, b5⟩⟩⟩
  have G7 : FnOk P w K mg base CX0 (17) _ fd7 ["tables", "columns", "step"] (spCb) := ok_Cb (fun_of D7) T A2 G6 m_word_of D6.kp b6
  have G8 : FnOk P w K mg base CX0 (1) _ fd8 ["pipeline", "setting"] (spRes) := ok_Res (fun_of D8) T
  have G9 : FnOk P w K mg base CX0 (1) _ fd9 ["value"] (spBz) := ok_Bz (fun_of D9) T mc0
  have G10 : FnOk P w K mg base CX0 (2) _ fd10 ["value"] (spOk) := ok_Ok (fun_of D10) T G9 m_by_size D9.kp b9
  have G11 : FnOk P w K mg base CX0 (6) _ fd11 ["tables", "table", "step"] (spSr (ga K "Table") p) := ok_Sr (fun_of D11) T M hcL TB mf_sorted G3 m_names_of D3.kp b3 G10 m_order_key D10.kp b10
  have A3 : RbA P w K mg base (ga K "Table") p (ga K "ROWS_BEHIND") (ga K "sorted_rows") := ⟨m_ROWS_BEHIND, kdct_of t2 (eqO_ok (a 10 rfl)), ⟨⟨_, _, G11.mono (by decide), D11.kp, b11⟩⟩⟩
  have G12 : FnOk P w K mg base CX0 (18) _ fd12 ["tables", "pipeline", "setting"] (spRun (ga K "Table") p) := ok_Run (He5.fun_of D12) T M A3 G8 m_resolved D8.kp b8 G7 m_columns_behind D7.kp b7
  have G13 : FnOk P w K mg base CX0 (1) _ fd13 ["_law_script"] (spTape K) := ok_tape (fun_of D13) T
  have G14 : FnOk P w K mg base CX0 (1) _ fd14 ["_law_tape_here", "_law_many"] (spDrawL) := ok_draw (fun_of D14) T
  have G15 : FnOk P w K mg base CX0 (1) _ fd15 ["_law_n", "_law_d"] (spLowest) := ok_lst (fun_of D15) T
  have G16 : FnOk P w K mg base CX0 (2) _ fd16 ["_law_tape_here", "_law_wide"] (spRatL) := ok_rat (fun_of D16) T G14 m__law_draw D14.kp b14 G15 m__law_lowest D15.kp b15
  have G17 : FnOk P w K mg base CX0 (2) _ fd17 ["_law_tape_here"] (spLNm) := ok_lnm (fun_of D17) T G14 m__law_draw D14.kp b14
  have G18 : FnOk P w K mg base CX0 (3) _ fd18 ["_law_tape_here", "_law_taken"] (spFr) := ok_fr (fun_of D18) G17 m__law_name D17.kp b17
  have G19 : FnOk P w K mg base CX0 (4) _ fd19 ["_law_tape_here", "_law_lead", "_law_many", "_law_taken"] (spCls) := ok_cls (fun_of D19) T G14 m__law_draw D14.kp b14 G18 m__law_fresh D18.kp b18
  have G20 : FnOk P w K mg base CX0 (3) _ fd20 ["_law_tape_here", "_law_kind", "_law_wide"] (spVal) := ok_lv (fun_of D20) G14 m__law_draw D14.kp b14 G16 m__law_rational D16.kp b16 G17 m__law_name D17.kp b17
  have G21 : FnOk P w K mg base CX0 (4) _ fd21 ["_law_tape_here", "_law_columns_here", "_law_wide"] (spVals) := ok_lvs (fun_of D21) T G20 m__law_value D20.kp b20
  have G22 : FnOk P w K mg base CX0 (2) _ fd22 ["_law_tape_here", "_law_columns_here"] (spSrt) := ok_Srt (fun_of D22) T G14 m__law_draw D14.kp b14
  have G23 : FnOk P w K mg base CX0 (1) _ fd23 ["_law_a", "_law_b"] (spLs) := ok_Ls (fun_of D23) T
  have G24 : FnOk P w K mg base CX0 (2) _ fd24 ["_law_one", "_law_other", "_law_order"] (spAh) := ok_Ah (fun_of D24) T G23 m__law_less D23.kp b23
  have G25 : FnOk P w K mg base CX0 (3) _ fd25 ["_law_rows", "_law_place", "_law_order"] (spSd) := ok_Sd (fun_of D25) T G24 m__law_ahead D24.kp b24
  exact ok_Law (fun_of D26) T M G12 m_run D12.kp b12 v12 G13 m__law_tape D13.kp b13 G14 m__law_draw D14.kp b14 G19 m__law_columns D19.kp b19 G21 m__law_values D21.kp b21 G22 m__law_sort_step D22.kp b22 G25 m__law_sorted D25.kp b25
end K17
open PySem PySem.W PySem.Calls PyProof.Rows
theorem PySem.Challenge.cw_liveclaims_k17_sorted_rows_holds : PySem.Challenge.rw_liveclaims_k17_sorted_rows.Holds := by
  w_on; o_law
  refine HandSHeadRun.head_any (r := OpenLaw.row PySem.Challenge.rw_liveclaims_k17_sorted_rows) (q := view (OpenLaw.row PySem.Challenge.rw_liveclaims_k17_sorted_rows).prog [111, 137]) (H := K17.hk) (ob := K17.ob) (M := 20000) (loose := K17.loose) (d := HandSHeadRun.topDef (OpenLaw.row PySem.Challenge.rw_liveclaims_k17_sorted_rows).prog 137) (kwd := []) K17.ob_eq
    (by kernel_rfl) (fun s => by kernel_rfl) K17.run (by kernel_rfl) (by kernel_rfl) (by kernel_rfl) (by rfl) (by first | assumption | decide +kernel) (by decide +kernel) ⟨rfl, rfl, rfl, rfl, rfl, by decide +kernel⟩ ?hw ?hc
  case hw => w_witness2
  case hc =>
    refine Lc.walk_TE2 (l := PySem.Challenge.rw_liveclaims_k17_sorted_rows) (n := 63) (k := 19) (x2 := "sorted_rows") (x := "_law_script") rfl (by decide) (by kernel_rfl) ⟨rfl, by decide, by decide⟩ (by decide +kernel) ?F
    intro w mg fa h Y G hmg0
    obtain ⟨K, KX, c, e, tb⟩ := Y
    have hmg : mg ("law" : PySem.Str) = some (.ref fa) := by
      have e : (HandSHeadRun.topDef (OpenLaw.row PySem.Challenge.rw_liveclaims_k17_sorted_rows).prog 137).name = ("law" : PySem.Str) := by kernel_rfl
      rw [← e]
      exact hmg0
    obtain ⟨fd, fd2, c0, hm2, hc0, hb, hF⟩ := K17.facts (P := (PySem.Challenge.rw_liveclaims_k17_sorted_rows).prog) (w := w) KX G hmg c e tb
    exact ⟨K, fd, fd2, c0, _, fun p => K17.spLaw K p, KX, Lc.all_at e 0 rfl, hm2, hc0, hb, fun p H a ns hl hP hS => ⟨a, ns, rfl, hS, fun q hq => by rw [List.mem_singleton.mp hq]; exact LamX.TabS.nil hP, fun _ => rfl⟩, hF⟩
