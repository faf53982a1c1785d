import PyProof.Rows.All
import Wide.All
import OpenK.AllK
import Wide.FinOn
import KE.KExcIs
import HandS.ForMost
import HandS.Exc
import HandS.ExcInit
import HandS.IsInst
import HandS.ClsMeth
import HandS.Defaults
import KE.KStateDown
import HandS.Head0
import HandS.Head1
import HandS.Head2
import HandS.HeadEnd
import HandS.HeadHook1
import HandS.HeadHook2
import HandS.Wide
import HandS.Codes
import KE.DataEq
import PySem.Challenge.RW_meetwhere_k00_errors_side_by_side
set_option Elab.async false
set_option linter.all false
set_option maxRecDepth 100000
namespace My
open PySem
/-- the text, by places -/
def topS (i : Nat) : Stmt := PySem.Challenge.pw_meetwhere_k00_errors_side_by_side.main.body.getD i (.Pass ⟨0, 0, 0, 0⟩)
/-- the classes in the order of the law's lists, each with its attributes -/
def tab : List (Str × List Str) := ([
  ("BadStore", ["index", "what"]),
  ("BadQuestion", ["what", "index"]),
  ("BadUnion", ["what", "index"]),
  ("BadDealing", ["what", "index"]),
  ("BadDemands", ["index", "what"]),
  ("NotHeld", ["kind", "hand"]),
  ("BadPlan", ["index", "what"]),
  ("BadShares", ["index", "what"]),
  ("BadWidths", ["index"]),
  ("BadRow", ["what"]),
  ("BadReading", ["reading"]),
  ("BadMoves", ["index"])] : List (Str × List Str)) ++ ([
  ("BadLetters", ["letters"]),
  ("BadText", ["place"]),
  ("BadSorts", ["what"]),
  ("BadValue", ["value"]),
  ("NoSort", ["number"]),
  ("BadTold", ["told"]),
  ("TooMany", ["most"]),
  ("NoAnswer", ["answer"]),
  ("NoKind", ["kind"]),
  ("NoHand", ["hand"]),
  ("BadLost", ["index"]),
  ("BadOrder", ["order"])] : List (Str × List Str)) ++ ([
  ("Apart", ["what"]),
  ("BadFactor", ["factor"]),
  ("BadNamed", ["value"]),
  ("BadCopy", ["what"]),
  ("NotRight", ["demand"]),
  ("BadRoom", ["room"]),
  ("NoRound", ["index"]),
  ("NoPlainAnswer", ["plan"]),
  ("BadUnions", ["unions"]),
  ("EmptyRows", ["rows"]),
  ("BadMost", ["most"]),
  ("BadStep", ["index"])] : List (Str × List Str)) ++ ([
  ("BadCopies", ["index"]),
  ("BadHands", ["hands"]),
  ("BadSeen", ["index"]),
  ("Clash", ["index"]),
  ("BadEdits", ["index"]),
  ("BadGoal", ["what"]),
  ("NoStep", ["what"]),
  ("Full", ["most"]),
  ("NoRow", ["row"]),
  ("NothingLeft", ["number"]),
  ("StillTrial", ["deeds"])] : List (Str × List Str))
end My
set_option Elab.async false
set_option linter.all false
set_option maxRecDepth 100000
set_option maxHeartbeats 4000000
namespace My
open PySem PySem.Spec PyProof.Rows L2
/-! ### exceptions of the program's own, made and kept as values -/
/-- what the walk asks of such a class, beside OexC -/
structure ExT (K : PySem.W.Frag) (C : Addr) : Prop where
  o : OexC K C
  atr : PySem.W.findIn K (.ref C) "__getattribute__" = some (some (.builtin "BaseException.__getattribute__"))
  atg : PySem.W.findIn K (.ref C) "__getattr__" = some none
  isc : PySem.W.isClsIn K C = true
  dct : PySem.W.hasDictIn K C = true
  cl : PySem.W.findIn K (.ref C) "__class__" = some (some (.builtin "object.__class__"))
  gt : PySem.W.specialIn K (.builtin "object.__class__") "__get__" = some (some (.builtin "getset_descriptor.__get__"))
  tk : PySem.W.takesIn K (.builtin "object.__class__") = some true
  ob : PySem.W.mroIn K C (.type "object") = some true
/-- at a: an exception of the class at C with these attributes -/
def ExAt (H : Hp) (a C : Addr) (fs : List (Str × V)) : Prop := ∃ dx, H a = some (exo a C (some dx)) ∧ H dx = some (exd dx fs)
theorem ExAt.keep {H H' : Hp} {a C : Addr} {fs : List (Str × V)} (h : ExAt H a C fs) (s : Same H H') : ExAt H' a C fs := by
  obtain ⟨dx, h1, h2⟩ := h
  exact ⟨dx, s _ _ h1, s _ _ h2⟩
section
variable {X : Cx} {pins : List (Addr × Obj)} {σ : L2.St} {H : Hp} {s : Shared} {a C : Addr} {fs : List (Str × V)}
theorem exAt_inst (I : Inv X pins σ H s) (h : ExAt H a C fs) : ∃ (oe od : Obj), PySem.W.InstAt s.heap a oe C (some od) ∧ ∃ mA : Str → Option Value, (∀ f, PySem.W.lookIn f od = some (mA f)) ∧ ∀ f, RelO (fs.lookup f) (mA f) := by
  obtain ⟨dx, h1, h2⟩ := h
  obtain ⟨t1, e1⟩ := exo_at I.hok h1
  obtain ⟨mA, hns, hr⟩ := exd_at I.hok h2
  obtain ⟨od, ho, hl⟩ := lookIn_ns hns
  exact ⟨_, od, ⟨e1, rfl, rfl, ho⟩, mA, hl, hr⟩
/-- e.f of such an exception -/
def tExF (K : PySem.W.Frag) (ta : TE) (f : Str) : TE := fun σ H Q => ta σ H fun x H1 => ∃ a C fs v, x = .ref a ∧ ExAt H1 a C fs ∧ ExT K C ∧ PySem.W.findIn K (.ref C) f = some none ∧ fs.lookup f = some v ∧ Q v H1
theorem pe_exf {e : Expr} {f : Str} {ta : TE} {pos : Pos} (he : PE X e ta) (hb : attributeBase e f X.env (eval e X.env) = eval e X.env := by rfl) : PE X (.Attribute e f pos) (tExF X.K ta f) := by
  refine ⟨fun pins s σ H Q I h => ?_⟩
  refine attr_of hb (thn (he.run pins s σ H _ I h) fun u s1 ⟨x, H1, I1, rx, a, C, fs, v, ex, ea, T, hno, hl, q⟩ => ?_)
  subst ex
  obtain rfl : u = Value.ref a := rx
  obtain ⟨oe, od, J, mA, hm, hr⟩ := exAt_inst I1 ea
  have hrf := hr f
  rw [hl] at hrf
  obtain ⟨u, hu, ru⟩ := RelO.some_of hrf
  exact HandSPX.exc_get I1.kIn J T.atr T.atg T.o.exC (PySem.W.findObj_own T.dct hno rfl (by rw [hm, hu])) (handed_of ru) ⟨v, H1, I1.tok _, ru, q⟩
/-- isinstance(e, c) -/
def rIsV (K : PySem.W.Frag) : List V → Hp → VK → Prop := fun xs H Q => ∃ (a C : Addr) (fs : List (Str × V)) (c : V) (u : Value) (b : Bool), xs = [.ref a, c] ∧ ExAt H a C fs ∧ ExT K C ∧ ClsV c u ∧ PySem.W.kitOne K (.ref C) u = some b ∧ Q (.bl b) H
theorem call_isV : CallR X (.builtin "isinstance") (rIsV X.K) := by
  intro pins s σ H xs us Q I r h
  obtain ⟨a, C, fs, c, u, b, rfl, ea, T, k, e, q⟩ := h
  obtain ⟨u1, u2, rfl, r1, r2⟩ := vals2 r
  have e2 := k.eq r2
  subst e2
  obtain rfl : u1 = Value.ref a := r1
  obtain ⟨oe, od, J, _⟩ := exAt_inst I ea
  exact PySem.W.kia_one (PySem.W.kitx_exc T.isc T.atr T.atg T.o.exC T.cl T.gt T.tk T.ob) I.kIn J e (fun z => nomatch z) fun tk => ⟨.bl b, H, I.tok tk, rfl, q⟩
end
/-! ### D.m(..), D a class of the program, m a def of it -/
section
variable {X : Cx} {k j : Nat} {x m : Str} {sp : Sp} {p p1 p2 pos : Pos} {e : Expr} {es : List Expr} {t : TA} {D f : Addr} {fd : FuncData} {ps : List Str} {mc : Value}
theorem pe_clsfn {pl : Sem Bool} (r : ClX.CRead X.K D mc) (e0 : PySem.W.findCls X.K (.ref D) mc m = some (.val (.ref f))) (F : FnOk X.prog X.w X.K X.mg X.base CX0 k f fd ps sp) (hr : Room j X.A) (hk : k ≤ j) (kp : PySem.W.keepIn X.K (.ref f) = true) (hb : Binds X.K fd ps []) (hg : Gl X x) (hm : X.mg x = some (.ref D)) (ha : PA X (e :: es) t)
    (hc : eval (.Call (.Attribute (.Name x p1) m p2) (e :: es) [] pos) X.env = (do
      let ov ← eval (.Name x p1) X.env
      standAt p2.atName
      let (f, first) ← holding [ov] (getMethod ov m pl)
      callWith pos f first (backTo pos (starEach (e :: es) X.env)) (backToKw pos (keywordEach [] X.env))) := by rfl)
    (hdg : (x == ("__debug__" : Str)) = false := by decide)
    (hst : starEach (e :: es) X.env = (false, eval e X.env) :: starEach es X.env := by rfl) (hpn : (backTo pos (starEach es X.env)).any (·.1) = false := by rfl) :
    PE X (.Call (.Attribute (.Name x p1) m p2) (e :: es) [] pos) (tCall sp [] E0 t) := by
  refine ⟨fun pins s σ H Q I h => ?_⟩
  refine PySem.W.methodCall_KW (ld_glob I hg hm ?_ hdg) hc
  refine PySem.W.method_cls I.kIn r.ga (PySem.W.cls_value I.kIn r.rd e0 rfl ?_)
  show wpAny _ _ (callWith pos (Value.ref f) [] (backTo pos (starEach (e :: es) X.env)) []) _ _ _
  refine PySem.W.callWith_K (h₀ := X.base) I.ok.mod.kin kp (thn (ha.run pos pins _ σ H _ (I.tok _) h) fun us s1 ⟨vs, H1, I1, r, q⟩ => ⟨I1.kIn, ?_⟩) hst hpn
  exact run_fn F (hr.mono hk) hb .nil pass0 I1 r q
end
/-! ### C(e, ..) as a value -/
def tMkV (C : Addr) (sp : Sp) (vs : List V) (H1 : Hp) (Q : VK) : Prop := vs.length ≤ 1000 ∧ ∀ a, H1 a = none → sp (.ref a :: vs) (upd H1 a (exo a C none)) (fun v H2 => v = .non ∧ Q (.ref a) H2) E0
section
variable {X : Cx} {k j : Nat} {x : Str} {sp : Sp} {p pos : Pos} {e : Expr} {es : List Expr} {ta : TA} {C fI : Addr} {fd : FuncData} {ps : List Str}
theorem pe_mkv (T : OexC X.K C) (iC : PySem.W.findIn X.K (.ref C) "__init__" = some (some (.ref fI))) (tI : PySem.W.typeIn X.K (.ref fI) = some (.type "function"))
    (F1 : FnOk X.prog X.w X.K X.mg X.base CX0 k fI fd ps sp) (hr : Room j X.A) (hk : k + 1 ≤ j) (hb : Binds X.K fd ps []) (hg : Gl X x) (hm : X.mg x = some (.ref C)) {R : List V → Hp → VK → Prop} (cv : ∀ vs H1 Q, R vs H1 Q → tMkV C sp vs H1 Q) (ha : PA X (e :: es) ta)
    (hdg : (x == ("__debug__" : Str)) = false := by decide) (hst : starEach (e :: es) X.env = (false, eval e X.env) :: starEach es X.env := by rfl) (hpn : (backTo pos (starEach es X.env)).any (·.1) = false := by rfl) :
    PE X (.Call (.Name x p) (e :: es) [] pos) (tCB R ta) := by
  obtain ⟨nm, qn, N, bs, bm, sn, sub, ab, col, dd, k0, k1, k2, k3, k5, hC, hbm⟩ := T.cls
  refine ⟨fun pins s σ H Q I hRead => wpAny_Call_Name_kw (ld_glob I hg hm (PySem.W.callWith_K (h₀ := X.base) I.ok.mod.kin T.kC (thn (ha.run pos pins s σ H _ I hRead) fun us s1 ⟨vs, H1, I1, rvs, q0⟩ => ⟨I1.kIn, ?_⟩) hst hpn) hdg)⟩
  obtain ⟨few, wish⟩ := cv _ _ _ q0
  obtain ⟨heap, gens, drawn, toks, world⟩ := s1
  -- the tuple of the arguments lies at the heap's end, the exception behind it
  obtain ⟨top, htop⟩ : ∃ top, top = heap.objs.size := ⟨_, rfl⟩
  have fresh : H1 (top + 1) = none := I1.hok.fresh (by show heap.objs.size ≤ _; omega)
  have promised := wish (top + 1) fresh
  have lies : ((heap.push (PySem.W.kdv_tup us)).push (PySem.HandSPX.excO C top)).get? (top + 1) = some (PySem.HandSPX.excO C top) := by
    subst htop
    heap_get
  have J : Inv X pins σ (upd H1 (top + 1) (exo (top + 1) C none)) ⟨(heap.push (PySem.W.kdv_tup us)).push (PySem.HandSPX.excO C top), gens, drawn, toks, world⟩ :=
    Inv.laid (t' := toks) I1 (fun b o z => Heap.get?_push_of_some _ (Heap.get?_push_of_some _ z)) (by show heap.objs.size ≤ _; omega) (exo_ok lies)
  have rAll : Vals (V.ref (top + 1) :: vs) (Value.ref (top + 1) :: us) := .cons rfl rvs
  have lens : (Value.ref (top + 1) :: us).length = ps.length := rAll.length.symm.trans (F1.len _ _ _ _ promised)
  have fits : us.length ≤ sizeLine := Nat.le_trans (Nat.le_of_eq rvs.length.symm) (Nat.le_trans few (by decide))
  have bound := hb _ (Value.ref (top + 1) :: us) J.kIn (by rw [List.append_nil]; exact lens)
  rw [List.append_nil] at bound
  have ran := F1.run _ X.stack _ _ ⟨Value.ref (top + 1) :: us, []⟩ (Value.ref (top + 1) :: us) _ _ E0 ((hr.mono hk).make C us []) (J.env0.make C us []) bound rAll promised
  show wpAny _ _ (call (.ref C) us) _ _ _
  subst htop
  refine wpAny_call (PySem.HandSPX.call_own F.excBase_ValueError (fun Y => PySem.HandSPX.refsVE_contains Y bm hbm) (I1.kIn _ _ hC) (PySem.W.looks_findIn I1.kIn iC) (fun self => PySem.W.bind_fn I1.kIn self tI) fits (codeAny_mono ran fun r s' ended => ?_))
  match r, ended with
  | .error _, z => exact z.elim
  | .ok .next, z => exact False.elim z
  | .ok .brk, z => exact False.elim z
  | .ok .cont, z => exact False.elim z
  | .ok (.ret u), ⟨v, H2, os2, bare2, un2, hok2, rv, ev, q2⟩ =>
    subst ev
    exact ⟨rv, .ref _, H2, J.call' (ch := []) os2 un2 hok2 bare2 (fun b z => absurd z (by simp)), rfl, q2⟩
end
end My
set_option Elab.async false
set_option linter.all false
set_option maxRecDepth 100000
set_option maxHeartbeats 4000000
namespace MyH
open PySem PySem.Spec PyProof.Rows L2 He
/-! ### a Hook of any look at the written part -/
abbrev Al : Type := Bool × AlD
/-- what the facts want of the heap, by paths: the module's names, their functions' code and defaults, the classes' own names, these names' functions' code and defaults -/
def refsN (g : Addr → Option Obj) (a : Addr) : List Addr := match g a with
  | some ⟨_, _, .dict es _, _⟩ => es.toList.flatMap fun e => refV e.val
  | _ => []
def refsF (g : Addr → Option Obj) (a : Addr) : List Addr := match g a with
  | some ⟨_, _, .func fd, _⟩ => refV fd.code ++ refV fd.defaults
  | some ⟨_, _, .cls cd, _⟩ => [cd.ns]
  | _ => []
def asM (g : Addr → Option Obj) : List Addr :=
  let names := refsN g mainGlobals
  let parts := names.flatMap (refsF g)
  let own := parts.flatMap (refsN g)
  names ++ parts ++ own ++ own.flatMap (refsF g) ++ [mainGlobals, PySem.cStatics]
def obsM (F : PySem.W.Frag → Bool) (fn : List DefD) (K : PySem.W.Frag) : Al := (F K, obsD [] fn K)
def valM (fn : List DefD) : Al := (true, valD fn)
def SaysM (F : PySem.W.Frag → Bool) (fn : List DefD) (K : PySem.W.Frag) : Prop := obsM F fn K = valM fn
def obsMG (F : PySem.W.Frag → Bool) (fn : List DefD) (g : Addr → Option Obj) : Al := obsM F fn (frG g (asM g))
def hookM (F : PySem.W.Frag → Bool) (fn : List DefD) : PySem.W.Hook where
  α := Al
  obs := fun s => obsMG F fn s.heap.get?
  val := fun _ => valM fn
  says := fun _ h => ∃ K : PySem.W.Frag, K.In h ∧ SaysM F fn K
  of := fun _ _ z => Exists.intro _ (And.intro frG_in z)
  keeps := fun _ _ _ z k => Exists.elim z fun K y => ⟨K, PySem.W.Frag.In.keeps y.1 k, y.2⟩
theorem obsMG_eq {F : PySem.W.Frag → Bool} {fn : List DefD} {g : Addr → Option Obj} {s : Shared} (h : ∀ a, g a = s.heap.get? a) : obsMG F fn g = (hookM F fn).obs s := by
  obtain rfl : g = s.heap.get? := funext h
  rfl
section
variable {F : PySem.W.Frag → Bool} {fn : List DefD} {K : PySem.W.Frag}
theorem SaysM.fact (c : SaysM F fn K) : F K = true := congrArg (fun z : Al => z.1) c
theorem SaysM.def_ (c : SaysM F fn K) (i : Nat) {d : DefD} (h : fn[i]? = some d := by rfl) : ∃ fd, FunD K d.name d.qual d.params d.body d.scope (d.dvs K) (d.kws K) (fAd K d.at_) fd :=
  He.SaysD.def_ (fa := []) (show SaysD [] fn K from congrArg (fun z : Al => z.2) c) i h
end
/-- without defaults it is a def of the short words -/
theorem fun_of {K : PySem.W.Frag} {x qual : Str} {st : Stmt} {f : Addr} {fd : FuncData} {kws : List (Str × V)} (F : FunD K x qual (defArgs st) (defBody st) (defScope st) [] kws f fd) : L2.Fun K x qual st f fd := by
  obtain ⟨c1, c2, dv, kv, c3, c4, c5, c6, c7, c8, rfl, stands, coded, dfl, _⟩ := F.ex
  have nodfl : dv = .none := dfl.elim (fun z => z.2) fun z => absurd rfl z.1
  subst nodfl
  exact ⟨⟨c1, c2, kv, c3, c4, c5, c6, c7, c8, rfl, stands, coded⟩, F.kp⟩
/-! ### a list of numbers, reckoned once -/
def natsF : List Nat → (List Nat → Bool) → Bool
  | [], k => k []
  | a :: r, k => HandSHeadRun.frNat a fun a' => natsF r fun r' => k (a' :: r')
theorem natsF_eq : ∀ (l : List Nat) (k : List Nat → Bool), natsF l k = k l
  | [], _ => rfl
  | a :: r, k => by
    show HandSHeadRun.frNat a (fun a' => natsF r fun r' => k (a' :: r')) = k (a :: r)
    rw [HandSHeadRun.frNat_eq, natsF_eq r]
/-! ### an exception class of the program's own, D the address of its base class of the program's own -/
def slB (sl : List (Option Value)) : Bool := match sl with
  | [_, _, _, _, some (.builtin z), _] => decide (z = "ValueError.__new__")
  | _ => false
theorem slB_ok {sl : List (Option Value)} (h : slB sl = true) : ∃ k0 k1 k2 k3 k5, sl = [k0, k1, k2, k3, some (.builtin "ValueError.__new__"), k5] := by
  unfold slB at h
  split at h
  · rename_i k0 k1 k2 k3 z k5
    exact ⟨k0, k1, k2, k3, k5, by rw [of_decide_eq_true h]⟩
  · cases h
def fourC (K : PySem.W.Frag) (C : Addr) (bm : List Value) : Bool := match K.lookup C with
  | some ⟨.type t, dd, .cls ⟨nm, bs, mro, N, q, hd, sn, sub, ab, col, del⟩, sl⟩ => decide (t = "type") && (decide (mro = .ref C :: bm) && (hd && (!del && slB sl.toList)))
  | _ => false
theorem fourC_ok {K : PySem.W.Frag} {C : Addr} {bm : List Value} (h : fourC K C bm = true) : ∃ nm q N bs sn sub ab col dd k0 k1 k2 k3 k5, K.lookup C = some (excClassObj nm q C N bs bm true sn sub ab col dd k0 k1 k2 k3 k5 "ValueError.__new__") := by
  unfold fourC at h
  cases q : K.lookup C with
  | none =>
    rw [q] at h
    cases h
  | some o =>
    rw [q] at h
    obtain ⟨oc, od, dt, sl⟩ := o
    cases oc with
    | type t =>
      cases dt with
      | cls cd =>
        obtain ⟨nm, bs, mro, N, qn, hd, sn, sub, ab, col, del⟩ := cd
        obtain ⟨h1, h⟩ := ba (show (decide (t = "type") && (decide (mro = .ref C :: bm) && (hd && (!del && slB sl.toList)))) = true from h)
        obtain ⟨h2, h⟩ := ba h
        obtain ⟨h3, h⟩ := ba h
        obtain ⟨h4, h5⟩ := ba h
        have e1 := of_decide_eq_true h1
        have e2 := of_decide_eq_true h2
        have e4 : del = false := by
          cases del with
          | false => rfl
          | true => cases h4
        subst e1 e2 h3 e4
        obtain ⟨l⟩ := sl
        obtain ⟨k0, k1, k2, k3, k5, rfl⟩ := slB_ok h5
        exact ⟨nm, qn, N, bs, sn, sub, ab, col, od, k0, k1, k2, k3, k5, rfl⟩
      | _ => cases h
    | _ => cases dt <;> cases h
def veTl : List Value := [.type "ValueError", .type "Exception", .type "BaseException", .type "object"]
def isS (a b : Option Value) : Bool := decide (a = b)
/-- what stands of the class at C, named x, under D (its own names fs are no attributes of the class) -/
def exB (K : PySem.W.Frag) (D C : Addr) (x : Str) (fs : List Str) : Bool :=
  eqO (PySem.W.nsIn K mainGlobals x) (some (some (.ref C))) && (fourC K C (.ref D :: veTl) && (eqO (PySem.W.findIn K (.ref C) "__setattr__") (some (some (.builtin "object.__setattr__"))) && (decide (PySem.W.subIn K (.ref C) (.type "BaseException") = some true) &&
  (isS (PySem.W.typeIn K (.ref C)) (some (.type "type")) && (PySem.W.keepIn K (.ref C) && (eqO (PySem.W.findIn K (.ref C) "__getattribute__") (some (some (.builtin "BaseException.__getattribute__"))) && (eqO (PySem.W.findIn K (.ref C) "__getattr__") (some none) &&
  (eqO (PySem.W.findIn K (.ref C) "__class__") (some (some (.builtin "object.__class__"))) && (decide (PySem.W.mroIn K C (.type "object") = some true) && (fs.all (fun f => eqO (PySem.W.findIn K (.ref C) f) (some none)) &&
  (eqO (PySem.W.findIn K (.ref C) "__init__") (some (some (.ref (ma K C "__init__")))) && (isS (PySem.W.typeIn K (.ref (ma K C "__init__"))) (some (.type "function")) && decide (PySem.W.kitOne K (.ref C) (.type "ValueError") = some true)))))))))))))
structure ExBo (K : PySem.W.Frag) (D C : Addr) (x : Str) (fs : List Str) : Prop where
  glo : PySem.W.nsIn K mainGlobals x = some (some (.ref C))
  o : OexC K C
  mro : ∃ cd, PySem.W.clsIn K C = some cd ∧ cd.mro = .ref C :: .ref D :: veTl ∧ cd.hasDict = true
  atr : PySem.W.findIn K (.ref C) "__getattribute__" = some (some (.builtin "BaseException.__getattribute__"))
  atg : PySem.W.findIn K (.ref C) "__getattr__" = some none
  cl : PySem.W.findIn K (.ref C) "__class__" = some (some (.builtin "object.__class__"))
  ob : PySem.W.mroIn K C (.type "object") = some true
  nf : ∀ f ∈ fs, PySem.W.findIn K (.ref C) f = some none
  i : PySem.W.findIn K (.ref C) "__init__" = some (some (.ref (ma K C "__init__")))
  ti : PySem.W.typeIn K (.ref (ma K C "__init__")) = some (.type "function")
  ve : PySem.W.kitOne K (.ref C) (.type "ValueError") = some true
theorem exB_ok {K : PySem.W.Frag} {D C : Addr} {x : Str} {fs : List Str} (h : exB K D C x fs = true) : ExBo K D C x fs := by
  obtain ⟨h1, h⟩ := ba h
  obtain ⟨h2, h⟩ := ba h
  obtain ⟨h3, h⟩ := ba h
  obtain ⟨h4, h⟩ := ba h
  obtain ⟨h5, h⟩ := ba h
  obtain ⟨h6, h⟩ := ba h
  obtain ⟨h7, h⟩ := ba h
  obtain ⟨h8, h⟩ := ba h
  obtain ⟨h9, h⟩ := ba h
  obtain ⟨h10, h⟩ := ba h
  obtain ⟨h11, h⟩ := ba h
  obtain ⟨h12, h⟩ := ba h
  obtain ⟨h13, h14⟩ := ba h
  obtain ⟨nm, q, N, bs, sn, sub, ab, col, dd, k0, k1, k2, k3, k5, e⟩ := fourC_ok h2
  have hc : PySem.W.clsIn K C = some { name := nm, bases := bs, mro := .ref C :: .ref D :: veTl, ns := N, qualname := q, hasDict := true, slotNames := sn, subclasses := sub, abstract := ab, collection := col, hasDel := false } := by
    unfold PySem.W.clsIn
    rw [e]
  exact ⟨eqO_ok h1, ⟨⟨nm, q, N, bs, _, sn, sub, ab, col, dd, k0, k1, k2, k3, k5, e, (show PySem.HandSPX.refsVE veTl = true by decide +kernel)⟩, eqO_ok h3, of_decide_eq_true h4, of_decide_eq_true h5, h6⟩, ⟨_, hc, rfl, rfl⟩, eqO_ok h7, eqO_ok h8, eqO_ok h9, of_decide_eq_true h10,
    fun f hf => eqO_ok (List.all_eq_true.mp h11 f hf), eqO_ok h12, of_decide_eq_true h13, of_decide_eq_true h14⟩
/-- isinstance between two of these -/
theorem ExBo.kit {K : PySem.W.Frag} {D C C' : Addr} {x x' : Str} {fs fs' : List Str} (h : ExBo K D C x fs) (h' : ExBo K D C' x' fs') (hD : C' ≠ D) : PySem.W.kitOne K (.ref C) (.ref C') = some (decide (C = C')) := by
  by_cases e : C = C'
  · subst e
    rw [decide_eq_true rfl]
    exact if_pos (beq_self_eq_true (Value.ref C))
  · rw [decide_eq_false e]
    obtain ⟨cd, hc, hm, _⟩ := h.mro
    obtain ⟨cd', hc', _⟩ := h'.mro
    have n1 : ((Value.ref C == Value.ref C') = true) ↔ False := by
      constructor
      · intro z
        exact e (Value.ref.inj (beq_iff_eq.mp z))
      · exact False.elim
    unfold PySem.W.kitOne PySem.W.kitCls
    rw [if_neg (fun z => n1.mp z)]
    dsimp only
    rw [if_pos (by rw [hc', h'.o.tyC]; rfl)]
    show ((PySem.W.clsIn K C).bind fun cd => if cd.mro.isEmpty then none else some (cd.mro.contains (Value.ref C'))) = _
    rw [hc, Option.bind_some, hm]
    have n2 : (Value.ref C' == Value.ref C) = false := by
      apply Bool.eq_false_iff.mpr
      intro z
      exact e (Value.ref.inj (beq_iff_eq.mp z)).symm
    have n3 : (Value.ref C' == Value.ref D) = false := by
      apply Bool.eq_false_iff.mpr
      intro z
      exact hD (Value.ref.inj (beq_iff_eq.mp z))
    have n4 : veTl.contains (Value.ref C') = false := rfl
    have n5 : (Value.ref C :: Value.ref D :: veTl).contains (Value.ref C') = false := by
      rw [List.contains_cons, List.contains_cons, n2, n3, n4]
      rfl
    rw [n5]
    rfl
/-- .. and the base -/
theorem ExBo.kitD {K : PySem.W.Frag} {D C : Addr} {x : Str} {fs : List Str} (h : ExBo K D C x fs) (hD : C ≠ D) (hc' : PySem.W.isClsIn K D = true) (ht : PySem.W.typeIn K (.ref D) = some (.type "type")) : PySem.W.kitOne K (.ref C) (.ref D) = some true := by
  obtain ⟨cd, hc, hm, _⟩ := h.mro
  unfold PySem.W.kitOne PySem.W.kitCls
  rw [if_neg (fun z => hD (Value.ref.inj (beq_iff_eq.mp z)))]
  dsimp only
  have hc2 : (PySem.W.clsIn K D).isSome = true := hc'
  rw [if_pos (by rw [hc2, ht]; rfl)]
  show ((PySem.W.clsIn K C).bind fun cd => if cd.mro.isEmpty then none else some (cd.mro.contains (Value.ref D))) = _
  rw [hc, Option.bind_some, hm]
  have n5 : (Value.ref C :: Value.ref D :: veTl).contains (Value.ref D) = true := by
    rw [List.contains_cons, List.contains_cons, beq_self_eq_true (Value.ref D)]
    simp
  rw [n5]
  rfl
/-! ### the base class D itself -/
def deB (K : PySem.W.Frag) (D : Addr) (x : Str) : Bool :=
  eqO (PySem.W.nsIn K mainGlobals x) (some (some (.ref D))) && (PySem.W.readsIn K D (.type "type") && (eqO (PySem.W.specialIn K (.ref D) "__getattribute__") (some (some (.builtin "type.__getattribute__"))) && ((match PySem.W.findCls K (.ref D) (.type "type") "__init__" with
    | some (.val (.ref a)) => decide (a = ma K D "__init__")
    | _ => false) && (PySem.W.isClsIn K D && (isS (PySem.W.typeIn K (.ref D)) (some (.type "type")) && ((match PySem.W.findCls K (.type "ValueError") (.type "type") "__init__" with
    | some (.val (.builtin z)) => decide (z = "ValueError.__init__")
    | _ => false) && (eqO (PySem.W.specialIn K (.builtin "object.__class__") "__get__") (some (some (.builtin "getset_descriptor.__get__"))) && decide (PySem.W.takesIn K (.builtin "object.__class__") = some true))))))))
structure DeBo (K : PySem.W.Frag) (D : Addr) (x : Str) : Prop where
  glo : PySem.W.nsIn K mainGlobals x = some (some (.ref D))
  rd : ClX.CRead K D (.type "type")
  fc : PySem.W.findCls K (.ref D) (.type "type") "__init__" = some (.val (.ref (ma K D "__init__")))
  ic : PySem.W.isClsIn K D = true
  ty : PySem.W.typeIn K (.ref D) = some (.type "type")
  vV : PySem.W.findCls K (.type "ValueError") (.type "type") "__init__" = some (.val (.builtin "ValueError.__init__"))
  gt : PySem.W.specialIn K (.builtin "object.__class__") "__get__" = some (some (.builtin "getset_descriptor.__get__"))
  tk : PySem.W.takesIn K (.builtin "object.__class__") = some true
theorem deB_ok {K : PySem.W.Frag} {D : Addr} {x : Str} (h : deB K D x = true) : DeBo K D x := by
  obtain ⟨h1, h⟩ := ba h
  obtain ⟨h2, h⟩ := ba h
  obtain ⟨h3, h⟩ := ba h
  obtain ⟨h4, h⟩ := ba h
  obtain ⟨h5, h⟩ := ba h
  obtain ⟨h6, h⟩ := ba h
  obtain ⟨h7, h⟩ := ba h
  obtain ⟨h8, h9⟩ := ba h
  refine ⟨eqO_ok h1, ⟨h2, eqO_ok h3⟩, ?_, h5, of_decide_eq_true h6, ?_, eqO_ok h8, of_decide_eq_true h9⟩
  · split at h4
    · rename_i a e
      rw [e, of_decide_eq_true h4]
    · cases h4
  · split at h7
    · rename_i z e
      rw [e, of_decide_eq_true h7]
    · cases h7
theorem ExBo.t {K : PySem.W.Frag} {D C : Addr} {x y : Str} {fs : List Str} (h : ExBo K D C x fs) (d : DeBo K D y) : My.ExT K C := by
  obtain ⟨cd, hc, _, hh⟩ := h.mro
  exact ⟨h.o, h.atr, h.atg, by unfold PySem.W.isClsIn; rw [hc]; rfl, by unfold PySem.W.hasDictIn; rw [hc]; exact hh, h.cl, d.gt, d.tk, h.ob⟩
/-! ### a whole family of them -/
def nodB : List Nat → Bool
  | [] => true
  | a :: r => r.all (fun b => !Nat.beq a b) && nodB r
def famB (K : PySem.W.Frag) (D : Addr) : List Addr → List (Str × List Str) → Bool
  | [], [] => true
  | C :: Cs, p :: ps => exB K D C p.1 p.2 && famB K D Cs ps
  | _, _ => false
def famAll (K : PySem.W.Frag) (y : Str) (tab : List (Str × List Str)) : Bool := natsF ((y :: tab.map (·.1)).map (ga K)) fun As => match As with
  | D :: Cs => nodB (D :: Cs) && (deB K D y && famB K D Cs tab)
  | [] => false
theorem nodB_at : ∀ {l : List Nat}, nodB l = true → ∀ {i j : Nat} {a b : Nat}, l[i]? = some a → l[j]? = some b → i < j → a ≠ b
  | [], _, i, j, a, b, e, _, _ => by simp at e
  | x :: r, h, 0, j + 1, a, b, e1, e2, _ => by
    obtain ⟨h1, h2⟩ := ba (show (r.all (fun b => !Nat.beq x b) && nodB r) = true from h)
    have ea : x = a := Option.some.inj e1
    subst ea
    have hb := List.all_eq_true.mp h1 b (List.mem_of_getElem? e2)
    intro z
    subst z
    simp at hb
  | x :: r, h, i + 1, j + 1, a, b, e1, e2, l => by
    obtain ⟨h1, h2⟩ := ba (show (r.all (fun b => !Nat.beq x b) && nodB r) = true from h)
    exact nodB_at h2 (i := i) (j := j) e1 e2 (by omega)
  | x :: r, h, i, 0, a, b, e1, e2, l => by omega
theorem famB_at {K : PySem.W.Frag} {D : Addr} : ∀ {Cs : List Addr} {ps : List (Str × List Str)}, famB K D Cs ps = true → ∀ {i : Nat} {p : Str × List Str} {C : Addr}, ps[i]? = some p → Cs[i]? = some C → ExBo K D C p.1 p.2
  | [], [], _, i, p, C, e, _ => by simp at e
  | C :: Cs, p :: ps, h, 0, q, C', e1, e2 => by
    obtain ⟨h1, h2⟩ := ba (show (exB K D C p.1 p.2 && famB K D Cs ps) = true from h)
    have e3 : p = q := Option.some.inj e1
    have e4 : C = C' := Option.some.inj e2
    rw [← e3, ← e4]
    exact exB_ok h1
  | C :: Cs, p :: ps, h, i + 1, q, C', e1, e2 => by
    obtain ⟨h1, h2⟩ := ba (show (exB K D C p.1 p.2 && famB K D Cs ps) = true from h)
    exact famB_at h2 (i := i) e1 e2
  | [], _ :: _, h, _, _, _, _, _ => by cases h
  | _ :: _, [], h, _, _, _, _, _ => by cases h
structure Fam (K : PySem.W.Frag) (y : Str) (tab : List (Str × List Str)) : Prop where
  de : DeBo K (ga K y) y
  ex : ∀ {i : Nat} {p : Str × List Str}, tab[i]? = some p → ExBo K (ga K y) (ga K p.1) p.1 p.2
  nd : ∀ {i j : Nat} {p q : Str × List Str}, tab[i]? = some p → tab[j]? = some q → (ga K p.1 = ga K q.1 ↔ i = j)
  nD : ∀ {i : Nat} {p : Str × List Str}, tab[i]? = some p → ga K p.1 ≠ ga K y
theorem fam_ok {K : PySem.W.Frag} {y : Str} {tab : List (Str × List Str)} (h : famAll K y tab = true) : Fam K y tab := by
  unfold famAll at h
  rw [natsF_eq] at h
  have h' : (nodB (ga K y :: (tab.map (·.1)).map (ga K)) && (deB K (ga K y) y && famB K (ga K y) ((tab.map (·.1)).map (ga K)) tab)) = true := h
  obtain ⟨h1, h2⟩ := ba h'
  obtain ⟨h3, h4⟩ := ba h2
  have at1 : ∀ {i : Nat} {p : Str × List Str}, tab[i]? = some p → ((tab.map (·.1)).map (ga K))[i]? = some (ga K p.1) := fun {i p} e => by
    rw [List.getElem?_map, List.getElem?_map, e]
    rfl
  refine ⟨deB_ok h3, fun e => famB_at h4 e (at1 e), fun {i j p q} e1 e2 => ⟨fun z => ?_, fun z => ?_⟩, fun {i p} e => ?_⟩
  · rcases Nat.lt_trichotomy i j with l | l | l
    · exact absurd z (nodB_at h1 (i := i + 1) (j := j + 1) (at1 e1) (at1 e2) (by omega))
    · exact l
    · exact absurd z.symm (nodB_at h1 (i := j + 1) (j := i + 1) (at1 e2) (at1 e1) (by omega))
  · subst z
    rw [e1] at e2
    rw [Option.some.inj e2]
  · exact Ne.symm (nodB_at h1 (i := 0) (j := i + 1) rfl (at1 e) (by omega))
end MyH
set_option Elab.async false
set_option linter.all false
set_option maxRecDepth 100000
set_option maxHeartbeats 0
namespace My
open PySem PySem.Spec PyProof.Rows L2 He MyH
/-! ### the head: what the top leaves, by names -/
def dF (x : Str) (i : Nat) : DefD := ⟨(x, none), x, x, defArgs (topS i), defBody (topS i), defScope (topS i), [], []⟩
def dC (x q : Str) (i : Nat) : DefD := ⟨(x, some "__init__"), "__init__", q, defArgs (inClass (topS i) 0), defBody (inClass (topS i) 0), defScope (inClass (topS i) 0), [], []⟩
def fn : List DefD := ([dF "_in_tuples" 2, dF "_kept" 3, dF "_law_hand" 53, dF "_law_mixed" 54, dF "_law_take" 55, dF "_law_pairs" 56, dF "_law_singles" 57, dF "_law_others" 58, dF "_law_classes" 59, dF "law" 60, ⟨("DealError", some "__init__"), "__init__", "DealError.__init__", defArgs (inClass (topS 4) 0), defBody (inClass (topS 4) 0), defScope (inClass (topS 4) 0), [.str ""], []⟩, dC "BadStore" "BadStore.__init__" 7, dC "BadQuestion" "BadQuestion.__init__" 8, dC "BadUnion" "BadUnion.__init__" 9, dC "BadDealing" "BadDealing.__init__" 20] : List DefD) ++ ([dC "BadDemands" "BadDemands.__init__" 28, dC "NotHeld" "NotHeld.__init__" 29, dC "BadPlan" "BadPlan.__init__" 33, dC "BadShares" "BadShares.__init__" 38, dC "BadWidths" "BadWidths.__init__" 5, dC "BadRow" "BadRow.__init__" 6, dC "BadReading" "BadReading.__init__" 10, dC "BadMoves" "BadMoves.__init__" 11, dC "BadLetters" "BadLetters.__init__" 12, dC "BadText" "BadText.__init__" 13, dC "BadSorts" "BadSorts.__init__" 14, dC "BadValue" "BadValue.__init__" 15, dC "NoSort" "NoSort.__init__" 16, dC "BadTold" "BadTold.__init__" 17, dC "TooMany" "TooMany.__init__" 18] : List DefD) ++ ([dC "NoAnswer" "NoAnswer.__init__" 19, dC "NoKind" "NoKind.__init__" 21, dC "NoHand" "NoHand.__init__" 22, dC "BadLost" "BadLost.__init__" 23, dC "BadOrder" "BadOrder.__init__" 24, dC "Apart" "Apart.__init__" 25, dC "BadFactor" "BadFactor.__init__" 26, dC "BadNamed" "BadNamed.__init__" 27, dC "BadCopy" "BadCopy.__init__" 30, dC "NotRight" "NotRight.__init__" 31, dC "BadRoom" "BadRoom.__init__" 32, dC "NoRound" "NoRound.__init__" 34, dC "NoPlainAnswer" "NoPlainAnswer.__init__" 35, dC "BadUnions" "BadUnions.__init__" 36, dC "EmptyRows" "EmptyRows.__init__" 37] : List DefD) ++ ([dC "BadMost" "BadMost.__init__" 39, dC "BadStep" "BadStep.__init__" 40, dC "BadCopies" "BadCopies.__init__" 41, dC "BadHands" "BadHands.__init__" 42, dC "BadSeen" "BadSeen.__init__" 43, dC "Clash" "Clash.__init__" 44, dC "BadEdits" "BadEdits.__init__" 45, dC "BadGoal" "BadGoal.__init__" 46, dC "NoStep" "NoStep.__init__" 47, dC "Full" "Full.__init__" 48, dC "NoRow" "NoRow.__init__" 49, dC "NothingLeft" "NothingLeft.__init__" 50, dC "StillTrial" "StillTrial.__init__" 51] : List DefD)
def fas : List Fa := [.free "int", .free "len", .free "abs", .free "isinstance", .free "list", .free "tuple", .free "range", .free "ValueError", .int "DEEPEST" 6, .glo "_in_tuples", .glo "_kept", .glo "_law_hand", .glo "_law_mixed", .glo "_law_take", .glo "_law_pairs", .glo "_law_singles", .glo "_law_others", .glo "_law_classes", .glo "law"]
def facts (K : PySem.W.Frag) : Bool := famAll K "DealError" tab && fas.all fun f => f.ok K
abbrev R : PySem.W.OpenRow := PySem.W.OpenLaw.row PySem.Challenge.rw_meetwhere_k00_errors_side_by_side
def names : List Str := (["DEEPEST", "_in_tuples", "_kept", "DealError", "BadWidths", "BadRow", "BadStore", "BadQuestion", "BadUnion", "BadReading", "BadMoves", "BadLetters", "BadText", "BadSorts", "BadValue", "NoSort", "BadTold", "TooMany", "NoAnswer", "BadDealing"] : List Str) ++ (["NoKind", "NoHand", "BadLost", "BadOrder", "Apart", "BadFactor", "BadNamed", "BadDemands", "NotHeld", "BadCopy", "NotRight", "BadRoom", "BadPlan", "NoRound", "NoPlainAnswer", "BadUnions", "EmptyRows", "BadShares", "BadMost", "BadStep"] : List Str) ++ (["BadCopies", "BadHands", "BadSeen", "Clash", "BadEdits", "BadGoal", "NoStep", "Full", "NoRow", "NothingLeft", "StillTrial", "_law_hand", "_law_mixed", "_law_take", "_law_pairs", "_law_singles", "_law_others", "_law_classes"] : List Str)
abbrev hk : PySem.W.Hook := hookM facts fn
def ob (s : PySem.W.SharedT) : MyH.Al := obsMG facts fn (HandSHeadRun.getT s)
theorem ob_eq (s : PySem.W.SharedT) : ob s = hk.obs s.abs := obsMG_eq (HandSHeadRun.getT_eq s)
theorem run (w : World) : HandSHeadRun.RunEq R (PySem.W.view R.prog [60]) hk ob 14000 names w := by
  intro os
  kernel_rfl
end My
set_option Elab.async false
set_option linter.all false
set_option maxRecDepth 100000
set_option maxHeartbeats 4000000
namespace My
open PySem PySem.Spec PyProof.Rows L2
/-! ### the text -/
abbrev sHand : Stmt := topS 53
abbrev sMixed : Stmt := topS 54
abbrev sTake : Stmt := topS 55

/-- a def that may be called by its name -/
structure Cal (P : Program) (w : World) (K : PySem.W.Frag) (mg : Str → Option Value) (base : Heap) (k : Nat) (x : Str) (sp : Sp) : Prop where
  ex : ∃ (f : Addr) (fd : FuncData) (ps : List Str), FnOk P w K mg base CX0 k f fd ps sp ∧ mg x = some (.ref f) ∧ PySem.W.keepIn K (.ref f) = true ∧ Binds K fd ps []
theorem Cal.c8 {P : Program} {w : World} {K : PySem.W.Frag} {mg : Str → Option Value} {base : Heap} {k : Nat} {x : Str} {sp : Sp} (c : Cal P w K mg base k x sp) : C8.Cal P w K mg base k x sp [] := by
  obtain ⟨f, fd, ps, F, gf, kf, b⟩ := c.ex
  exact ⟨f, fd, ps, [], F, gf, kf, b, .nil⟩
theorem pe_c {X : Cx} {k j : Nat} {x : Str} {sp : Sp} {p pos : Pos} {e : Expr} {es : List Expr} {t : TA} (c : Cal X.prog X.w X.K X.mg X.base k x sp) (hr : Room j X.A) (hk : k ≤ j) (hg : Gl X x) (ha : PA X (e :: es) t)
    (d1 : (x == ("__debug__" : Str)) = false := by decide) (d2 : starEach (e :: es) X.env = (false, eval e X.env) :: starEach es X.env := by rfl) (d3 : (backTo pos (starEach es X.env)).any (·.1) = false := by rfl) :
    PE X (.Call (.Name x p) (e :: es) [] pos) (tCall sp [] E0 t) := C8.pe_c c.c8 hr hk hg ha d1 d2 d3
theorem same_upd {H : Hp} {p : Addr} {o : HO} (h : H p = none) : Same H (upd H p o) := fun b x e => by
  rw [upd_ne (ne_of_none e h)]
  exact e
theorem gs {H H0 : Hp} {p : Addr} {o : HO} (h : upd H p o = H0) (n : H p = none) : Same H H0 := by
  subst h
  exact same_upd n
theorem ga {H H0 : Hp} {p : Addr} {o : HO} (h : upd H p o = H0) : H0 p = some o := by
  subst h
  exact upd_same
theorem upd_upd {H : Hp} {p : Addr} {o u : HO} : upd (upd H p o) p u = upd H p u := by
  funext b
  unfold upd
  by_cases h : b = p
  · rw [if_pos h, if_pos h]
  · rw [if_neg h, if_neg h, if_neg h]

/-! ### the hand -/
def HandL (c : Addr) (n : Nat) (l : List V) : Prop := ∃ (i : Nat) (r t : Int), l = [.ref c, .int i, .int r, .int t] ∧ i ≤ n ∧ 0 ≤ r ∧ 0 ≤ t ∧ t < 2147483549
structure Hand (H : Hp) (a c : Addr) : Prop where
  ex : ∃ (cs : List Int) (l : List V), H a = some (.lst l) ∧ H c = some (.lst (cs.map V.int)) ∧ HandL c cs.length l ∧ cs.length ≤ 63 ∧ ∀ x ∈ cs, 0 ≤ x
theorem Hand.ne {H : Hp} {a c : Addr} (h : Hand H a c) : c ≠ a := by
  obtain ⟨cs, l, h1, h2, ⟨i, r, t, rfl, _⟩, _⟩ := h.ex
  intro e
  subst e
  rw [h1] at h2
  have z := HO.lst.inj (Option.some.inj h2)
  cases cs with
  | nil => cases z
  | cons x cs =>
    rw [List.map_cons] at z
    have z1 := (List.cons.inj z).1
    cases z1
theorem Hand.keep {H H' : Hp} {a c : Addr} (h : Hand H a c) (s : Same H H') : Hand H' a c := by
  obtain ⟨cs, l, h1, h2, r⟩ := h.ex
  exact ⟨cs, l, s _ _ h1, s _ _ h2, r⟩
theorem Hand.put {H : Hp} {a c : Addr} {cs : List Int} {l : List V} (h2 : H c = some (.lst (cs.map V.int))) (hn : c ≠ a) (hl : HandL c cs.length l) (h63 : cs.length ≤ 63) (h0 : ∀ x ∈ cs, 0 ≤ x) : Hand (upd H a (.lst l)) a c :=
  ⟨cs, l, upd_same, by rw [upd_ne hn]; exact h2, hl, h63, h0⟩

def spMixed : Sp := fun vs H Q _ => ∃ (n t : Int), vs = [.int n, .int t] ∧ 0 ≤ n ∧ n < 2147483648 ∧ 0 ≤ t ∧ t ≤ 64 ∧ ∀ v : Int, Q (.int v) H
def spTake : Sp := fun vs H Q _ => ∃ (a c : Addr) (m : Int), vs = [.ref a, .int m] ∧ Hand H a c ∧ 0 < m ∧ m.natAbs < 2 ^ 8000 ∧ ∀ (v : Int) (l : List V), 0 ≤ v → v < m → Hand (upd H a (.lst l)) a c → Q (.int v) (upd H a (.lst l))
def spHand (K : PySem.W.Frag) : Sp := fun vs H Q _ => ∃ (s : Addr) (ns : List Int), vs = [.ref s] ∧ SqL K H s (ns.map V.int) ∧ ns.length ≤ 63 ∧ ∀ (a c : Addr) (H' : Hp), Same H H' → H a = none → H c = none → Hand H' a c → Q (.ref a) H'

section
variable {P : Program} {w : World} {K : PySem.W.Frag} {mg : Str → Option Value} {base : Heap}
theorem scMixed : FnScope ["_law_number", "_law_turn", "_law_once", "_law_twice"] ["_law_number", "_law_turn"] (defScope sMixed) := ⟨rfl, rfl, rfl, by decide +kernel, rfl, by decide +kernel, by decide +kernel⟩
theorem ok_mixed {f : Addr} {fd : FuncData} (F : Fun K "_law_mixed" "_law_mixed" sMixed f fd) (mI : mg "int" = none) : FnOk P w K mg base CX0 1 f fd ["_law_number", "_law_turn"] spMixed := by
  refine F.ok scMixed (fun vs H Q E h => ?_) (fun cdv A outer s H vs Q E hr h => ?_)
  · obtain ⟨n, t, rfl, _⟩ := h
    rfl
  · obtain ⟨n, t, rfl, n0, n1, t0, t1, k⟩ := h
    refine ⟨_, pss_cons (ps_set (i := 2) scMixed.nd rfl (.inl rfl) (pe_op op_mod (pe_callTy call_int1 (by rfl) mI boot_int (pa_cons (pe_op op_add (pe_op op_add (pe_op op_mul (pv 0) pe_int) (pe_op op_mul (pv 1) pe_int)) pe_int) pa_nil)) pe_int))
      (pss_cons (ps_set (i := 3) scMixed.nd rfl (.inl rfl) (pe_op op_mod (pe_callTy call_int1 (by rfl) mI boot_int (pa_cons (pe_op op_add (pe_op op_add (pe_op op_mul (pv 2) (pv 2)) (pe_op op_mul (pv 1) pe_int)) (pe_op op_fdiv (pv 2) pe_int)) pa_nil)) pe_int))
      (pss_one (ps_ret (pe_op op_fdiv (pe_callTy call_int1 (by rfl) mI boot_int (pa_cons (pe_op op_mod (pe_callTy call_int1 (by rfl) mI boot_int (pa_cons (pe_op op_add (pe_op op_mul (pv 3) pe_int) (pe_op op_fdiv (pv 2) pe_int)) pa_nil)) pe_int) pa_nil)) pe_int)))), ?_⟩
    refine ⟨_, rfl, _, _, rfl, rfl, .inr (by decide), ?_⟩
    refine ⟨_, rfl, _, _, rfl, rfl, .inr (by decide), _, _, rfl, rfl, _, _, rfl, rfl, .inl ⟨_, rfl, _, _, rfl, rfl, (by show (0 : Int) < 2147483399; decide), ?_⟩⟩
    refine ⟨_, rfl, _, rfl, _, _, rfl, rfl, .inl ⟨by omega, by omega⟩, _, rfl, _, _, rfl, rfl, .inr (by decide), _, _, rfl, rfl, _, rfl, _, _, rfl, rfl, ⟨by decide, by decide⟩, _, _, rfl, rfl, .inl ⟨_, rfl, _, _, rfl, rfl, (by show (0 : Int) < 2147483629; decide), ?_⟩⟩
    exact ⟨_, rfl, _, _, rfl, rfl, .inr (by decide), _, rfl, _, _, rfl, rfl, ⟨by decide, by decide⟩, _, _, rfl, rfl,   .inl ⟨_, rfl, _, _, rfl, rfl, (by show (0 : Int) < 2147483587; decide), .inl ⟨_, rfl, _, _, rfl, rfl, ⟨by decide, by decide⟩, k _⟩⟩⟩
theorem scTake : FnScope ["_law_hand_here", "_law_many", "_law_cell", "_law_rest"] ["_law_hand_here", "_law_many"] (defScope sTake) := ⟨rfl, rfl, rfl, by decide +kernel, rfl, by decide +kernel, by decide +kernel⟩
theorem ok_take {f : Addr} {fd : FuncData} (F : Fun K "_law_take" "_law_take" sTake f fd) (mI : mg "int" = none) (mL : mg "len" = none) (cM : Cal P w K mg base 1 "_law_mixed" spMixed) : FnOk P w K mg base CX0 2 f fd ["_law_hand_here", "_law_many"] spTake := by
  refine F.ok scTake (fun vs H Q E h => ?_) (fun cdv A outer s H vs Q E hr h => ?_)
  · obtain ⟨a, c, m, rfl, _⟩ := h
    rfl
  · obtain ⟨a, c, m, rfl, hh, m0, m8, k⟩ := h
    refine ⟨_, C8.pss_cut (ps_if (PW.pt (pw_and (pt_cmpR op_eq (pe_ix ix_list (pv 0) pe_int (fun _ _ => rfl)) pe_int (nomark _)) (pw_and1 (pt_cmpR op_lt (pe_ix ix_list (pv 0) pe_int (fun _ _ => rfl)) (pe_callB call_len_seq (by rfl) mL PySem.boot_len (pa_cons (pe_ix ix_list (pv 0) pe_int (fun _ _ => rfl)) pa_nil)) (nomark _)))))
        (pss_cons (ps_set (i := 2) scTake.nd rfl (.inl rfl) (pe_ix ix_list (pe_ix ix_list (pv 0) pe_int (fun _ _ => rfl)) (pe_ix ix_list (pv 0) pe_int (fun _ _ => rfl)) (fun _ _ => rfl)))
        (pss_cons (ps_asg (pe_op op_add (pe_ix ix_list (pv 0) pe_int (fun _ _ => rfl)) pe_int) (pg_sub (pv 0) pe_int set_list))
        (pss_cons (ps_if (pt_cmpR op_lt (pv 2) (pe_op op_pow pe_int pe_int) (nomark _))
          (pss_one (ps_ret (pe_op op_mod (pe_callTy call_int1 (by rfl) mI boot_int (pa_cons (pe_c cM hr (by decide) rfl (pa_cons (pe_op op_mod (pe_callTy call_int1 (by rfl) mI boot_int (pa_cons (pv 2) pa_nil)) pe_int) (pa_cons (pe_ix ix_list (pv 0) pe_int (fun _ _ => rfl)) pa_nil))) pa_nil)) (pv 1)))) pss_nil)
        (pss_one (ps_asg (pv 2) (pg_sub (pv 0) pe_int set_list)))))) pss_nil)
      (pss_cons (ps_if (pt_cmpR op_gt (pe_ix ix_list (pv 0) pe_int (fun _ _ => rfl)) pe_int (nomark _))
        (pss_cons (ps_set (i := 3) scTake.nd rfl (.inl rfl) (pe_ix ix_list (pv 0) pe_int (fun _ _ => rfl)))
        (pss_cons (ps_asg (pe_op op_fdivW (pe_callTy call_int1 (by rfl) mI boot_int (pa_cons (pv 3) pa_nil)) (pv 1)) (pg_sub (pv 0) pe_int set_list))
        (pss_one (ps_ret (pe_op op_mod (pe_callTy call_int1 (by rfl) mI boot_int (pa_cons (pv 3) pa_nil)) (pv 1)))))) pss_nil)
      (pss_cons (ps_asg (pe_op op_mod (pe_callTy call_int1 (by rfl) mI boot_int (pa_cons (pe_op op_add (pe_ix ix_list (pv 0) pe_int (fun _ _ => rfl)) pe_int) pa_nil)) pe_int) (pg_sub (pv 0) pe_int set_list))
      (pss_one (ps_ret (pe_op op_mod (pe_callTy call_int1 (by rfl) mI boot_int (pa_cons (pe_c cM hr (by decide) rfl (pa_cons (pe_ix ix_list (pv 0) pe_int (fun _ _ => rfl)) (pa_cons (pe_ix ix_list (pv 0) pe_int (fun _ _ => rfl)) pa_nil))) pa_nil)) (pv 1)))))), ?_⟩
    obtain ⟨cs, l, h1, h2, hl, h63, hpos⟩ := hh.ex
    have hca := hh.ne
    obtain ⟨i, r, t, rfl, hi, r0, t0, t1⟩ := id hl
    -- behind the first if: slot 0 holds the hand, slot 1 the bound; the hand's list is some l
    refine ⟨fun σ H' => ∃ (l' : List V) (v2 : Option V), σ = [some (.ref a), some (.int m), v2, none] ∧ H' = upd H a (.lst l') ∧ HandL c cs.length l', ?_, ?_⟩
    · have eH : H = upd H a (.lst [.ref c, .int i, .int r, .int t]) := by
        funext b
        by_cases hb : b = a
        · rw [hb, upd_same, h1]
        · rw [upd_ne hb]
      refine ⟨_, rfl, a, _, _, _, rfl, rfl, SqL.of h1, atI_nat (j := 2) rfl, rfl, _, rfl, ite2 (fun e => ?_) (fun e => ?_)⟩
      · refine ⟨_, rfl, a, _, _, _, rfl, rfl, SqL.of h1, atI_nat (j := 1) rfl, _, rfl, a, _, _, _, rfl, rfl, SqL.of h1, atI_nat (j := 0) rfl, c, _, rfl, .inl (SqL.of h2), _, _, rfl, rfl, _, rfl, ?_⟩
        refine ite2 (fun e2 => ?_) (fun e2 => ⟨_, none, rfl, eH, hl⟩)
        have hic : i < cs.length := by
          have z := of_decide_eq_true e2
          rw [List.length_map] at z
          omega
        have r00 : r = 0 := V.int.inj (of_decide_eq_true e)
        have hx : (cs.map V.int)[i]? = some (.int cs[i]) := by
          rw [List.getElem?_map, List.getElem?_eq_getElem hic]
          rfl
        have hx0 : 0 ≤ cs[i] := hpos _ (List.getElem_mem hic)
        -- cell = hand[0][hand[1]]; hand[1] = hand[1] + 1
        refine ⟨_, rfl, a, _, _, _, rfl, rfl, SqL.of h1, atI_nat (j := 0) rfl, _, rfl, a, _, _, _, rfl, rfl, SqL.of h1, atI_nat (j := 1) rfl, c, _, _, _, rfl, rfl, SqL.of h2, atI_nat hx, ?_⟩
        refine ⟨_, rfl, a, _, _, _, rfl, rfl, SqL.of h1, atI_nat (j := 1) rfl, _, _, rfl, rfl, _, rfl, a, _, _, 1, rfl, rfl, h1, rfl, ?_⟩
        have ei : ((i : Int) + 1) = ((i + 1 : Nat) : Int) := by omega
        have hl1 : HandL c cs.length [.ref c, .int ((i : Int) + 1), .int r, .int t] := ⟨i + 1, r, t, by rw [ei], by omega, r0, t0, t1⟩
        have g1 : (upd H a (.lst ([V.ref c, V.int i, V.int r, V.int t].set 1 (.int ((i : Int) + 1))))) a = some (.lst [.ref c, .int ((i : Int) + 1), .int r, .int t]) := upd_same
        -- if cell < 10 ** 18
        refine ⟨_, rfl, _, _, rfl, rfl, ⟨by decide, by decide, by decide⟩, _, _, rfl, rfl, _, rfl, ite2 (fun e3 => ?_) (fun e3 => ?_)⟩
        · refine ⟨_, rfl, .inl ⟨_, rfl, _, _, rfl, rfl, (by show (0 : Int) < 2147483399; decide), _, rfl, a, _, _, _, rfl, rfl, SqL.of g1, atI_nat (j := 1) rfl, _, _, rfl, Int.emod_nonneg _ (by decide), ?_, by omega, by omega, fun v => .inl ⟨_, rfl, _, rfl, _, _, rfl, rfl, m0, ?_⟩⟩⟩
          · have := Int.emod_lt_of_pos cs[i] (show (0 : Int) < 2147483399 by decide)
            omega
          · exact k _ _ (Int.emod_nonneg _ (by omega)) (Int.emod_lt_of_pos _ m0) (Hand.put h2 hca hl1 h63 hpos)
        · refine ⟨_, rfl, _, rfl, a, _, _, 2, rfl, rfl, g1, rfl, ?_⟩
          exact ⟨_, _, rfl, upd_upd, i + 1, cs[i], t, by rw [← ei]; rfl, by omega, hx0, t0, t1⟩
      · exact ⟨_, none, rfl, eH, hl⟩
    · rintro σ H' ⟨l', v2, rfl, rfl, hl'⟩
      obtain ⟨i', r', t', rfl, hi', r0', t0', t1'⟩ := hl'
      have g1 : (upd H a (.lst [V.ref c, V.int i', V.int r', V.int t'])) a = some (.lst [.ref c, .int i', .int r', .int t']) := upd_same
      refine ⟨_, rfl, a, _, _, _, rfl, rfl, SqL.of g1, atI_nat (j := 2) rfl, _, _, rfl, rfl, _, rfl, ite2 (fun e => ?_) (fun e => ?_)⟩
      · -- the rest of a great cell
        refine ⟨_, rfl, a, _, _, _, rfl, rfl, SqL.of g1, atI_nat (j := 2) rfl, ?_⟩
        refine ⟨_, rfl, .inl ⟨_, rfl, _, rfl, _, _, rfl, rfl, wide_div m0 m8 (by decide) (by decide), _, rfl, a, _, _, 2, rfl, rfl, g1, rfl, ?_⟩⟩
        refine ⟨_, rfl, .inl ⟨_, rfl, _, rfl, _, _, rfl, rfl, m0, ?_⟩⟩
        rw [upd_upd]
        refine k _ _ (Int.emod_nonneg _ (by omega)) (Int.emod_lt_of_pos _ m0) (Hand.put h2 hca ⟨i', r' / m, t', rfl, hi', Int.ediv_nonneg r0' (by omega), t0', t1'⟩ h63 hpos)
      · refine ⟨_, rfl, a, _, _, _, rfl, rfl, SqL.of g1, atI_nat (j := 3) rfl, _, _, rfl, rfl, .inl ⟨_, rfl, _, _, rfl, rfl, (by show (0 : Int) < 2147483549; decide), _, rfl, a, _, _, 3, rfl, rfl, g1, rfl, ?_⟩⟩
        have g2 : (upd (upd H a (.lst [V.ref c, V.int i', V.int r', V.int t'])) a (.lst ([V.ref c, V.int i', V.int r', V.int t'].set 3 (.int ((t' + 1) % 2147483549))))) a = some (.lst [.ref c, .int i', .int r', .int ((t' + 1) % 2147483549)]) := upd_same
        refine ⟨_, rfl, a, _, _, _, rfl, rfl, SqL.of g2, atI_nat (j := 3) rfl, _, rfl, a, _, _, _, rfl, rfl, SqL.of g2, atI_nat (j := 1) rfl, _, _, rfl, Int.emod_nonneg _ (by decide), ?_, by omega, by omega, fun v => .inl ⟨_, rfl, _, rfl, _, _, rfl, rfl, m0, ?_⟩⟩
        · have := Int.emod_lt_of_pos (t' + 1) (show (0 : Int) < 2147483549 by decide)
          omega
        · rw [upd_upd]
          exact k _ _ (Int.emod_nonneg _ (by omega)) (Int.emod_lt_of_pos _ m0) (Hand.put h2 hca ⟨i', r', _, rfl, hi', r0', Int.emod_nonneg _ (by decide), Int.emod_lt_of_pos _ (by decide)⟩ h63 hpos)
theorem scHand : FnScope ["_law_script", "_law_total", "_law_cells", "_law_cell"] ["_law_script"] (defScope sHand) := ⟨rfl, rfl, rfl, by decide +kernel, rfl, by decide +kernel, by decide +kernel⟩
theorem ok_hand {f : Addr} {fd : FuncData} (F : Fun K "_law_hand" "_law_hand" sHand f fd) (mI : mg "int" = none) (mL : mg "len" = none) (mA : mg "abs" = none) : FnOk P w K mg base CX0 1 f fd ["_law_script"] (spHand K) := by
  refine F.ok scHand (fun vs H Q E h => ?_) (fun cdv A outer s H vs Q E hr h => ?_)
  · obtain ⟨a, ns, rfl, _⟩ := h
    rfl
  · obtain ⟨a, ns, rfl, hS, h63, k⟩ := h
    refine ⟨_, pss_cons (ps_set (i := 1) scHand.nd rfl (.inl rfl) (pe_op op_add (pe_callB call_len_seq (by rfl) mL PySem.boot_len (pa_cons (pv 0) pa_nil)) pe_int))
      (pss_cons (ps_set (i := 2) scHand.nd rfl (.inl rfl) (pe_lst pa_nil))
      (pss_cons (ps_for PassesOwn.never rfl (pi_list (pv 0)) (pg_name (i := 3) scHand.nd rfl (.inl rfl))
        (pss_cons (ps_set (i := 1) scHand.nd rfl (.inl rfl) (pe_op op_mod (pe_callTy call_int1 (by rfl) mI boot_int (pa_cons (pe_op op_add (pe_op op_mul (pv 1) pe_int) (pe_callTy call_int1 (by rfl) mI boot_int (pa_cons (pv 3) pa_nil))) pa_nil)) pe_int))
        (pss_one (ps_expr (pe_bm PySem.F.plainAttrs_list PySem.F.slot_list_append PySem.F.type_list_append mt_append (pv 2) (pa_cons (pe_callB call_abs (by rfl) mA boot_abs (pa_cons (pe_callTy call_int1 (by rfl) mI boot_int (pa_cons (pv 3) pa_nil)) pa_nil)) pa_nil))))))
      (pss_one (ps_ret (pe_lst (pa_cons (pv 2) (pa_cons pe_int (pa_cons pe_int (pa_cons (pv 1) pa_nil))))))))), ?_⟩
    refine ⟨_, rfl, a, _, rfl, .inl hS, _, _, rfl, rfl, Nat.zero_le _, fun c nc => ?_⟩
    have s1 : Same H (upd H c (.lst [])) := same_upd nc
    refine ⟨_, rfl, a, rfl, ⟨_, s1.seq hS⟩, for_list (K := K) (a := a) (xs := ns.map V.int) (fun i σ H' => ∃ (t : Int) (v3 : Option V) (cs : List Int), σ = [some (.ref a), some (.int t), some (.ref c), v3] ∧ 0 ≤ t ∧ t < 2147483549 ∧ cs.length = i ∧ (∀ x ∈ cs, 0 ≤ x) ∧ H' c = some (.lst (cs.map V.int)) ∧ Same H H')
      ⟨_, none, [], rfl, by omega, ?_, rfl, by simp, upd_same, s1⟩ (fun i σ H' _ ⟨_, _, _, _, _, _, _, _, _, s2⟩ => s2.seq hS) ?_ ?_⟩
    · rw [List.length_map]
      omega
    · rintro i y σ H' hi ⟨t, v3, cs, rfl, t0, t1, hlen, hpos, hc, s2⟩
      have hi2 : i < ns.length := by
        have hlt := (List.getElem?_eq_some_iff.mp hi).1
        rwa [List.length_map] at hlt
      obtain ⟨z, rfl⟩ : ∃ z, y = V.int z := by
        rw [List.getElem?_map, List.getElem?_eq_getElem hi2] at hi
        exact ⟨_, (Option.some.inj hi).symm⟩
      refine ⟨_, rfl, _, _, rfl, rfl, .inr (by decide), _, rfl, .inl ⟨_, rfl, _, _, rfl, rfl, .inl ⟨_, rfl, _, _, rfl, rfl, (by show (0 : Int) < 2147483549; decide), ?_⟩⟩⟩
      refine ⟨_, rfl, .inl ⟨rfl, _, SqL.of hc⟩, _, rfl, .inl ⟨_, rfl, _, rfl, c, _, _, rfl, rfl, hc, ?_, ?_⟩⟩
      · rw [List.length_map]
        exact small1000 (by omega)
      · refine ⟨_, some (.int z), cs ++ [if z < 0 then -z else z], rfl, Int.emod_nonneg _ (by decide), Int.emod_lt_of_pos _ (by decide), by simp [hlen], ?_, ?_, fun b o e => ?_⟩
        · intro x hx
          rcases List.mem_append.mp hx with h | h
          · exact hpos x h
          · rw [List.mem_singleton] at h
            subst h
            split <;> omega
        · rw [upd_same, List.map_append]
          rfl
        · rw [upd_ne (ne_of_none e nc)]
          exact s2 _ _ e
    · rintro σ H' ⟨t, v3, cs, rfl, t0, t1, hlen, hpos, hc, s2⟩
      rw [List.length_map] at hlen
      refine ⟨_, rfl, _, rfl, (by show 4 ≤ sizeLine; decide), fun p np => ?_⟩
      have npc : c ≠ p := ne_of_none hc np
      exact k p c _ (s2.trans (same_upd np)) (s2.free np) nc ⟨cs, _, upd_same, by rw [upd_ne npc]; exact hc, ⟨0, 0, t, rfl, Nat.zero_le _, by decide, t0, t1⟩, by omega, hpos⟩
end
end My
set_option Elab.async false
set_option linter.all false
set_option maxRecDepth 100000
set_option maxHeartbeats 4000000
namespace My
open PySem PySem.Spec PyProof.Rows L2
abbrev sIn : Stmt := topS 2
abbrev sKept : Stmt := topS 3
abbrev sDE : Stmt := inClass (topS 4) 0
/-- return thing, thing an int -/
def spKeptI : Sp := fun vs H Q _ => ∃ i : Int, vs = [.int i] ∧ ∀ H', Same H H' → Q (.int i) H'
def spInI : Sp := fun vs H Q _ => ∃ i d : Int, vs = [.int i, .int d] ∧ ∀ H', Same H H' → Q (.int i) H'
def spDE (K : PySem.W.Frag) : Sp := fun vs H Q _ => ∃ (a C : Addr) (x : V), vs = [.ref a, x] ∧ OexC K C ∧ H a = some (exo a C none) ∧ Q .non H
def attrs (fs : List Str) (is : List Int) : List (Str × V) := (fs.zip (is.map V.int)).reverse
/-- C's __init__, its fields fs set to the ints is, in this order -/
def spInit (C : Addr) (fs : List Str) : Sp := fun vs H Q _ => ∃ (a : Addr) (is : List Int), vs = .ref a :: is.map V.int ∧ is.length = fs.length ∧ H a = some (exo a C none) ∧
  ∀ H', (∀ b o, H b = some o → b ≠ a → H' b = some o) → ExAt H' a C (attrs fs is) → Q .non H'
section
variable {P : Program} {w : World} {K : PySem.W.Frag} {mg : Str → Option Value} {base : Heap}
/-- a class of these that may be made by its name -/
structure Mke (P : Program) (w : World) (K : PySem.W.Frag) (mg : Str → Option Value) (base : Heap) (x : Str) (C : Addr) (fs : List Str) : Prop where
  t : ExT K C
  nf : ∀ f ∈ fs, PySem.W.findIn K (.ref C) f = some none
  gx : mg x = some (.ref C)
  ex : ∃ (fI : Addr) (fd : FuncData) (ps : List Str), FnOk P w K mg base CX0 3 fI fd ps (spInit C fs) ∧ PySem.W.findIn K (.ref C) "__init__" = some (some (.ref fI)) ∧ PySem.W.typeIn K (.ref fI) = some (.type "function") ∧ Binds K fd ps []
/-- DealError, its __init__ -/
structure DEf (P : Program) (w : World) (K : PySem.W.Frag) (mg : Str → Option Value) (base : Heap) : Prop where
  ex : ∃ (D f : Addr) (fd : FuncData) (ps : List Str) (mc : Value), ClX.CRead K D mc ∧ PySem.W.findCls K (.ref D) mc "__init__" = some (.val (.ref f)) ∧ FnOk P w K mg base CX0 1 f fd ps (spDE K) ∧ PySem.W.keepIn K (.ref f) = true ∧ Binds K fd ps [] ∧ mg "DealError" = some (.ref D)
/-- C(e, ..) -/
def rNewI (C : Addr) (fs : List Str) : List V → Hp → VK → Prop := fun vs H1 Q => ∃ is : List Int, vs = is.map V.int ∧ is.length = fs.length ∧ ∀ a H2, Same H1 H2 → H1 a = none → ExAt H2 a C (attrs fs is) → Q (.ref a) H2
theorem pe_newI {X : Cx} {j : Nat} {x : Str} {C : Addr} {fs : List Str} {e : Expr} {es : List Expr} {ta : TA} {p pos : Pos} (M : Mke X.prog X.w X.K X.mg X.base x C fs) (h9 : fs.length ≤ 9) (hr : Room j X.A) (hk : 4 ≤ j) (hg : Gl X x) (ha : PA X (e :: es) ta)
    (hdg : (x == ("__debug__" : Str)) = false := by decide) (hst : starEach (e :: es) X.env = (false, eval e X.env) :: starEach es X.env := by rfl) (hpn : (backTo pos (starEach es X.env)).any (·.1) = false := by rfl) :
    PE X (.Call (.Name x p) (e :: es) [] pos) (tCB (rNewI C fs) ta) := by
  obtain ⟨fI, fd, ps, F, iC, tI, b⟩ := M.ex
  refine pe_mkv M.t.o iC tI F hr hk b hg M.gx (fun vs H1 Q h => ?_) ha hdg hst hpn
  obtain ⟨is, rfl, hl, k⟩ := h
  exact ⟨by rw [List.length_map]; omega, fun a na => ⟨a, is, rfl, hl, upd_same, fun H' kp ea => ⟨rfl, k a H' (fun b o q => kp b o (by rw [upd_ne (ne_of_none q na)]; exact q) (ne_of_none q na)) na ea⟩⟩⟩
theorem scIn : FnScope ["thing", "depth", "item"] ["thing", "depth"] (defScope sIn) := ⟨rfl, rfl, rfl, by decide +kernel, rfl, by decide +kernel, by decide +kernel⟩
theorem ok_in {f : Addr} {fd : FuncData} (F : Fun K "_in_tuples" "_in_tuples" sIn f fd) (mS : mg "isinstance" = none) (mL : mg "list" = none) (mT : mg "tuple" = none) : FnOk P w K mg base CX0 1 f fd ["thing", "depth"] spInI := by
  refine F.ok scIn (fun vs H Q E h => ?_) (fun cdv A outer s H vs Q E hr h => ?_)
  · obtain ⟨i, d, rfl, _⟩ := h
    rfl
  · obtain ⟨i, d, rfl, k⟩ := h
    refine ⟨_, pss_cons (ps_if (PW.pt (pw_or (pt_cmpR op_eq (pv 1) pe_int (nomark _)) (pw_or1 (pt_not (pt_val (pe_callB call_isiT (by rfl) mS (by decide +kernel) (pa_cons (pv 0) (pa_cons (pe_tup (pa_cons (pe_bltn (v := .ty "list") (by rfl) mL (by decide +kernel) rfl) (pa_cons (pe_bltn (v := .ty "tuple") (by rfl) mT (by decide +kernel) rfl) pa_nil))) pa_nil))))))))
      (pss_one (ps_ret (pv 0))) pss_nil) pss_never, ?_⟩
    refine ⟨_, rfl, rfl, _, rfl, ite2 (fun e => iteT ⟨_, rfl, k _ (Same.refl _)⟩) (fun e => ?_)⟩
    refine ⟨_, rfl, (by show 2 ≤ sizeLine; decide), fun p np => ⟨_, p, _, .type "int", [.type "list", .type "tuple"], false, rfl, upd_same, .cons (.ty _) (.cons (.ty _) .nil), .base (.int i), kitAny_cons (b := false) (kit_ty (by decide +kernel)) (fun _ => kitAny_cons (b := false) (kit_ty (by decide +kernel)) (fun _ => kitAny_nil) (fun z => by cases z)) (fun z => by cases z), _, rfl, ?_⟩⟩
    exact iteT ⟨_, rfl, k _ (same_upd np)⟩
theorem scKept : FnScope ["thing"] ["thing"] (defScope sKept) := ⟨rfl, rfl, rfl, by decide +kernel, rfl, by decide +kernel, by decide +kernel⟩
theorem ok_kept {f : Addr} {fd : FuncData} {tk : Tok} (F : Fun K "_kept" "_kept" sKept f fd) (c : Cal P w K mg base 1 "_in_tuples" spInI) (mD : mg "DEEPEST" = some (.int 6 tk)) : FnOk P w K mg base CX0 2 f fd ["thing"] spKeptI := by
  refine F.ok scKept (fun vs H Q E h => ?_) (fun cdv A outer s H vs Q E hr h => ?_)
  · obtain ⟨i, rfl, _⟩ := h
    rfl
  · obtain ⟨i, rfl, k⟩ := h
    refine ⟨_, pss_one (ps_ret (pe_c c hr (by decide) rfl (pa_cons (pv 0) (pa_cons (pe_glob (v := .int 6) (by rfl) mD ⟨_, rfl⟩) pa_nil)))), ?_⟩
    exact ⟨_, rfl, _, _, rfl, k⟩
theorem scDE : FnScope ["self", "message"] ["self", "message"] (defScope sDE) := ⟨rfl, rfl, rfl, by decide +kernel, rfl, by decide +kernel, by decide +kernel⟩
theorem ok_DE {f : Addr} {fd : FuncData} {dvs : List V} (F : FunD K "__init__" "DealError.__init__" (defArgs sDE) (defBody sDE) (defScope sDE) dvs [] f fd) (mV : mg "ValueError" = none) (vV : PySem.W.findCls K (.type "ValueError") (.type "type") "__init__" = some (.val (.builtin "ValueError.__init__"))) : FnOk P w K mg base CX0 1 f fd ["self", "message"] (spDE K) := by
  refine F.ok scDE (fun vs H Q E h => ?_) (fun cdv A outer s H vs Q E hr h => ?_)
  · obtain ⟨a, C, x, rfl, _⟩ := h
    rfl
  · obtain ⟨a, C, x, rfl, T, ha, k⟩ := h
    refine ⟨_, PSs.nox (pss_one (ps_expr (pe_veinit (by rfl) mV vV (pa_cons (pv 0) (pa_cons (pv 1) pa_nil))))), ?_⟩
    exact ⟨_, rfl, _, rfl, a, C, _, rfl, (by show 1 ≤ 1000; decide), T, ha, k⟩
theorem len1 {is : List Int} {f : Str} (h : is.length = [f].length) : ∃ i, is = [i] := by
  match is, h with
  | [i], _ => exact ⟨i, rfl⟩
theorem len2 {is : List Int} {f g : Str} (h : is.length = [f, g].length) : ∃ i j, is = [i, j] := by
  match is, h with
  | [i, j], _ => exact ⟨i, j, rfl⟩
theorem sc_BadWidths : FnScope ["self", "index"] ["self", "index"] (defScope (inClass (topS 5) 0)) := ⟨rfl, rfl, rfl, by decide +kernel, rfl, by decide +kernel, by decide +kernel⟩
theorem ok_BadWidths {f C : Addr} {fd : FuncData} (F : Fun K "__init__" "BadWidths.__init__" (inClass (topS 5) 0) f fd) (D : DEf P w K mg base) (cK : Cal P w K mg base 2 "_kept" spKeptI) (T : ExT K C) (nf : ∀ f ∈ (["index"] : List Str), PySem.W.findIn K (.ref C) f = some none) : FnOk P w K mg base CX0 3 f fd ["self", "index"] (spInit C ["index"]) := by
  obtain ⟨D, fD, fdD, psD, mc, rd, fc, FD, kpD, bD, gD⟩ := D.ex
  refine F.ok sc_BadWidths (fun vs H Q E h => ?_) (fun cdv A outer s H vs Q E hr h => ?_)
  · obtain ⟨a, is, rfl, hl, _⟩ := h
    rw [List.length_cons, List.length_map, hl]
    rfl
  · obtain ⟨a, is, rfl, hl, ha, k⟩ := h
    obtain ⟨i, rfl⟩ := len1 hl
    refine ⟨_, pss_cons (ps_expr (pe_clsfn rd fc FD hr (by decide) kpD bD (by rfl) gD (pa_cons (pv 0) (pa_cons pe_str pa_nil)))) (pss_one (ps_ost (pv 0) (pv 1))), ?_⟩
    refine ⟨_, rfl, a, C, _, rfl, T.o, ha, ?_⟩
    refine ⟨_, rfl, _, rfl, a, C, rfl, T.o, nf _ (by simp), .inl ⟨ha, fun dx nd ne => ?_⟩⟩
    exact k _ (fun b o q hb => by rw [upd_ne hb, upd_ne (ne_of_none q nd)]; exact q) ⟨dx, upd_same, by rw [upd_ne ne, upd_same]; rfl⟩
theorem sc_BadRow : FnScope ["self", "what"] ["self", "what"] (defScope (inClass (topS 6) 0)) := ⟨rfl, rfl, rfl, by decide +kernel, rfl, by decide +kernel, by decide +kernel⟩
theorem ok_BadRow {f C : Addr} {fd : FuncData} (F : Fun K "__init__" "BadRow.__init__" (inClass (topS 6) 0) f fd) (D : DEf P w K mg base) (cK : Cal P w K mg base 2 "_kept" spKeptI) (T : ExT K C) (nf : ∀ f ∈ (["what"] : List Str), PySem.W.findIn K (.ref C) f = some none) : FnOk P w K mg base CX0 3 f fd ["self", "what"] (spInit C ["what"]) := by
  obtain ⟨D, fD, fdD, psD, mc, rd, fc, FD, kpD, bD, gD⟩ := D.ex
  refine F.ok sc_BadRow (fun vs H Q E h => ?_) (fun cdv A outer s H vs Q E hr h => ?_)
  · obtain ⟨a, is, rfl, hl, _⟩ := h
    rw [List.length_cons, List.length_map, hl]
    rfl
  · obtain ⟨a, is, rfl, hl, ha, k⟩ := h
    obtain ⟨i, rfl⟩ := len1 hl
    refine ⟨_, pss_cons (ps_expr (pe_clsfn rd fc FD hr (by decide) kpD bD (by rfl) gD (pa_cons (pv 0) (pa_cons pe_str pa_nil)))) (pss_one (ps_ost (pv 0) (pv 1))), ?_⟩
    refine ⟨_, rfl, a, C, _, rfl, T.o, ha, ?_⟩
    refine ⟨_, rfl, _, rfl, a, C, rfl, T.o, nf _ (by simp), .inl ⟨ha, fun dx nd ne => ?_⟩⟩
    exact k _ (fun b o q hb => by rw [upd_ne hb, upd_ne (ne_of_none q nd)]; exact q) ⟨dx, upd_same, by rw [upd_ne ne, upd_same]; rfl⟩
theorem sc_BadStore : FnScope ["self", "index", "what"] ["self", "index", "what"] (defScope (inClass (topS 7) 0)) := ⟨rfl, rfl, rfl, by decide +kernel, rfl, by decide +kernel, by decide +kernel⟩
theorem ok_BadStore {f C : Addr} {fd : FuncData} (F : Fun K "__init__" "BadStore.__init__" (inClass (topS 7) 0) f fd) (D : DEf P w K mg base) (cK : Cal P w K mg base 2 "_kept" spKeptI) (T : ExT K C) (nf : ∀ f ∈ (["index", "what"] : List Str), PySem.W.findIn K (.ref C) f = some none) : FnOk P w K mg base CX0 3 f fd ["self", "index", "what"] (spInit C ["index", "what"]) := by
  obtain ⟨D, fD, fdD, psD, mc, rd, fc, FD, kpD, bD, gD⟩ := D.ex
  refine F.ok sc_BadStore (fun vs H Q E h => ?_) (fun cdv A outer s H vs Q E hr h => ?_)
  · obtain ⟨a, is, rfl, hl, _⟩ := h
    rw [List.length_cons, List.length_map, hl]
    rfl
  · obtain ⟨a, is, rfl, hl, ha, k⟩ := h
    obtain ⟨i, j, rfl⟩ := len2 hl
    refine ⟨_, pss_cons (ps_expr (pe_clsfn rd fc FD hr (by decide) kpD bD (by rfl) gD (pa_cons (pv 0) (pa_cons pe_str pa_nil)))) (pss_cons (ps_ost (pv 0) (pv 1)) (pss_one (ps_ost (pv 0) (pv 2)))), ?_⟩
    refine ⟨_, rfl, a, C, _, rfl, T.o, ha, ?_⟩
    refine ⟨_, rfl, _, rfl, a, C, rfl, T.o, nf _ (by simp), .inl ⟨ha, fun dx nd ne => ?_⟩⟩
    refine ⟨_, rfl, _, rfl, a, C, rfl, T.o, nf _ (by simp), .inr ⟨dx, _, upd_same, by rw [upd_ne ne, upd_same], (by show 1 ≤ 900; decide), ?_⟩⟩
    exact k _ (fun b o q hb => by rw [upd_ne (ne_of_none q nd), upd_ne hb, upd_ne (ne_of_none q nd)]; exact q) ⟨dx, by rw [upd_ne (Ne.symm ne)]; exact upd_same, upd_same⟩
theorem sc_BadQuestion : FnScope ["self", "what", "index"] ["self", "what", "index"] (defScope (inClass (topS 8) 0)) := ⟨rfl, rfl, rfl, by decide +kernel, rfl, by decide +kernel, by decide +kernel⟩
theorem ok_BadQuestion {f C : Addr} {fd : FuncData} (F : Fun K "__init__" "BadQuestion.__init__" (inClass (topS 8) 0) f fd) (D : DEf P w K mg base) (cK : Cal P w K mg base 2 "_kept" spKeptI) (T : ExT K C) (nf : ∀ f ∈ (["what", "index"] : List Str), PySem.W.findIn K (.ref C) f = some none) : FnOk P w K mg base CX0 3 f fd ["self", "what", "index"] (spInit C ["what", "index"]) := by
  obtain ⟨D, fD, fdD, psD, mc, rd, fc, FD, kpD, bD, gD⟩ := D.ex
  refine F.ok sc_BadQuestion (fun vs H Q E h => ?_) (fun cdv A outer s H vs Q E hr h => ?_)
  · obtain ⟨a, is, rfl, hl, _⟩ := h
    rw [List.length_cons, List.length_map, hl]
    rfl
  · obtain ⟨a, is, rfl, hl, ha, k⟩ := h
    obtain ⟨i, j, rfl⟩ := len2 hl
    refine ⟨_, pss_cons (ps_expr (pe_clsfn rd fc FD hr (by decide) kpD bD (by rfl) gD (pa_cons (pv 0) (pa_cons pe_str pa_nil)))) (pss_cons (ps_ost (pv 0) (pv 1)) (pss_one (ps_ost (pv 0) (pv 2)))), ?_⟩
    refine ⟨_, rfl, a, C, _, rfl, T.o, ha, ?_⟩
    refine ⟨_, rfl, _, rfl, a, C, rfl, T.o, nf _ (by simp), .inl ⟨ha, fun dx nd ne => ?_⟩⟩
    refine ⟨_, rfl, _, rfl, a, C, rfl, T.o, nf _ (by simp), .inr ⟨dx, _, upd_same, by rw [upd_ne ne, upd_same], (by show 1 ≤ 900; decide), ?_⟩⟩
    exact k _ (fun b o q hb => by rw [upd_ne (ne_of_none q nd), upd_ne hb, upd_ne (ne_of_none q nd)]; exact q) ⟨dx, by rw [upd_ne (Ne.symm ne)]; exact upd_same, upd_same⟩
theorem sc_BadUnion : FnScope ["self", "what", "index"] ["self", "what", "index"] (defScope (inClass (topS 9) 0)) := ⟨rfl, rfl, rfl, by decide +kernel, rfl, by decide +kernel, by decide +kernel⟩
theorem ok_BadUnion {f C : Addr} {fd : FuncData} (F : Fun K "__init__" "BadUnion.__init__" (inClass (topS 9) 0) f fd) (D : DEf P w K mg base) (cK : Cal P w K mg base 2 "_kept" spKeptI) (T : ExT K C) (nf : ∀ f ∈ (["what", "index"] : List Str), PySem.W.findIn K (.ref C) f = some none) : FnOk P w K mg base CX0 3 f fd ["self", "what", "index"] (spInit C ["what", "index"]) := by
  obtain ⟨D, fD, fdD, psD, mc, rd, fc, FD, kpD, bD, gD⟩ := D.ex
  refine F.ok sc_BadUnion (fun vs H Q E h => ?_) (fun cdv A outer s H vs Q E hr h => ?_)
  · obtain ⟨a, is, rfl, hl, _⟩ := h
    rw [List.length_cons, List.length_map, hl]
    rfl
  · obtain ⟨a, is, rfl, hl, ha, k⟩ := h
    obtain ⟨i, j, rfl⟩ := len2 hl
    refine ⟨_, pss_cons (ps_expr (pe_clsfn rd fc FD hr (by decide) kpD bD (by rfl) gD (pa_cons (pv 0) (pa_cons pe_str pa_nil)))) (pss_cons (ps_ost (pv 0) (pv 1)) (pss_one (ps_ost (pv 0) (pv 2)))), ?_⟩
    refine ⟨_, rfl, a, C, _, rfl, T.o, ha, ?_⟩
    refine ⟨_, rfl, _, rfl, a, C, rfl, T.o, nf _ (by simp), .inl ⟨ha, fun dx nd ne => ?_⟩⟩
    refine ⟨_, rfl, _, rfl, a, C, rfl, T.o, nf _ (by simp), .inr ⟨dx, _, upd_same, by rw [upd_ne ne, upd_same], (by show 1 ≤ 900; decide), ?_⟩⟩
    exact k _ (fun b o q hb => by rw [upd_ne (ne_of_none q nd), upd_ne hb, upd_ne (ne_of_none q nd)]; exact q) ⟨dx, by rw [upd_ne (Ne.symm ne)]; exact upd_same, upd_same⟩
theorem sc_BadReading : FnScope ["self", "reading"] ["self", "reading"] (defScope (inClass (topS 10) 0)) := ⟨rfl, rfl, rfl, by decide +kernel, rfl, by decide +kernel, by decide +kernel⟩
theorem ok_BadReading {f C : Addr} {fd : FuncData} (F : Fun K "__init__" "BadReading.__init__" (inClass (topS 10) 0) f fd) (D : DEf P w K mg base) (cK : Cal P w K mg base 2 "_kept" spKeptI) (T : ExT K C) (nf : ∀ f ∈ (["reading"] : List Str), PySem.W.findIn K (.ref C) f = some none) : FnOk P w K mg base CX0 3 f fd ["self", "reading"] (spInit C ["reading"]) := by
  obtain ⟨D, fD, fdD, psD, mc, rd, fc, FD, kpD, bD, gD⟩ := D.ex
  refine F.ok sc_BadReading (fun vs H Q E h => ?_) (fun cdv A outer s H vs Q E hr h => ?_)
  · obtain ⟨a, is, rfl, hl, _⟩ := h
    rw [List.length_cons, List.length_map, hl]
    rfl
  · obtain ⟨a, is, rfl, hl, ha, k⟩ := h
    obtain ⟨i, rfl⟩ := len1 hl
    refine ⟨_, pss_cons (ps_expr (pe_clsfn rd fc FD hr (by decide) kpD bD (by rfl) gD (pa_cons (pv 0) (pa_cons pe_str pa_nil)))) (pss_one (ps_ost (pv 0) (pe_c cK hr (by decide) rfl (pa_cons (pv 1) pa_nil)))), ?_⟩
    refine ⟨_, rfl, a, C, _, rfl, T.o, ha, ?_⟩
    refine ⟨_, rfl, _, rfl, fun H1 s1 => ⟨_, rfl, a, C, rfl, T.o, nf _ (by simp), .inl ⟨s1 _ _ ha, fun dx nd ne => ?_⟩⟩⟩
    exact k _ (fun b o q hb => by rw [upd_ne hb, upd_ne (ne_of_none (s1 _ _ q) nd)]; exact s1 _ _ q) ⟨dx, upd_same, by rw [upd_ne ne, upd_same]; rfl⟩
theorem sc_BadMoves : FnScope ["self", "index"] ["self", "index"] (defScope (inClass (topS 11) 0)) := ⟨rfl, rfl, rfl, by decide +kernel, rfl, by decide +kernel, by decide +kernel⟩
theorem ok_BadMoves {f C : Addr} {fd : FuncData} (F : Fun K "__init__" "BadMoves.__init__" (inClass (topS 11) 0) f fd) (D : DEf P w K mg base) (cK : Cal P w K mg base 2 "_kept" spKeptI) (T : ExT K C) (nf : ∀ f ∈ (["index"] : List Str), PySem.W.findIn K (.ref C) f = some none) : FnOk P w K mg base CX0 3 f fd ["self", "index"] (spInit C ["index"]) := by
  obtain ⟨D, fD, fdD, psD, mc, rd, fc, FD, kpD, bD, gD⟩ := D.ex
  refine F.ok sc_BadMoves (fun vs H Q E h => ?_) (fun cdv A outer s H vs Q E hr h => ?_)
  · obtain ⟨a, is, rfl, hl, _⟩ := h
    rw [List.length_cons, List.length_map, hl]
    rfl
  · obtain ⟨a, is, rfl, hl, ha, k⟩ := h
    obtain ⟨i, rfl⟩ := len1 hl
    refine ⟨_, pss_cons (ps_expr (pe_clsfn rd fc FD hr (by decide) kpD bD (by rfl) gD (pa_cons (pv 0) (pa_cons pe_str pa_nil)))) (pss_one (ps_ost (pv 0) (pv 1))), ?_⟩
    refine ⟨_, rfl, a, C, _, rfl, T.o, ha, ?_⟩
    refine ⟨_, rfl, _, rfl, a, C, rfl, T.o, nf _ (by simp), .inl ⟨ha, fun dx nd ne => ?_⟩⟩
    exact k _ (fun b o q hb => by rw [upd_ne hb, upd_ne (ne_of_none q nd)]; exact q) ⟨dx, upd_same, by rw [upd_ne ne, upd_same]; rfl⟩
theorem sc_BadLetters : FnScope ["self", "letters"] ["self", "letters"] (defScope (inClass (topS 12) 0)) := ⟨rfl, rfl, rfl, by decide +kernel, rfl, by decide +kernel, by decide +kernel⟩
theorem ok_BadLetters {f C : Addr} {fd : FuncData} (F : Fun K "__init__" "BadLetters.__init__" (inClass (topS 12) 0) f fd) (D : DEf P w K mg base) (cK : Cal P w K mg base 2 "_kept" spKeptI) (T : ExT K C) (nf : ∀ f ∈ (["letters"] : List Str), PySem.W.findIn K (.ref C) f = some none) : FnOk P w K mg base CX0 3 f fd ["self", "letters"] (spInit C ["letters"]) := by
  obtain ⟨D, fD, fdD, psD, mc, rd, fc, FD, kpD, bD, gD⟩ := D.ex
  refine F.ok sc_BadLetters (fun vs H Q E h => ?_) (fun cdv A outer s H vs Q E hr h => ?_)
  · obtain ⟨a, is, rfl, hl, _⟩ := h
    rw [List.length_cons, List.length_map, hl]
    rfl
  · obtain ⟨a, is, rfl, hl, ha, k⟩ := h
    obtain ⟨i, rfl⟩ := len1 hl
    refine ⟨_, pss_cons (ps_expr (pe_clsfn rd fc FD hr (by decide) kpD bD (by rfl) gD (pa_cons (pv 0) (pa_cons pe_str pa_nil)))) (pss_one (ps_ost (pv 0) (pe_c cK hr (by decide) rfl (pa_cons (pv 1) pa_nil)))), ?_⟩
    refine ⟨_, rfl, a, C, _, rfl, T.o, ha, ?_⟩
    refine ⟨_, rfl, _, rfl, fun H1 s1 => ⟨_, rfl, a, C, rfl, T.o, nf _ (by simp), .inl ⟨s1 _ _ ha, fun dx nd ne => ?_⟩⟩⟩
    exact k _ (fun b o q hb => by rw [upd_ne hb, upd_ne (ne_of_none (s1 _ _ q) nd)]; exact s1 _ _ q) ⟨dx, upd_same, by rw [upd_ne ne, upd_same]; rfl⟩
theorem sc_BadText : FnScope ["self", "place"] ["self", "place"] (defScope (inClass (topS 13) 0)) := ⟨rfl, rfl, rfl, by decide +kernel, rfl, by decide +kernel, by decide +kernel⟩
theorem ok_BadText {f C : Addr} {fd : FuncData} (F : Fun K "__init__" "BadText.__init__" (inClass (topS 13) 0) f fd) (D : DEf P w K mg base) (cK : Cal P w K mg base 2 "_kept" spKeptI) (T : ExT K C) (nf : ∀ f ∈ (["place"] : List Str), PySem.W.findIn K (.ref C) f = some none) : FnOk P w K mg base CX0 3 f fd ["self", "place"] (spInit C ["place"]) := by
  obtain ⟨D, fD, fdD, psD, mc, rd, fc, FD, kpD, bD, gD⟩ := D.ex
  refine F.ok sc_BadText (fun vs H Q E h => ?_) (fun cdv A outer s H vs Q E hr h => ?_)
  · obtain ⟨a, is, rfl, hl, _⟩ := h
    rw [List.length_cons, List.length_map, hl]
    rfl
  · obtain ⟨a, is, rfl, hl, ha, k⟩ := h
    obtain ⟨i, rfl⟩ := len1 hl
    refine ⟨_, pss_cons (ps_expr (pe_clsfn rd fc FD hr (by decide) kpD bD (by rfl) gD (pa_cons (pv 0) (pa_cons pe_str pa_nil)))) (pss_one (ps_ost (pv 0) (pv 1))), ?_⟩
    refine ⟨_, rfl, a, C, _, rfl, T.o, ha, ?_⟩
    refine ⟨_, rfl, _, rfl, a, C, rfl, T.o, nf _ (by simp), .inl ⟨ha, fun dx nd ne => ?_⟩⟩
    exact k _ (fun b o q hb => by rw [upd_ne hb, upd_ne (ne_of_none q nd)]; exact q) ⟨dx, upd_same, by rw [upd_ne ne, upd_same]; rfl⟩
theorem sc_BadSorts : FnScope ["self", "what"] ["self", "what"] (defScope (inClass (topS 14) 0)) := ⟨rfl, rfl, rfl, by decide +kernel, rfl, by decide +kernel, by decide +kernel⟩
theorem ok_BadSorts {f C : Addr} {fd : FuncData} (F : Fun K "__init__" "BadSorts.__init__" (inClass (topS 14) 0) f fd) (D : DEf P w K mg base) (cK : Cal P w K mg base 2 "_kept" spKeptI) (T : ExT K C) (nf : ∀ f ∈ (["what"] : List Str), PySem.W.findIn K (.ref C) f = some none) : FnOk P w K mg base CX0 3 f fd ["self", "what"] (spInit C ["what"]) := by
  obtain ⟨D, fD, fdD, psD, mc, rd, fc, FD, kpD, bD, gD⟩ := D.ex
  refine F.ok sc_BadSorts (fun vs H Q E h => ?_) (fun cdv A outer s H vs Q E hr h => ?_)
  · obtain ⟨a, is, rfl, hl, _⟩ := h
    rw [List.length_cons, List.length_map, hl]
    rfl
  · obtain ⟨a, is, rfl, hl, ha, k⟩ := h
    obtain ⟨i, rfl⟩ := len1 hl
    refine ⟨_, pss_cons (ps_expr (pe_clsfn rd fc FD hr (by decide) kpD bD (by rfl) gD (pa_cons (pv 0) (pa_cons pe_str pa_nil)))) (pss_one (ps_ost (pv 0) (pv 1))), ?_⟩
    refine ⟨_, rfl, a, C, _, rfl, T.o, ha, ?_⟩
    refine ⟨_, rfl, _, rfl, a, C, rfl, T.o, nf _ (by simp), .inl ⟨ha, fun dx nd ne => ?_⟩⟩
    exact k _ (fun b o q hb => by rw [upd_ne hb, upd_ne (ne_of_none q nd)]; exact q) ⟨dx, upd_same, by rw [upd_ne ne, upd_same]; rfl⟩
theorem sc_BadValue : FnScope ["self", "value"] ["self", "value"] (defScope (inClass (topS 15) 0)) := ⟨rfl, rfl, rfl, by decide +kernel, rfl, by decide +kernel, by decide +kernel⟩
theorem ok_BadValue {f C : Addr} {fd : FuncData} (F : Fun K "__init__" "BadValue.__init__" (inClass (topS 15) 0) f fd) (D : DEf P w K mg base) (cK : Cal P w K mg base 2 "_kept" spKeptI) (T : ExT K C) (nf : ∀ f ∈ (["value"] : List Str), PySem.W.findIn K (.ref C) f = some none) : FnOk P w K mg base CX0 3 f fd ["self", "value"] (spInit C ["value"]) := by
  obtain ⟨D, fD, fdD, psD, mc, rd, fc, FD, kpD, bD, gD⟩ := D.ex
  refine F.ok sc_BadValue (fun vs H Q E h => ?_) (fun cdv A outer s H vs Q E hr h => ?_)
  · obtain ⟨a, is, rfl, hl, _⟩ := h
    rw [List.length_cons, List.length_map, hl]
    rfl
  · obtain ⟨a, is, rfl, hl, ha, k⟩ := h
    obtain ⟨i, rfl⟩ := len1 hl
    refine ⟨_, pss_cons (ps_expr (pe_clsfn rd fc FD hr (by decide) kpD bD (by rfl) gD (pa_cons (pv 0) (pa_cons pe_str pa_nil)))) (pss_one (ps_ost (pv 0) (pe_c cK hr (by decide) rfl (pa_cons (pv 1) pa_nil)))), ?_⟩
    refine ⟨_, rfl, a, C, _, rfl, T.o, ha, ?_⟩
    refine ⟨_, rfl, _, rfl, fun H1 s1 => ⟨_, rfl, a, C, rfl, T.o, nf _ (by simp), .inl ⟨s1 _ _ ha, fun dx nd ne => ?_⟩⟩⟩
    exact k _ (fun b o q hb => by rw [upd_ne hb, upd_ne (ne_of_none (s1 _ _ q) nd)]; exact s1 _ _ q) ⟨dx, upd_same, by rw [upd_ne ne, upd_same]; rfl⟩
theorem sc_NoSort : FnScope ["self", "number"] ["self", "number"] (defScope (inClass (topS 16) 0)) := ⟨rfl, rfl, rfl, by decide +kernel, rfl, by decide +kernel, by decide +kernel⟩
theorem ok_NoSort {f C : Addr} {fd : FuncData} (F : Fun K "__init__" "NoSort.__init__" (inClass (topS 16) 0) f fd) (D : DEf P w K mg base) (cK : Cal P w K mg base 2 "_kept" spKeptI) (T : ExT K C) (nf : ∀ f ∈ (["number"] : List Str), PySem.W.findIn K (.ref C) f = some none) : FnOk P w K mg base CX0 3 f fd ["self", "number"] (spInit C ["number"]) := by
  obtain ⟨D, fD, fdD, psD, mc, rd, fc, FD, kpD, bD, gD⟩ := D.ex
  refine F.ok sc_NoSort (fun vs H Q E h => ?_) (fun cdv A outer s H vs Q E hr h => ?_)
  · obtain ⟨a, is, rfl, hl, _⟩ := h
    rw [List.length_cons, List.length_map, hl]
    rfl
  · obtain ⟨a, is, rfl, hl, ha, k⟩ := h
    obtain ⟨i, rfl⟩ := len1 hl
    refine ⟨_, pss_cons (ps_expr (pe_clsfn rd fc FD hr (by decide) kpD bD (by rfl) gD (pa_cons (pv 0) (pa_cons pe_str pa_nil)))) (pss_one (ps_ost (pv 0) (pe_c cK hr (by decide) rfl (pa_cons (pv 1) pa_nil)))), ?_⟩
    refine ⟨_, rfl, a, C, _, rfl, T.o, ha, ?_⟩
    refine ⟨_, rfl, _, rfl, fun H1 s1 => ⟨_, rfl, a, C, rfl, T.o, nf _ (by simp), .inl ⟨s1 _ _ ha, fun dx nd ne => ?_⟩⟩⟩
    exact k _ (fun b o q hb => by rw [upd_ne hb, upd_ne (ne_of_none (s1 _ _ q) nd)]; exact s1 _ _ q) ⟨dx, upd_same, by rw [upd_ne ne, upd_same]; rfl⟩
theorem sc_BadTold : FnScope ["self", "told"] ["self", "told"] (defScope (inClass (topS 17) 0)) := ⟨rfl, rfl, rfl, by decide +kernel, rfl, by decide +kernel, by decide +kernel⟩
theorem ok_BadTold {f C : Addr} {fd : FuncData} (F : Fun K "__init__" "BadTold.__init__" (inClass (topS 17) 0) f fd) (D : DEf P w K mg base) (cK : Cal P w K mg base 2 "_kept" spKeptI) (T : ExT K C) (nf : ∀ f ∈ (["told"] : List Str), PySem.W.findIn K (.ref C) f = some none) : FnOk P w K mg base CX0 3 f fd ["self", "told"] (spInit C ["told"]) := by
  obtain ⟨D, fD, fdD, psD, mc, rd, fc, FD, kpD, bD, gD⟩ := D.ex
  refine F.ok sc_BadTold (fun vs H Q E h => ?_) (fun cdv A outer s H vs Q E hr h => ?_)
  · obtain ⟨a, is, rfl, hl, _⟩ := h
    rw [List.length_cons, List.length_map, hl]
    rfl
  · obtain ⟨a, is, rfl, hl, ha, k⟩ := h
    obtain ⟨i, rfl⟩ := len1 hl
    refine ⟨_, pss_cons (ps_expr (pe_clsfn rd fc FD hr (by decide) kpD bD (by rfl) gD (pa_cons (pv 0) (pa_cons pe_str pa_nil)))) (pss_one (ps_ost (pv 0) (pe_c cK hr (by decide) rfl (pa_cons (pv 1) pa_nil)))), ?_⟩
    refine ⟨_, rfl, a, C, _, rfl, T.o, ha, ?_⟩
    refine ⟨_, rfl, _, rfl, fun H1 s1 => ⟨_, rfl, a, C, rfl, T.o, nf _ (by simp), .inl ⟨s1 _ _ ha, fun dx nd ne => ?_⟩⟩⟩
    exact k _ (fun b o q hb => by rw [upd_ne hb, upd_ne (ne_of_none (s1 _ _ q) nd)]; exact s1 _ _ q) ⟨dx, upd_same, by rw [upd_ne ne, upd_same]; rfl⟩
theorem sc_TooMany : FnScope ["self", "most"] ["self", "most"] (defScope (inClass (topS 18) 0)) := ⟨rfl, rfl, rfl, by decide +kernel, rfl, by decide +kernel, by decide +kernel⟩
theorem ok_TooMany {f C : Addr} {fd : FuncData} (F : Fun K "__init__" "TooMany.__init__" (inClass (topS 18) 0) f fd) (D : DEf P w K mg base) (cK : Cal P w K mg base 2 "_kept" spKeptI) (T : ExT K C) (nf : ∀ f ∈ (["most"] : List Str), PySem.W.findIn K (.ref C) f = some none) : FnOk P w K mg base CX0 3 f fd ["self", "most"] (spInit C ["most"]) := by
  obtain ⟨D, fD, fdD, psD, mc, rd, fc, FD, kpD, bD, gD⟩ := D.ex
  refine F.ok sc_TooMany (fun vs H Q E h => ?_) (fun cdv A outer s H vs Q E hr h => ?_)
  · obtain ⟨a, is, rfl, hl, _⟩ := h
    rw [List.length_cons, List.length_map, hl]
    rfl
  · obtain ⟨a, is, rfl, hl, ha, k⟩ := h
    obtain ⟨i, rfl⟩ := len1 hl
    refine ⟨_, pss_cons (ps_expr (pe_clsfn rd fc FD hr (by decide) kpD bD (by rfl) gD (pa_cons (pv 0) (pa_cons pe_str pa_nil)))) (pss_one (ps_ost (pv 0) (pe_c cK hr (by decide) rfl (pa_cons (pv 1) pa_nil)))), ?_⟩
    refine ⟨_, rfl, a, C, _, rfl, T.o, ha, ?_⟩
    refine ⟨_, rfl, _, rfl, fun H1 s1 => ⟨_, rfl, a, C, rfl, T.o, nf _ (by simp), .inl ⟨s1 _ _ ha, fun dx nd ne => ?_⟩⟩⟩
    exact k _ (fun b o q hb => by rw [upd_ne hb, upd_ne (ne_of_none (s1 _ _ q) nd)]; exact s1 _ _ q) ⟨dx, upd_same, by rw [upd_ne ne, upd_same]; rfl⟩
theorem sc_NoAnswer : FnScope ["self", "answer"] ["self", "answer"] (defScope (inClass (topS 19) 0)) := ⟨rfl, rfl, rfl, by decide +kernel, rfl, by decide +kernel, by decide +kernel⟩
theorem ok_NoAnswer {f C : Addr} {fd : FuncData} (F : Fun K "__init__" "NoAnswer.__init__" (inClass (topS 19) 0) f fd) (D : DEf P w K mg base) (cK : Cal P w K mg base 2 "_kept" spKeptI) (T : ExT K C) (nf : ∀ f ∈ (["answer"] : List Str), PySem.W.findIn K (.ref C) f = some none) : FnOk P w K mg base CX0 3 f fd ["self", "answer"] (spInit C ["answer"]) := by
  obtain ⟨D, fD, fdD, psD, mc, rd, fc, FD, kpD, bD, gD⟩ := D.ex
  refine F.ok sc_NoAnswer (fun vs H Q E h => ?_) (fun cdv A outer s H vs Q E hr h => ?_)
  · obtain ⟨a, is, rfl, hl, _⟩ := h
    rw [List.length_cons, List.length_map, hl]
    rfl
  · obtain ⟨a, is, rfl, hl, ha, k⟩ := h
    obtain ⟨i, rfl⟩ := len1 hl
    refine ⟨_, pss_cons (ps_expr (pe_clsfn rd fc FD hr (by decide) kpD bD (by rfl) gD (pa_cons (pv 0) (pa_cons pe_str pa_nil)))) (pss_one (ps_ost (pv 0) (pe_c cK hr (by decide) rfl (pa_cons (pv 1) pa_nil)))), ?_⟩
    refine ⟨_, rfl, a, C, _, rfl, T.o, ha, ?_⟩
    refine ⟨_, rfl, _, rfl, fun H1 s1 => ⟨_, rfl, a, C, rfl, T.o, nf _ (by simp), .inl ⟨s1 _ _ ha, fun dx nd ne => ?_⟩⟩⟩
    exact k _ (fun b o q hb => by rw [upd_ne hb, upd_ne (ne_of_none (s1 _ _ q) nd)]; exact s1 _ _ q) ⟨dx, upd_same, by rw [upd_ne ne, upd_same]; rfl⟩
theorem sc_BadDealing : FnScope ["self", "what", "index"] ["self", "what", "index"] (defScope (inClass (topS 20) 0)) := ⟨rfl, rfl, rfl, by decide +kernel, rfl, by decide +kernel, by decide +kernel⟩
theorem ok_BadDealing {f C : Addr} {fd : FuncData} (F : Fun K "__init__" "BadDealing.__init__" (inClass (topS 20) 0) f fd) (D : DEf P w K mg base) (cK : Cal P w K mg base 2 "_kept" spKeptI) (T : ExT K C) (nf : ∀ f ∈ (["what", "index"] : List Str), PySem.W.findIn K (.ref C) f = some none) : FnOk P w K mg base CX0 3 f fd ["self", "what", "index"] (spInit C ["what", "index"]) := by
  obtain ⟨D, fD, fdD, psD, mc, rd, fc, FD, kpD, bD, gD⟩ := D.ex
  refine F.ok sc_BadDealing (fun vs H Q E h => ?_) (fun cdv A outer s H vs Q E hr h => ?_)
  · obtain ⟨a, is, rfl, hl, _⟩ := h
    rw [List.length_cons, List.length_map, hl]
    rfl
  · obtain ⟨a, is, rfl, hl, ha, k⟩ := h
    obtain ⟨i, j, rfl⟩ := len2 hl
    refine ⟨_, pss_cons (ps_expr (pe_clsfn rd fc FD hr (by decide) kpD bD (by rfl) gD (pa_cons (pv 0) (pa_cons pe_str pa_nil)))) (pss_cons (ps_ost (pv 0) (pv 1)) (pss_one (ps_ost (pv 0) (pv 2)))), ?_⟩
    refine ⟨_, rfl, a, C, _, rfl, T.o, ha, ?_⟩
    refine ⟨_, rfl, _, rfl, a, C, rfl, T.o, nf _ (by simp), .inl ⟨ha, fun dx nd ne => ?_⟩⟩
    refine ⟨_, rfl, _, rfl, a, C, rfl, T.o, nf _ (by simp), .inr ⟨dx, _, upd_same, by rw [upd_ne ne, upd_same], (by show 1 ≤ 900; decide), ?_⟩⟩
    exact k _ (fun b o q hb => by rw [upd_ne (ne_of_none q nd), upd_ne hb, upd_ne (ne_of_none q nd)]; exact q) ⟨dx, by rw [upd_ne (Ne.symm ne)]; exact upd_same, upd_same⟩
theorem sc_NoKind : FnScope ["self", "kind"] ["self", "kind"] (defScope (inClass (topS 21) 0)) := ⟨rfl, rfl, rfl, by decide +kernel, rfl, by decide +kernel, by decide +kernel⟩
theorem ok_NoKind {f C : Addr} {fd : FuncData} (F : Fun K "__init__" "NoKind.__init__" (inClass (topS 21) 0) f fd) (D : DEf P w K mg base) (cK : Cal P w K mg base 2 "_kept" spKeptI) (T : ExT K C) (nf : ∀ f ∈ (["kind"] : List Str), PySem.W.findIn K (.ref C) f = some none) : FnOk P w K mg base CX0 3 f fd ["self", "kind"] (spInit C ["kind"]) := by
  obtain ⟨D, fD, fdD, psD, mc, rd, fc, FD, kpD, bD, gD⟩ := D.ex
  refine F.ok sc_NoKind (fun vs H Q E h => ?_) (fun cdv A outer s H vs Q E hr h => ?_)
  · obtain ⟨a, is, rfl, hl, _⟩ := h
    rw [List.length_cons, List.length_map, hl]
    rfl
  · obtain ⟨a, is, rfl, hl, ha, k⟩ := h
    obtain ⟨i, rfl⟩ := len1 hl
    refine ⟨_, pss_cons (ps_expr (pe_clsfn rd fc FD hr (by decide) kpD bD (by rfl) gD (pa_cons (pv 0) (pa_cons pe_str pa_nil)))) (pss_one (ps_ost (pv 0) (pe_c cK hr (by decide) rfl (pa_cons (pv 1) pa_nil)))), ?_⟩
    refine ⟨_, rfl, a, C, _, rfl, T.o, ha, ?_⟩
    refine ⟨_, rfl, _, rfl, fun H1 s1 => ⟨_, rfl, a, C, rfl, T.o, nf _ (by simp), .inl ⟨s1 _ _ ha, fun dx nd ne => ?_⟩⟩⟩
    exact k _ (fun b o q hb => by rw [upd_ne hb, upd_ne (ne_of_none (s1 _ _ q) nd)]; exact s1 _ _ q) ⟨dx, upd_same, by rw [upd_ne ne, upd_same]; rfl⟩
theorem sc_NoHand : FnScope ["self", "hand"] ["self", "hand"] (defScope (inClass (topS 22) 0)) := ⟨rfl, rfl, rfl, by decide +kernel, rfl, by decide +kernel, by decide +kernel⟩
theorem ok_NoHand {f C : Addr} {fd : FuncData} (F : Fun K "__init__" "NoHand.__init__" (inClass (topS 22) 0) f fd) (D : DEf P w K mg base) (cK : Cal P w K mg base 2 "_kept" spKeptI) (T : ExT K C) (nf : ∀ f ∈ (["hand"] : List Str), PySem.W.findIn K (.ref C) f = some none) : FnOk P w K mg base CX0 3 f fd ["self", "hand"] (spInit C ["hand"]) := by
  obtain ⟨D, fD, fdD, psD, mc, rd, fc, FD, kpD, bD, gD⟩ := D.ex
  refine F.ok sc_NoHand (fun vs H Q E h => ?_) (fun cdv A outer s H vs Q E hr h => ?_)
  · obtain ⟨a, is, rfl, hl, _⟩ := h
    rw [List.length_cons, List.length_map, hl]
    rfl
  · obtain ⟨a, is, rfl, hl, ha, k⟩ := h
    obtain ⟨i, rfl⟩ := len1 hl
    refine ⟨_, pss_cons (ps_expr (pe_clsfn rd fc FD hr (by decide) kpD bD (by rfl) gD (pa_cons (pv 0) (pa_cons pe_str pa_nil)))) (pss_one (ps_ost (pv 0) (pe_c cK hr (by decide) rfl (pa_cons (pv 1) pa_nil)))), ?_⟩
    refine ⟨_, rfl, a, C, _, rfl, T.o, ha, ?_⟩
    refine ⟨_, rfl, _, rfl, fun H1 s1 => ⟨_, rfl, a, C, rfl, T.o, nf _ (by simp), .inl ⟨s1 _ _ ha, fun dx nd ne => ?_⟩⟩⟩
    exact k _ (fun b o q hb => by rw [upd_ne hb, upd_ne (ne_of_none (s1 _ _ q) nd)]; exact s1 _ _ q) ⟨dx, upd_same, by rw [upd_ne ne, upd_same]; rfl⟩
theorem sc_BadLost : FnScope ["self", "index"] ["self", "index"] (defScope (inClass (topS 23) 0)) := ⟨rfl, rfl, rfl, by decide +kernel, rfl, by decide +kernel, by decide +kernel⟩
theorem ok_BadLost {f C : Addr} {fd : FuncData} (F : Fun K "__init__" "BadLost.__init__" (inClass (topS 23) 0) f fd) (D : DEf P w K mg base) (cK : Cal P w K mg base 2 "_kept" spKeptI) (T : ExT K C) (nf : ∀ f ∈ (["index"] : List Str), PySem.W.findIn K (.ref C) f = some none) : FnOk P w K mg base CX0 3 f fd ["self", "index"] (spInit C ["index"]) := by
  obtain ⟨D, fD, fdD, psD, mc, rd, fc, FD, kpD, bD, gD⟩ := D.ex
  refine F.ok sc_BadLost (fun vs H Q E h => ?_) (fun cdv A outer s H vs Q E hr h => ?_)
  · obtain ⟨a, is, rfl, hl, _⟩ := h
    rw [List.length_cons, List.length_map, hl]
    rfl
  · obtain ⟨a, is, rfl, hl, ha, k⟩ := h
    obtain ⟨i, rfl⟩ := len1 hl
    refine ⟨_, pss_cons (ps_expr (pe_clsfn rd fc FD hr (by decide) kpD bD (by rfl) gD (pa_cons (pv 0) (pa_cons pe_str pa_nil)))) (pss_one (ps_ost (pv 0) (pv 1))), ?_⟩
    refine ⟨_, rfl, a, C, _, rfl, T.o, ha, ?_⟩
    refine ⟨_, rfl, _, rfl, a, C, rfl, T.o, nf _ (by simp), .inl ⟨ha, fun dx nd ne => ?_⟩⟩
    exact k _ (fun b o q hb => by rw [upd_ne hb, upd_ne (ne_of_none q nd)]; exact q) ⟨dx, upd_same, by rw [upd_ne ne, upd_same]; rfl⟩
theorem sc_BadOrder : FnScope ["self", "order"] ["self", "order"] (defScope (inClass (topS 24) 0)) := ⟨rfl, rfl, rfl, by decide +kernel, rfl, by decide +kernel, by decide +kernel⟩
theorem ok_BadOrder {f C : Addr} {fd : FuncData} (F : Fun K "__init__" "BadOrder.__init__" (inClass (topS 24) 0) f fd) (D : DEf P w K mg base) (cK : Cal P w K mg base 2 "_kept" spKeptI) (T : ExT K C) (nf : ∀ f ∈ (["order"] : List Str), PySem.W.findIn K (.ref C) f = some none) : FnOk P w K mg base CX0 3 f fd ["self", "order"] (spInit C ["order"]) := by
  obtain ⟨D, fD, fdD, psD, mc, rd, fc, FD, kpD, bD, gD⟩ := D.ex
  refine F.ok sc_BadOrder (fun vs H Q E h => ?_) (fun cdv A outer s H vs Q E hr h => ?_)
  · obtain ⟨a, is, rfl, hl, _⟩ := h
    rw [List.length_cons, List.length_map, hl]
    rfl
  · obtain ⟨a, is, rfl, hl, ha, k⟩ := h
    obtain ⟨i, rfl⟩ := len1 hl
    refine ⟨_, pss_cons (ps_expr (pe_clsfn rd fc FD hr (by decide) kpD bD (by rfl) gD (pa_cons (pv 0) (pa_cons pe_str pa_nil)))) (pss_one (ps_ost (pv 0) (pe_c cK hr (by decide) rfl (pa_cons (pv 1) pa_nil)))), ?_⟩
    refine ⟨_, rfl, a, C, _, rfl, T.o, ha, ?_⟩
    refine ⟨_, rfl, _, rfl, fun H1 s1 => ⟨_, rfl, a, C, rfl, T.o, nf _ (by simp), .inl ⟨s1 _ _ ha, fun dx nd ne => ?_⟩⟩⟩
    exact k _ (fun b o q hb => by rw [upd_ne hb, upd_ne (ne_of_none (s1 _ _ q) nd)]; exact s1 _ _ q) ⟨dx, upd_same, by rw [upd_ne ne, upd_same]; rfl⟩
theorem sc_Apart : FnScope ["self", "what"] ["self", "what"] (defScope (inClass (topS 25) 0)) := ⟨rfl, rfl, rfl, by decide +kernel, rfl, by decide +kernel, by decide +kernel⟩
theorem ok_Apart {f C : Addr} {fd : FuncData} (F : Fun K "__init__" "Apart.__init__" (inClass (topS 25) 0) f fd) (D : DEf P w K mg base) (cK : Cal P w K mg base 2 "_kept" spKeptI) (T : ExT K C) (nf : ∀ f ∈ (["what"] : List Str), PySem.W.findIn K (.ref C) f = some none) : FnOk P w K mg base CX0 3 f fd ["self", "what"] (spInit C ["what"]) := by
  obtain ⟨D, fD, fdD, psD, mc, rd, fc, FD, kpD, bD, gD⟩ := D.ex
  refine F.ok sc_Apart (fun vs H Q E h => ?_) (fun cdv A outer s H vs Q E hr h => ?_)
  · obtain ⟨a, is, rfl, hl, _⟩ := h
    rw [List.length_cons, List.length_map, hl]
    rfl
  · obtain ⟨a, is, rfl, hl, ha, k⟩ := h
    obtain ⟨i, rfl⟩ := len1 hl
    refine ⟨_, pss_cons (ps_expr (pe_clsfn rd fc FD hr (by decide) kpD bD (by rfl) gD (pa_cons (pv 0) (pa_cons pe_str pa_nil)))) (pss_one (ps_ost (pv 0) (pv 1))), ?_⟩
    refine ⟨_, rfl, a, C, _, rfl, T.o, ha, ?_⟩
    refine ⟨_, rfl, _, rfl, a, C, rfl, T.o, nf _ (by simp), .inl ⟨ha, fun dx nd ne => ?_⟩⟩
    exact k _ (fun b o q hb => by rw [upd_ne hb, upd_ne (ne_of_none q nd)]; exact q) ⟨dx, upd_same, by rw [upd_ne ne, upd_same]; rfl⟩
theorem sc_BadFactor : FnScope ["self", "factor"] ["self", "factor"] (defScope (inClass (topS 26) 0)) := ⟨rfl, rfl, rfl, by decide +kernel, rfl, by decide +kernel, by decide +kernel⟩
theorem ok_BadFactor {f C : Addr} {fd : FuncData} (F : Fun K "__init__" "BadFactor.__init__" (inClass (topS 26) 0) f fd) (D : DEf P w K mg base) (cK : Cal P w K mg base 2 "_kept" spKeptI) (T : ExT K C) (nf : ∀ f ∈ (["factor"] : List Str), PySem.W.findIn K (.ref C) f = some none) : FnOk P w K mg base CX0 3 f fd ["self", "factor"] (spInit C ["factor"]) := by
  obtain ⟨D, fD, fdD, psD, mc, rd, fc, FD, kpD, bD, gD⟩ := D.ex
  refine F.ok sc_BadFactor (fun vs H Q E h => ?_) (fun cdv A outer s H vs Q E hr h => ?_)
  · obtain ⟨a, is, rfl, hl, _⟩ := h
    rw [List.length_cons, List.length_map, hl]
    rfl
  · obtain ⟨a, is, rfl, hl, ha, k⟩ := h
    obtain ⟨i, rfl⟩ := len1 hl
    refine ⟨_, pss_cons (ps_expr (pe_clsfn rd fc FD hr (by decide) kpD bD (by rfl) gD (pa_cons (pv 0) (pa_cons pe_str pa_nil)))) (pss_one (ps_ost (pv 0) (pe_c cK hr (by decide) rfl (pa_cons (pv 1) pa_nil)))), ?_⟩
    refine ⟨_, rfl, a, C, _, rfl, T.o, ha, ?_⟩
    refine ⟨_, rfl, _, rfl, fun H1 s1 => ⟨_, rfl, a, C, rfl, T.o, nf _ (by simp), .inl ⟨s1 _ _ ha, fun dx nd ne => ?_⟩⟩⟩
    exact k _ (fun b o q hb => by rw [upd_ne hb, upd_ne (ne_of_none (s1 _ _ q) nd)]; exact s1 _ _ q) ⟨dx, upd_same, by rw [upd_ne ne, upd_same]; rfl⟩
theorem sc_BadNamed : FnScope ["self", "value"] ["self", "value"] (defScope (inClass (topS 27) 0)) := ⟨rfl, rfl, rfl, by decide +kernel, rfl, by decide +kernel, by decide +kernel⟩
theorem ok_BadNamed {f C : Addr} {fd : FuncData} (F : Fun K "__init__" "BadNamed.__init__" (inClass (topS 27) 0) f fd) (D : DEf P w K mg base) (cK : Cal P w K mg base 2 "_kept" spKeptI) (T : ExT K C) (nf : ∀ f ∈ (["value"] : List Str), PySem.W.findIn K (.ref C) f = some none) : FnOk P w K mg base CX0 3 f fd ["self", "value"] (spInit C ["value"]) := by
  obtain ⟨D, fD, fdD, psD, mc, rd, fc, FD, kpD, bD, gD⟩ := D.ex
  refine F.ok sc_BadNamed (fun vs H Q E h => ?_) (fun cdv A outer s H vs Q E hr h => ?_)
  · obtain ⟨a, is, rfl, hl, _⟩ := h
    rw [List.length_cons, List.length_map, hl]
    rfl
  · obtain ⟨a, is, rfl, hl, ha, k⟩ := h
    obtain ⟨i, rfl⟩ := len1 hl
    refine ⟨_, pss_cons (ps_expr (pe_clsfn rd fc FD hr (by decide) kpD bD (by rfl) gD (pa_cons (pv 0) (pa_cons pe_str pa_nil)))) (pss_one (ps_ost (pv 0) (pe_c cK hr (by decide) rfl (pa_cons (pv 1) pa_nil)))), ?_⟩
    refine ⟨_, rfl, a, C, _, rfl, T.o, ha, ?_⟩
    refine ⟨_, rfl, _, rfl, fun H1 s1 => ⟨_, rfl, a, C, rfl, T.o, nf _ (by simp), .inl ⟨s1 _ _ ha, fun dx nd ne => ?_⟩⟩⟩
    exact k _ (fun b o q hb => by rw [upd_ne hb, upd_ne (ne_of_none (s1 _ _ q) nd)]; exact s1 _ _ q) ⟨dx, upd_same, by rw [upd_ne ne, upd_same]; rfl⟩
theorem sc_BadDemands : FnScope ["self", "index", "what"] ["self", "index", "what"] (defScope (inClass (topS 28) 0)) := ⟨rfl, rfl, rfl, by decide +kernel, rfl, by decide +kernel, by decide +kernel⟩
theorem ok_BadDemands {f C : Addr} {fd : FuncData} (F : Fun K "__init__" "BadDemands.__init__" (inClass (topS 28) 0) f fd) (D : DEf P w K mg base) (cK : Cal P w K mg base 2 "_kept" spKeptI) (T : ExT K C) (nf : ∀ f ∈ (["index", "what"] : List Str), PySem.W.findIn K (.ref C) f = some none) : FnOk P w K mg base CX0 3 f fd ["self", "index", "what"] (spInit C ["index", "what"]) := by
  obtain ⟨D, fD, fdD, psD, mc, rd, fc, FD, kpD, bD, gD⟩ := D.ex
  refine F.ok sc_BadDemands (fun vs H Q E h => ?_) (fun cdv A outer s H vs Q E hr h => ?_)
  · obtain ⟨a, is, rfl, hl, _⟩ := h
    rw [List.length_cons, List.length_map, hl]
    rfl
  · obtain ⟨a, is, rfl, hl, ha, k⟩ := h
    obtain ⟨i, j, rfl⟩ := len2 hl
    refine ⟨_, pss_cons (ps_expr (pe_clsfn rd fc FD hr (by decide) kpD bD (by rfl) gD (pa_cons (pv 0) (pa_cons pe_str pa_nil)))) (pss_cons (ps_ost (pv 0) (pv 1)) (pss_one (ps_ost (pv 0) (pv 2)))), ?_⟩
    refine ⟨_, rfl, a, C, _, rfl, T.o, ha, ?_⟩
    refine ⟨_, rfl, _, rfl, a, C, rfl, T.o, nf _ (by simp), .inl ⟨ha, fun dx nd ne => ?_⟩⟩
    refine ⟨_, rfl, _, rfl, a, C, rfl, T.o, nf _ (by simp), .inr ⟨dx, _, upd_same, by rw [upd_ne ne, upd_same], (by show 1 ≤ 900; decide), ?_⟩⟩
    exact k _ (fun b o q hb => by rw [upd_ne (ne_of_none q nd), upd_ne hb, upd_ne (ne_of_none q nd)]; exact q) ⟨dx, by rw [upd_ne (Ne.symm ne)]; exact upd_same, upd_same⟩
theorem sc_NotHeld : FnScope ["self", "kind", "hand"] ["self", "kind", "hand"] (defScope (inClass (topS 29) 0)) := ⟨rfl, rfl, rfl, by decide +kernel, rfl, by decide +kernel, by decide +kernel⟩
theorem ok_NotHeld {f C : Addr} {fd : FuncData} (F : Fun K "__init__" "NotHeld.__init__" (inClass (topS 29) 0) f fd) (D : DEf P w K mg base) (cK : Cal P w K mg base 2 "_kept" spKeptI) (T : ExT K C) (nf : ∀ f ∈ (["kind", "hand"] : List Str), PySem.W.findIn K (.ref C) f = some none) : FnOk P w K mg base CX0 3 f fd ["self", "kind", "hand"] (spInit C ["kind", "hand"]) := by
  obtain ⟨D, fD, fdD, psD, mc, rd, fc, FD, kpD, bD, gD⟩ := D.ex
  refine F.ok sc_NotHeld (fun vs H Q E h => ?_) (fun cdv A outer s H vs Q E hr h => ?_)
  · obtain ⟨a, is, rfl, hl, _⟩ := h
    rw [List.length_cons, List.length_map, hl]
    rfl
  · obtain ⟨a, is, rfl, hl, ha, k⟩ := h
    obtain ⟨i, j, rfl⟩ := len2 hl
    refine ⟨_, pss_cons (ps_expr (pe_clsfn rd fc FD hr (by decide) kpD bD (by rfl) gD (pa_cons (pv 0) (pa_cons pe_str pa_nil)))) (pss_cons (ps_ost (pv 0) (pe_c cK hr (by decide) rfl (pa_cons (pv 1) pa_nil))) (pss_one (ps_ost (pv 0) (pe_c cK hr (by decide) rfl (pa_cons (pv 2) pa_nil))))), ?_⟩
    refine ⟨_, rfl, a, C, _, rfl, T.o, ha, ?_⟩
    refine ⟨_, rfl, _, rfl, fun H1 s1 => ⟨_, rfl, a, C, rfl, T.o, nf _ (by simp), .inl ⟨s1 _ _ ha, fun dx nd ne => ?_⟩⟩⟩
    refine ⟨_, rfl, _, rfl, fun H2 s2 => ⟨_, rfl, a, C, rfl, T.o, nf _ (by simp), .inr ⟨dx, _, s2 _ _ upd_same, s2 _ _ (by rw [upd_ne ne, upd_same]), (by show 1 ≤ 900; decide), ?_⟩⟩⟩
    exact k _ (fun b o q hb => by rw [upd_ne (ne_of_none (s1 _ _ q) nd)]; exact s2 _ _ (by rw [upd_ne hb, upd_ne (ne_of_none (s1 _ _ q) nd)]; exact s1 _ _ q)) ⟨dx, by rw [upd_ne (Ne.symm ne)]; exact s2 _ _ upd_same, upd_same⟩
theorem sc_BadCopy : FnScope ["self", "what"] ["self", "what"] (defScope (inClass (topS 30) 0)) := ⟨rfl, rfl, rfl, by decide +kernel, rfl, by decide +kernel, by decide +kernel⟩
theorem ok_BadCopy {f C : Addr} {fd : FuncData} (F : Fun K "__init__" "BadCopy.__init__" (inClass (topS 30) 0) f fd) (D : DEf P w K mg base) (cK : Cal P w K mg base 2 "_kept" spKeptI) (T : ExT K C) (nf : ∀ f ∈ (["what"] : List Str), PySem.W.findIn K (.ref C) f = some none) : FnOk P w K mg base CX0 3 f fd ["self", "what"] (spInit C ["what"]) := by
  obtain ⟨D, fD, fdD, psD, mc, rd, fc, FD, kpD, bD, gD⟩ := D.ex
  refine F.ok sc_BadCopy (fun vs H Q E h => ?_) (fun cdv A outer s H vs Q E hr h => ?_)
  · obtain ⟨a, is, rfl, hl, _⟩ := h
    rw [List.length_cons, List.length_map, hl]
    rfl
  · obtain ⟨a, is, rfl, hl, ha, k⟩ := h
    obtain ⟨i, rfl⟩ := len1 hl
    refine ⟨_, pss_cons (ps_expr (pe_clsfn rd fc FD hr (by decide) kpD bD (by rfl) gD (pa_cons (pv 0) (pa_cons pe_str pa_nil)))) (pss_one (ps_ost (pv 0) (pv 1))), ?_⟩
    refine ⟨_, rfl, a, C, _, rfl, T.o, ha, ?_⟩
    refine ⟨_, rfl, _, rfl, a, C, rfl, T.o, nf _ (by simp), .inl ⟨ha, fun dx nd ne => ?_⟩⟩
    exact k _ (fun b o q hb => by rw [upd_ne hb, upd_ne (ne_of_none q nd)]; exact q) ⟨dx, upd_same, by rw [upd_ne ne, upd_same]; rfl⟩
theorem sc_NotRight : FnScope ["self", "demand"] ["self", "demand"] (defScope (inClass (topS 31) 0)) := ⟨rfl, rfl, rfl, by decide +kernel, rfl, by decide +kernel, by decide +kernel⟩
theorem ok_NotRight {f C : Addr} {fd : FuncData} (F : Fun K "__init__" "NotRight.__init__" (inClass (topS 31) 0) f fd) (D : DEf P w K mg base) (cK : Cal P w K mg base 2 "_kept" spKeptI) (T : ExT K C) (nf : ∀ f ∈ (["demand"] : List Str), PySem.W.findIn K (.ref C) f = some none) : FnOk P w K mg base CX0 3 f fd ["self", "demand"] (spInit C ["demand"]) := by
  obtain ⟨D, fD, fdD, psD, mc, rd, fc, FD, kpD, bD, gD⟩ := D.ex
  refine F.ok sc_NotRight (fun vs H Q E h => ?_) (fun cdv A outer s H vs Q E hr h => ?_)
  · obtain ⟨a, is, rfl, hl, _⟩ := h
    rw [List.length_cons, List.length_map, hl]
    rfl
  · obtain ⟨a, is, rfl, hl, ha, k⟩ := h
    obtain ⟨i, rfl⟩ := len1 hl
    refine ⟨_, pss_cons (ps_expr (pe_clsfn rd fc FD hr (by decide) kpD bD (by rfl) gD (pa_cons (pv 0) (pa_cons pe_str pa_nil)))) (pss_one (ps_ost (pv 0) (pe_c cK hr (by decide) rfl (pa_cons (pv 1) pa_nil)))), ?_⟩
    refine ⟨_, rfl, a, C, _, rfl, T.o, ha, ?_⟩
    refine ⟨_, rfl, _, rfl, fun H1 s1 => ⟨_, rfl, a, C, rfl, T.o, nf _ (by simp), .inl ⟨s1 _ _ ha, fun dx nd ne => ?_⟩⟩⟩
    exact k _ (fun b o q hb => by rw [upd_ne hb, upd_ne (ne_of_none (s1 _ _ q) nd)]; exact s1 _ _ q) ⟨dx, upd_same, by rw [upd_ne ne, upd_same]; rfl⟩
theorem sc_BadRoom : FnScope ["self", "room"] ["self", "room"] (defScope (inClass (topS 32) 0)) := ⟨rfl, rfl, rfl, by decide +kernel, rfl, by decide +kernel, by decide +kernel⟩
theorem ok_BadRoom {f C : Addr} {fd : FuncData} (F : Fun K "__init__" "BadRoom.__init__" (inClass (topS 32) 0) f fd) (D : DEf P w K mg base) (cK : Cal P w K mg base 2 "_kept" spKeptI) (T : ExT K C) (nf : ∀ f ∈ (["room"] : List Str), PySem.W.findIn K (.ref C) f = some none) : FnOk P w K mg base CX0 3 f fd ["self", "room"] (spInit C ["room"]) := by
  obtain ⟨D, fD, fdD, psD, mc, rd, fc, FD, kpD, bD, gD⟩ := D.ex
  refine F.ok sc_BadRoom (fun vs H Q E h => ?_) (fun cdv A outer s H vs Q E hr h => ?_)
  · obtain ⟨a, is, rfl, hl, _⟩ := h
    rw [List.length_cons, List.length_map, hl]
    rfl
  · obtain ⟨a, is, rfl, hl, ha, k⟩ := h
    obtain ⟨i, rfl⟩ := len1 hl
    refine ⟨_, pss_cons (ps_expr (pe_clsfn rd fc FD hr (by decide) kpD bD (by rfl) gD (pa_cons (pv 0) (pa_cons pe_str pa_nil)))) (pss_one (ps_ost (pv 0) (pe_c cK hr (by decide) rfl (pa_cons (pv 1) pa_nil)))), ?_⟩
    refine ⟨_, rfl, a, C, _, rfl, T.o, ha, ?_⟩
    refine ⟨_, rfl, _, rfl, fun H1 s1 => ⟨_, rfl, a, C, rfl, T.o, nf _ (by simp), .inl ⟨s1 _ _ ha, fun dx nd ne => ?_⟩⟩⟩
    exact k _ (fun b o q hb => by rw [upd_ne hb, upd_ne (ne_of_none (s1 _ _ q) nd)]; exact s1 _ _ q) ⟨dx, upd_same, by rw [upd_ne ne, upd_same]; rfl⟩
theorem sc_BadPlan : FnScope ["self", "index", "what"] ["self", "index", "what"] (defScope (inClass (topS 33) 0)) := ⟨rfl, rfl, rfl, by decide +kernel, rfl, by decide +kernel, by decide +kernel⟩
theorem ok_BadPlan {f C : Addr} {fd : FuncData} (F : Fun K "__init__" "BadPlan.__init__" (inClass (topS 33) 0) f fd) (D : DEf P w K mg base) (cK : Cal P w K mg base 2 "_kept" spKeptI) (T : ExT K C) (nf : ∀ f ∈ (["index", "what"] : List Str), PySem.W.findIn K (.ref C) f = some none) : FnOk P w K mg base CX0 3 f fd ["self", "index", "what"] (spInit C ["index", "what"]) := by
  obtain ⟨D, fD, fdD, psD, mc, rd, fc, FD, kpD, bD, gD⟩ := D.ex
  refine F.ok sc_BadPlan (fun vs H Q E h => ?_) (fun cdv A outer s H vs Q E hr h => ?_)
  · obtain ⟨a, is, rfl, hl, _⟩ := h
    rw [List.length_cons, List.length_map, hl]
    rfl
  · obtain ⟨a, is, rfl, hl, ha, k⟩ := h
    obtain ⟨i, j, rfl⟩ := len2 hl
    refine ⟨_, pss_cons (ps_expr (pe_clsfn rd fc FD hr (by decide) kpD bD (by rfl) gD (pa_cons (pv 0) (pa_cons pe_str pa_nil)))) (pss_cons (ps_ost (pv 0) (pv 1)) (pss_one (ps_ost (pv 0) (pv 2)))), ?_⟩
    refine ⟨_, rfl, a, C, _, rfl, T.o, ha, ?_⟩
    refine ⟨_, rfl, _, rfl, a, C, rfl, T.o, nf _ (by simp), .inl ⟨ha, fun dx nd ne => ?_⟩⟩
    refine ⟨_, rfl, _, rfl, a, C, rfl, T.o, nf _ (by simp), .inr ⟨dx, _, upd_same, by rw [upd_ne ne, upd_same], (by show 1 ≤ 900; decide), ?_⟩⟩
    exact k _ (fun b o q hb => by rw [upd_ne (ne_of_none q nd), upd_ne hb, upd_ne (ne_of_none q nd)]; exact q) ⟨dx, by rw [upd_ne (Ne.symm ne)]; exact upd_same, upd_same⟩
theorem sc_NoRound : FnScope ["self", "index"] ["self", "index"] (defScope (inClass (topS 34) 0)) := ⟨rfl, rfl, rfl, by decide +kernel, rfl, by decide +kernel, by decide +kernel⟩
theorem ok_NoRound {f C : Addr} {fd : FuncData} (F : Fun K "__init__" "NoRound.__init__" (inClass (topS 34) 0) f fd) (D : DEf P w K mg base) (cK : Cal P w K mg base 2 "_kept" spKeptI) (T : ExT K C) (nf : ∀ f ∈ (["index"] : List Str), PySem.W.findIn K (.ref C) f = some none) : FnOk P w K mg base CX0 3 f fd ["self", "index"] (spInit C ["index"]) := by
  obtain ⟨D, fD, fdD, psD, mc, rd, fc, FD, kpD, bD, gD⟩ := D.ex
  refine F.ok sc_NoRound (fun vs H Q E h => ?_) (fun cdv A outer s H vs Q E hr h => ?_)
  · obtain ⟨a, is, rfl, hl, _⟩ := h
    rw [List.length_cons, List.length_map, hl]
    rfl
  · obtain ⟨a, is, rfl, hl, ha, k⟩ := h
    obtain ⟨i, rfl⟩ := len1 hl
    refine ⟨_, pss_cons (ps_expr (pe_clsfn rd fc FD hr (by decide) kpD bD (by rfl) gD (pa_cons (pv 0) (pa_cons pe_str pa_nil)))) (pss_one (ps_ost (pv 0) (pe_c cK hr (by decide) rfl (pa_cons (pv 1) pa_nil)))), ?_⟩
    refine ⟨_, rfl, a, C, _, rfl, T.o, ha, ?_⟩
    refine ⟨_, rfl, _, rfl, fun H1 s1 => ⟨_, rfl, a, C, rfl, T.o, nf _ (by simp), .inl ⟨s1 _ _ ha, fun dx nd ne => ?_⟩⟩⟩
    exact k _ (fun b o q hb => by rw [upd_ne hb, upd_ne (ne_of_none (s1 _ _ q) nd)]; exact s1 _ _ q) ⟨dx, upd_same, by rw [upd_ne ne, upd_same]; rfl⟩
theorem sc_NoPlainAnswer : FnScope ["self", "plan"] ["self", "plan"] (defScope (inClass (topS 35) 0)) := ⟨rfl, rfl, rfl, by decide +kernel, rfl, by decide +kernel, by decide +kernel⟩
theorem ok_NoPlainAnswer {f C : Addr} {fd : FuncData} (F : Fun K "__init__" "NoPlainAnswer.__init__" (inClass (topS 35) 0) f fd) (D : DEf P w K mg base) (cK : Cal P w K mg base 2 "_kept" spKeptI) (T : ExT K C) (nf : ∀ f ∈ (["plan"] : List Str), PySem.W.findIn K (.ref C) f = some none) : FnOk P w K mg base CX0 3 f fd ["self", "plan"] (spInit C ["plan"]) := by
  obtain ⟨D, fD, fdD, psD, mc, rd, fc, FD, kpD, bD, gD⟩ := D.ex
  refine F.ok sc_NoPlainAnswer (fun vs H Q E h => ?_) (fun cdv A outer s H vs Q E hr h => ?_)
  · obtain ⟨a, is, rfl, hl, _⟩ := h
    rw [List.length_cons, List.length_map, hl]
    rfl
  · obtain ⟨a, is, rfl, hl, ha, k⟩ := h
    obtain ⟨i, rfl⟩ := len1 hl
    refine ⟨_, pss_cons (ps_expr (pe_clsfn rd fc FD hr (by decide) kpD bD (by rfl) gD (pa_cons (pv 0) (pa_cons pe_str pa_nil)))) (pss_one (ps_ost (pv 0) (pe_c cK hr (by decide) rfl (pa_cons (pv 1) pa_nil)))), ?_⟩
    refine ⟨_, rfl, a, C, _, rfl, T.o, ha, ?_⟩
    refine ⟨_, rfl, _, rfl, fun H1 s1 => ⟨_, rfl, a, C, rfl, T.o, nf _ (by simp), .inl ⟨s1 _ _ ha, fun dx nd ne => ?_⟩⟩⟩
    exact k _ (fun b o q hb => by rw [upd_ne hb, upd_ne (ne_of_none (s1 _ _ q) nd)]; exact s1 _ _ q) ⟨dx, upd_same, by rw [upd_ne ne, upd_same]; rfl⟩
theorem sc_BadUnions : FnScope ["self", "unions"] ["self", "unions"] (defScope (inClass (topS 36) 0)) := ⟨rfl, rfl, rfl, by decide +kernel, rfl, by decide +kernel, by decide +kernel⟩
theorem ok_BadUnions {f C : Addr} {fd : FuncData} (F : Fun K "__init__" "BadUnions.__init__" (inClass (topS 36) 0) f fd) (D : DEf P w K mg base) (cK : Cal P w K mg base 2 "_kept" spKeptI) (T : ExT K C) (nf : ∀ f ∈ (["unions"] : List Str), PySem.W.findIn K (.ref C) f = some none) : FnOk P w K mg base CX0 3 f fd ["self", "unions"] (spInit C ["unions"]) := by
  obtain ⟨D, fD, fdD, psD, mc, rd, fc, FD, kpD, bD, gD⟩ := D.ex
  refine F.ok sc_BadUnions (fun vs H Q E h => ?_) (fun cdv A outer s H vs Q E hr h => ?_)
  · obtain ⟨a, is, rfl, hl, _⟩ := h
    rw [List.length_cons, List.length_map, hl]
    rfl
  · obtain ⟨a, is, rfl, hl, ha, k⟩ := h
    obtain ⟨i, rfl⟩ := len1 hl
    refine ⟨_, pss_cons (ps_expr (pe_clsfn rd fc FD hr (by decide) kpD bD (by rfl) gD (pa_cons (pv 0) (pa_cons pe_str pa_nil)))) (pss_one (ps_ost (pv 0) (pe_c cK hr (by decide) rfl (pa_cons (pv 1) pa_nil)))), ?_⟩
    refine ⟨_, rfl, a, C, _, rfl, T.o, ha, ?_⟩
    refine ⟨_, rfl, _, rfl, fun H1 s1 => ⟨_, rfl, a, C, rfl, T.o, nf _ (by simp), .inl ⟨s1 _ _ ha, fun dx nd ne => ?_⟩⟩⟩
    exact k _ (fun b o q hb => by rw [upd_ne hb, upd_ne (ne_of_none (s1 _ _ q) nd)]; exact s1 _ _ q) ⟨dx, upd_same, by rw [upd_ne ne, upd_same]; rfl⟩
theorem sc_EmptyRows : FnScope ["self", "rows"] ["self", "rows"] (defScope (inClass (topS 37) 0)) := ⟨rfl, rfl, rfl, by decide +kernel, rfl, by decide +kernel, by decide +kernel⟩
theorem ok_EmptyRows {f C : Addr} {fd : FuncData} (F : Fun K "__init__" "EmptyRows.__init__" (inClass (topS 37) 0) f fd) (D : DEf P w K mg base) (cK : Cal P w K mg base 2 "_kept" spKeptI) (T : ExT K C) (nf : ∀ f ∈ (["rows"] : List Str), PySem.W.findIn K (.ref C) f = some none) : FnOk P w K mg base CX0 3 f fd ["self", "rows"] (spInit C ["rows"]) := by
  obtain ⟨D, fD, fdD, psD, mc, rd, fc, FD, kpD, bD, gD⟩ := D.ex
  refine F.ok sc_EmptyRows (fun vs H Q E h => ?_) (fun cdv A outer s H vs Q E hr h => ?_)
  · obtain ⟨a, is, rfl, hl, _⟩ := h
    rw [List.length_cons, List.length_map, hl]
    rfl
  · obtain ⟨a, is, rfl, hl, ha, k⟩ := h
    obtain ⟨i, rfl⟩ := len1 hl
    refine ⟨_, pss_cons (ps_expr (pe_clsfn rd fc FD hr (by decide) kpD bD (by rfl) gD (pa_cons (pv 0) (pa_cons pe_str pa_nil)))) (pss_one (ps_ost (pv 0) (pe_c cK hr (by decide) rfl (pa_cons (pv 1) pa_nil)))), ?_⟩
    refine ⟨_, rfl, a, C, _, rfl, T.o, ha, ?_⟩
    refine ⟨_, rfl, _, rfl, fun H1 s1 => ⟨_, rfl, a, C, rfl, T.o, nf _ (by simp), .inl ⟨s1 _ _ ha, fun dx nd ne => ?_⟩⟩⟩
    exact k _ (fun b o q hb => by rw [upd_ne hb, upd_ne (ne_of_none (s1 _ _ q) nd)]; exact s1 _ _ q) ⟨dx, upd_same, by rw [upd_ne ne, upd_same]; rfl⟩
theorem sc_BadShares : FnScope ["self", "index", "what"] ["self", "index", "what"] (defScope (inClass (topS 38) 0)) := ⟨rfl, rfl, rfl, by decide +kernel, rfl, by decide +kernel, by decide +kernel⟩
theorem ok_BadShares {f C : Addr} {fd : FuncData} (F : Fun K "__init__" "BadShares.__init__" (inClass (topS 38) 0) f fd) (D : DEf P w K mg base) (cK : Cal P w K mg base 2 "_kept" spKeptI) (T : ExT K C) (nf : ∀ f ∈ (["index", "what"] : List Str), PySem.W.findIn K (.ref C) f = some none) : FnOk P w K mg base CX0 3 f fd ["self", "index", "what"] (spInit C ["index", "what"]) := by
  obtain ⟨D, fD, fdD, psD, mc, rd, fc, FD, kpD, bD, gD⟩ := D.ex
  refine F.ok sc_BadShares (fun vs H Q E h => ?_) (fun cdv A outer s H vs Q E hr h => ?_)
  · obtain ⟨a, is, rfl, hl, _⟩ := h
    rw [List.length_cons, List.length_map, hl]
    rfl
  · obtain ⟨a, is, rfl, hl, ha, k⟩ := h
    obtain ⟨i, j, rfl⟩ := len2 hl
    refine ⟨_, pss_cons (ps_expr (pe_clsfn rd fc FD hr (by decide) kpD bD (by rfl) gD (pa_cons (pv 0) (pa_cons pe_str pa_nil)))) (pss_cons (ps_ost (pv 0) (pv 1)) (pss_one (ps_ost (pv 0) (pv 2)))), ?_⟩
    refine ⟨_, rfl, a, C, _, rfl, T.o, ha, ?_⟩
    refine ⟨_, rfl, _, rfl, a, C, rfl, T.o, nf _ (by simp), .inl ⟨ha, fun dx nd ne => ?_⟩⟩
    refine ⟨_, rfl, _, rfl, a, C, rfl, T.o, nf _ (by simp), .inr ⟨dx, _, upd_same, by rw [upd_ne ne, upd_same], (by show 1 ≤ 900; decide), ?_⟩⟩
    exact k _ (fun b o q hb => by rw [upd_ne (ne_of_none q nd), upd_ne hb, upd_ne (ne_of_none q nd)]; exact q) ⟨dx, by rw [upd_ne (Ne.symm ne)]; exact upd_same, upd_same⟩
theorem sc_BadMost : FnScope ["self", "most"] ["self", "most"] (defScope (inClass (topS 39) 0)) := ⟨rfl, rfl, rfl, by decide +kernel, rfl, by decide +kernel, by decide +kernel⟩
theorem ok_BadMost {f C : Addr} {fd : FuncData} (F : Fun K "__init__" "BadMost.__init__" (inClass (topS 39) 0) f fd) (D : DEf P w K mg base) (cK : Cal P w K mg base 2 "_kept" spKeptI) (T : ExT K C) (nf : ∀ f ∈ (["most"] : List Str), PySem.W.findIn K (.ref C) f = some none) : FnOk P w K mg base CX0 3 f fd ["self", "most"] (spInit C ["most"]) := by
  obtain ⟨D, fD, fdD, psD, mc, rd, fc, FD, kpD, bD, gD⟩ := D.ex
  refine F.ok sc_BadMost (fun vs H Q E h => ?_) (fun cdv A outer s H vs Q E hr h => ?_)
  · obtain ⟨a, is, rfl, hl, _⟩ := h
    rw [List.length_cons, List.length_map, hl]
    rfl
  · obtain ⟨a, is, rfl, hl, ha, k⟩ := h
    obtain ⟨i, rfl⟩ := len1 hl
    refine ⟨_, pss_cons (ps_expr (pe_clsfn rd fc FD hr (by decide) kpD bD (by rfl) gD (pa_cons (pv 0) (pa_cons pe_str pa_nil)))) (pss_one (ps_ost (pv 0) (pe_c cK hr (by decide) rfl (pa_cons (pv 1) pa_nil)))), ?_⟩
    refine ⟨_, rfl, a, C, _, rfl, T.o, ha, ?_⟩
    refine ⟨_, rfl, _, rfl, fun H1 s1 => ⟨_, rfl, a, C, rfl, T.o, nf _ (by simp), .inl ⟨s1 _ _ ha, fun dx nd ne => ?_⟩⟩⟩
    exact k _ (fun b o q hb => by rw [upd_ne hb, upd_ne (ne_of_none (s1 _ _ q) nd)]; exact s1 _ _ q) ⟨dx, upd_same, by rw [upd_ne ne, upd_same]; rfl⟩
theorem sc_BadStep : FnScope ["self", "index"] ["self", "index"] (defScope (inClass (topS 40) 0)) := ⟨rfl, rfl, rfl, by decide +kernel, rfl, by decide +kernel, by decide +kernel⟩
theorem ok_BadStep {f C : Addr} {fd : FuncData} (F : Fun K "__init__" "BadStep.__init__" (inClass (topS 40) 0) f fd) (D : DEf P w K mg base) (cK : Cal P w K mg base 2 "_kept" spKeptI) (T : ExT K C) (nf : ∀ f ∈ (["index"] : List Str), PySem.W.findIn K (.ref C) f = some none) : FnOk P w K mg base CX0 3 f fd ["self", "index"] (spInit C ["index"]) := by
  obtain ⟨D, fD, fdD, psD, mc, rd, fc, FD, kpD, bD, gD⟩ := D.ex
  refine F.ok sc_BadStep (fun vs H Q E h => ?_) (fun cdv A outer s H vs Q E hr h => ?_)
  · obtain ⟨a, is, rfl, hl, _⟩ := h
    rw [List.length_cons, List.length_map, hl]
    rfl
  · obtain ⟨a, is, rfl, hl, ha, k⟩ := h
    obtain ⟨i, rfl⟩ := len1 hl
    refine ⟨_, pss_cons (ps_expr (pe_clsfn rd fc FD hr (by decide) kpD bD (by rfl) gD (pa_cons (pv 0) (pa_cons pe_str pa_nil)))) (pss_one (ps_ost (pv 0) (pv 1))), ?_⟩
    refine ⟨_, rfl, a, C, _, rfl, T.o, ha, ?_⟩
    refine ⟨_, rfl, _, rfl, a, C, rfl, T.o, nf _ (by simp), .inl ⟨ha, fun dx nd ne => ?_⟩⟩
    exact k _ (fun b o q hb => by rw [upd_ne hb, upd_ne (ne_of_none q nd)]; exact q) ⟨dx, upd_same, by rw [upd_ne ne, upd_same]; rfl⟩
theorem sc_BadCopies : FnScope ["self", "index"] ["self", "index"] (defScope (inClass (topS 41) 0)) := ⟨rfl, rfl, rfl, by decide +kernel, rfl, by decide +kernel, by decide +kernel⟩
theorem ok_BadCopies {f C : Addr} {fd : FuncData} (F : Fun K "__init__" "BadCopies.__init__" (inClass (topS 41) 0) f fd) (D : DEf P w K mg base) (cK : Cal P w K mg base 2 "_kept" spKeptI) (T : ExT K C) (nf : ∀ f ∈ (["index"] : List Str), PySem.W.findIn K (.ref C) f = some none) : FnOk P w K mg base CX0 3 f fd ["self", "index"] (spInit C ["index"]) := by
  obtain ⟨D, fD, fdD, psD, mc, rd, fc, FD, kpD, bD, gD⟩ := D.ex
  refine F.ok sc_BadCopies (fun vs H Q E h => ?_) (fun cdv A outer s H vs Q E hr h => ?_)
  · obtain ⟨a, is, rfl, hl, _⟩ := h
    rw [List.length_cons, List.length_map, hl]
    rfl
  · obtain ⟨a, is, rfl, hl, ha, k⟩ := h
    obtain ⟨i, rfl⟩ := len1 hl
    refine ⟨_, pss_cons (ps_expr (pe_clsfn rd fc FD hr (by decide) kpD bD (by rfl) gD (pa_cons (pv 0) (pa_cons pe_str pa_nil)))) (pss_one (ps_ost (pv 0) (pv 1))), ?_⟩
    refine ⟨_, rfl, a, C, _, rfl, T.o, ha, ?_⟩
    refine ⟨_, rfl, _, rfl, a, C, rfl, T.o, nf _ (by simp), .inl ⟨ha, fun dx nd ne => ?_⟩⟩
    exact k _ (fun b o q hb => by rw [upd_ne hb, upd_ne (ne_of_none q nd)]; exact q) ⟨dx, upd_same, by rw [upd_ne ne, upd_same]; rfl⟩
theorem sc_BadHands : FnScope ["self", "hands"] ["self", "hands"] (defScope (inClass (topS 42) 0)) := ⟨rfl, rfl, rfl, by decide +kernel, rfl, by decide +kernel, by decide +kernel⟩
theorem ok_BadHands {f C : Addr} {fd : FuncData} (F : Fun K "__init__" "BadHands.__init__" (inClass (topS 42) 0) f fd) (D : DEf P w K mg base) (cK : Cal P w K mg base 2 "_kept" spKeptI) (T : ExT K C) (nf : ∀ f ∈ (["hands"] : List Str), PySem.W.findIn K (.ref C) f = some none) : FnOk P w K mg base CX0 3 f fd ["self", "hands"] (spInit C ["hands"]) := by
  obtain ⟨D, fD, fdD, psD, mc, rd, fc, FD, kpD, bD, gD⟩ := D.ex
  refine F.ok sc_BadHands (fun vs H Q E h => ?_) (fun cdv A outer s H vs Q E hr h => ?_)
  · obtain ⟨a, is, rfl, hl, _⟩ := h
    rw [List.length_cons, List.length_map, hl]
    rfl
  · obtain ⟨a, is, rfl, hl, ha, k⟩ := h
    obtain ⟨i, rfl⟩ := len1 hl
    refine ⟨_, pss_cons (ps_expr (pe_clsfn rd fc FD hr (by decide) kpD bD (by rfl) gD (pa_cons (pv 0) (pa_cons pe_str pa_nil)))) (pss_one (ps_ost (pv 0) (pe_c cK hr (by decide) rfl (pa_cons (pv 1) pa_nil)))), ?_⟩
    refine ⟨_, rfl, a, C, _, rfl, T.o, ha, ?_⟩
    refine ⟨_, rfl, _, rfl, fun H1 s1 => ⟨_, rfl, a, C, rfl, T.o, nf _ (by simp), .inl ⟨s1 _ _ ha, fun dx nd ne => ?_⟩⟩⟩
    exact k _ (fun b o q hb => by rw [upd_ne hb, upd_ne (ne_of_none (s1 _ _ q) nd)]; exact s1 _ _ q) ⟨dx, upd_same, by rw [upd_ne ne, upd_same]; rfl⟩
theorem sc_BadSeen : FnScope ["self", "index"] ["self", "index"] (defScope (inClass (topS 43) 0)) := ⟨rfl, rfl, rfl, by decide +kernel, rfl, by decide +kernel, by decide +kernel⟩
theorem ok_BadSeen {f C : Addr} {fd : FuncData} (F : Fun K "__init__" "BadSeen.__init__" (inClass (topS 43) 0) f fd) (D : DEf P w K mg base) (cK : Cal P w K mg base 2 "_kept" spKeptI) (T : ExT K C) (nf : ∀ f ∈ (["index"] : List Str), PySem.W.findIn K (.ref C) f = some none) : FnOk P w K mg base CX0 3 f fd ["self", "index"] (spInit C ["index"]) := by
  obtain ⟨D, fD, fdD, psD, mc, rd, fc, FD, kpD, bD, gD⟩ := D.ex
  refine F.ok sc_BadSeen (fun vs H Q E h => ?_) (fun cdv A outer s H vs Q E hr h => ?_)
  · obtain ⟨a, is, rfl, hl, _⟩ := h
    rw [List.length_cons, List.length_map, hl]
    rfl
  · obtain ⟨a, is, rfl, hl, ha, k⟩ := h
    obtain ⟨i, rfl⟩ := len1 hl
    refine ⟨_, pss_cons (ps_expr (pe_clsfn rd fc FD hr (by decide) kpD bD (by rfl) gD (pa_cons (pv 0) (pa_cons pe_str pa_nil)))) (pss_one (ps_ost (pv 0) (pv 1))), ?_⟩
    refine ⟨_, rfl, a, C, _, rfl, T.o, ha, ?_⟩
    refine ⟨_, rfl, _, rfl, a, C, rfl, T.o, nf _ (by simp), .inl ⟨ha, fun dx nd ne => ?_⟩⟩
    exact k _ (fun b o q hb => by rw [upd_ne hb, upd_ne (ne_of_none q nd)]; exact q) ⟨dx, upd_same, by rw [upd_ne ne, upd_same]; rfl⟩
theorem sc_Clash : FnScope ["self", "index"] ["self", "index"] (defScope (inClass (topS 44) 0)) := ⟨rfl, rfl, rfl, by decide +kernel, rfl, by decide +kernel, by decide +kernel⟩
theorem ok_Clash {f C : Addr} {fd : FuncData} (F : Fun K "__init__" "Clash.__init__" (inClass (topS 44) 0) f fd) (D : DEf P w K mg base) (cK : Cal P w K mg base 2 "_kept" spKeptI) (T : ExT K C) (nf : ∀ f ∈ (["index"] : List Str), PySem.W.findIn K (.ref C) f = some none) : FnOk P w K mg base CX0 3 f fd ["self", "index"] (spInit C ["index"]) := by
  obtain ⟨D, fD, fdD, psD, mc, rd, fc, FD, kpD, bD, gD⟩ := D.ex
  refine F.ok sc_Clash (fun vs H Q E h => ?_) (fun cdv A outer s H vs Q E hr h => ?_)
  · obtain ⟨a, is, rfl, hl, _⟩ := h
    rw [List.length_cons, List.length_map, hl]
    rfl
  · obtain ⟨a, is, rfl, hl, ha, k⟩ := h
    obtain ⟨i, rfl⟩ := len1 hl
    refine ⟨_, pss_cons (ps_expr (pe_clsfn rd fc FD hr (by decide) kpD bD (by rfl) gD (pa_cons (pv 0) (pa_cons pe_str pa_nil)))) (pss_one (ps_ost (pv 0) (pv 1))), ?_⟩
    refine ⟨_, rfl, a, C, _, rfl, T.o, ha, ?_⟩
    refine ⟨_, rfl, _, rfl, a, C, rfl, T.o, nf _ (by simp), .inl ⟨ha, fun dx nd ne => ?_⟩⟩
    exact k _ (fun b o q hb => by rw [upd_ne hb, upd_ne (ne_of_none q nd)]; exact q) ⟨dx, upd_same, by rw [upd_ne ne, upd_same]; rfl⟩
theorem sc_BadEdits : FnScope ["self", "index"] ["self", "index"] (defScope (inClass (topS 45) 0)) := ⟨rfl, rfl, rfl, by decide +kernel, rfl, by decide +kernel, by decide +kernel⟩
theorem ok_BadEdits {f C : Addr} {fd : FuncData} (F : Fun K "__init__" "BadEdits.__init__" (inClass (topS 45) 0) f fd) (D : DEf P w K mg base) (cK : Cal P w K mg base 2 "_kept" spKeptI) (T : ExT K C) (nf : ∀ f ∈ (["index"] : List Str), PySem.W.findIn K (.ref C) f = some none) : FnOk P w K mg base CX0 3 f fd ["self", "index"] (spInit C ["index"]) := by
  obtain ⟨D, fD, fdD, psD, mc, rd, fc, FD, kpD, bD, gD⟩ := D.ex
  refine F.ok sc_BadEdits (fun vs H Q E h => ?_) (fun cdv A outer s H vs Q E hr h => ?_)
  · obtain ⟨a, is, rfl, hl, _⟩ := h
    rw [List.length_cons, List.length_map, hl]
    rfl
  · obtain ⟨a, is, rfl, hl, ha, k⟩ := h
    obtain ⟨i, rfl⟩ := len1 hl
    refine ⟨_, pss_cons (ps_expr (pe_clsfn rd fc FD hr (by decide) kpD bD (by rfl) gD (pa_cons (pv 0) (pa_cons pe_str pa_nil)))) (pss_one (ps_ost (pv 0) (pv 1))), ?_⟩
    refine ⟨_, rfl, a, C, _, rfl, T.o, ha, ?_⟩
    refine ⟨_, rfl, _, rfl, a, C, rfl, T.o, nf _ (by simp), .inl ⟨ha, fun dx nd ne => ?_⟩⟩
    exact k _ (fun b o q hb => by rw [upd_ne hb, upd_ne (ne_of_none q nd)]; exact q) ⟨dx, upd_same, by rw [upd_ne ne, upd_same]; rfl⟩
theorem sc_BadGoal : FnScope ["self", "what"] ["self", "what"] (defScope (inClass (topS 46) 0)) := ⟨rfl, rfl, rfl, by decide +kernel, rfl, by decide +kernel, by decide +kernel⟩
theorem ok_BadGoal {f C : Addr} {fd : FuncData} (F : Fun K "__init__" "BadGoal.__init__" (inClass (topS 46) 0) f fd) (D : DEf P w K mg base) (cK : Cal P w K mg base 2 "_kept" spKeptI) (T : ExT K C) (nf : ∀ f ∈ (["what"] : List Str), PySem.W.findIn K (.ref C) f = some none) : FnOk P w K mg base CX0 3 f fd ["self", "what"] (spInit C ["what"]) := by
  obtain ⟨D, fD, fdD, psD, mc, rd, fc, FD, kpD, bD, gD⟩ := D.ex
  refine F.ok sc_BadGoal (fun vs H Q E h => ?_) (fun cdv A outer s H vs Q E hr h => ?_)
  · obtain ⟨a, is, rfl, hl, _⟩ := h
    rw [List.length_cons, List.length_map, hl]
    rfl
  · obtain ⟨a, is, rfl, hl, ha, k⟩ := h
    obtain ⟨i, rfl⟩ := len1 hl
    refine ⟨_, pss_cons (ps_expr (pe_clsfn rd fc FD hr (by decide) kpD bD (by rfl) gD (pa_cons (pv 0) (pa_cons pe_str pa_nil)))) (pss_one (ps_ost (pv 0) (pv 1))), ?_⟩
    refine ⟨_, rfl, a, C, _, rfl, T.o, ha, ?_⟩
    refine ⟨_, rfl, _, rfl, a, C, rfl, T.o, nf _ (by simp), .inl ⟨ha, fun dx nd ne => ?_⟩⟩
    exact k _ (fun b o q hb => by rw [upd_ne hb, upd_ne (ne_of_none q nd)]; exact q) ⟨dx, upd_same, by rw [upd_ne ne, upd_same]; rfl⟩
theorem sc_NoStep : FnScope ["self", "what"] ["self", "what"] (defScope (inClass (topS 47) 0)) := ⟨rfl, rfl, rfl, by decide +kernel, rfl, by decide +kernel, by decide +kernel⟩
theorem ok_NoStep {f C : Addr} {fd : FuncData} (F : Fun K "__init__" "NoStep.__init__" (inClass (topS 47) 0) f fd) (D : DEf P w K mg base) (cK : Cal P w K mg base 2 "_kept" spKeptI) (T : ExT K C) (nf : ∀ f ∈ (["what"] : List Str), PySem.W.findIn K (.ref C) f = some none) : FnOk P w K mg base CX0 3 f fd ["self", "what"] (spInit C ["what"]) := by
  obtain ⟨D, fD, fdD, psD, mc, rd, fc, FD, kpD, bD, gD⟩ := D.ex
  refine F.ok sc_NoStep (fun vs H Q E h => ?_) (fun cdv A outer s H vs Q E hr h => ?_)
  · obtain ⟨a, is, rfl, hl, _⟩ := h
    rw [List.length_cons, List.length_map, hl]
    rfl
  · obtain ⟨a, is, rfl, hl, ha, k⟩ := h
    obtain ⟨i, rfl⟩ := len1 hl
    refine ⟨_, pss_cons (ps_expr (pe_clsfn rd fc FD hr (by decide) kpD bD (by rfl) gD (pa_cons (pv 0) (pa_cons pe_str pa_nil)))) (pss_one (ps_ost (pv 0) (pv 1))), ?_⟩
    refine ⟨_, rfl, a, C, _, rfl, T.o, ha, ?_⟩
    refine ⟨_, rfl, _, rfl, a, C, rfl, T.o, nf _ (by simp), .inl ⟨ha, fun dx nd ne => ?_⟩⟩
    exact k _ (fun b o q hb => by rw [upd_ne hb, upd_ne (ne_of_none q nd)]; exact q) ⟨dx, upd_same, by rw [upd_ne ne, upd_same]; rfl⟩
theorem sc_Full : FnScope ["self", "most"] ["self", "most"] (defScope (inClass (topS 48) 0)) := ⟨rfl, rfl, rfl, by decide +kernel, rfl, by decide +kernel, by decide +kernel⟩
theorem ok_Full {f C : Addr} {fd : FuncData} (F : Fun K "__init__" "Full.__init__" (inClass (topS 48) 0) f fd) (D : DEf P w K mg base) (cK : Cal P w K mg base 2 "_kept" spKeptI) (T : ExT K C) (nf : ∀ f ∈ (["most"] : List Str), PySem.W.findIn K (.ref C) f = some none) : FnOk P w K mg base CX0 3 f fd ["self", "most"] (spInit C ["most"]) := by
  obtain ⟨D, fD, fdD, psD, mc, rd, fc, FD, kpD, bD, gD⟩ := D.ex
  refine F.ok sc_Full (fun vs H Q E h => ?_) (fun cdv A outer s H vs Q E hr h => ?_)
  · obtain ⟨a, is, rfl, hl, _⟩ := h
    rw [List.length_cons, List.length_map, hl]
    rfl
  · obtain ⟨a, is, rfl, hl, ha, k⟩ := h
    obtain ⟨i, rfl⟩ := len1 hl
    refine ⟨_, pss_cons (ps_expr (pe_clsfn rd fc FD hr (by decide) kpD bD (by rfl) gD (pa_cons (pv 0) (pa_cons pe_str pa_nil)))) (pss_one (ps_ost (pv 0) (pe_c cK hr (by decide) rfl (pa_cons (pv 1) pa_nil)))), ?_⟩
    refine ⟨_, rfl, a, C, _, rfl, T.o, ha, ?_⟩
    refine ⟨_, rfl, _, rfl, fun H1 s1 => ⟨_, rfl, a, C, rfl, T.o, nf _ (by simp), .inl ⟨s1 _ _ ha, fun dx nd ne => ?_⟩⟩⟩
    exact k _ (fun b o q hb => by rw [upd_ne hb, upd_ne (ne_of_none (s1 _ _ q) nd)]; exact s1 _ _ q) ⟨dx, upd_same, by rw [upd_ne ne, upd_same]; rfl⟩
theorem sc_NoRow : FnScope ["self", "row"] ["self", "row"] (defScope (inClass (topS 49) 0)) := ⟨rfl, rfl, rfl, by decide +kernel, rfl, by decide +kernel, by decide +kernel⟩
theorem ok_NoRow {f C : Addr} {fd : FuncData} (F : Fun K "__init__" "NoRow.__init__" (inClass (topS 49) 0) f fd) (D : DEf P w K mg base) (cK : Cal P w K mg base 2 "_kept" spKeptI) (T : ExT K C) (nf : ∀ f ∈ (["row"] : List Str), PySem.W.findIn K (.ref C) f = some none) : FnOk P w K mg base CX0 3 f fd ["self", "row"] (spInit C ["row"]) := by
  obtain ⟨D, fD, fdD, psD, mc, rd, fc, FD, kpD, bD, gD⟩ := D.ex
  refine F.ok sc_NoRow (fun vs H Q E h => ?_) (fun cdv A outer s H vs Q E hr h => ?_)
  · obtain ⟨a, is, rfl, hl, _⟩ := h
    rw [List.length_cons, List.length_map, hl]
    rfl
  · obtain ⟨a, is, rfl, hl, ha, k⟩ := h
    obtain ⟨i, rfl⟩ := len1 hl
    refine ⟨_, pss_cons (ps_expr (pe_clsfn rd fc FD hr (by decide) kpD bD (by rfl) gD (pa_cons (pv 0) (pa_cons pe_str pa_nil)))) (pss_one (ps_ost (pv 0) (pe_c cK hr (by decide) rfl (pa_cons (pv 1) pa_nil)))), ?_⟩
    refine ⟨_, rfl, a, C, _, rfl, T.o, ha, ?_⟩
    refine ⟨_, rfl, _, rfl, fun H1 s1 => ⟨_, rfl, a, C, rfl, T.o, nf _ (by simp), .inl ⟨s1 _ _ ha, fun dx nd ne => ?_⟩⟩⟩
    exact k _ (fun b o q hb => by rw [upd_ne hb, upd_ne (ne_of_none (s1 _ _ q) nd)]; exact s1 _ _ q) ⟨dx, upd_same, by rw [upd_ne ne, upd_same]; rfl⟩
theorem sc_NothingLeft : FnScope ["self", "number"] ["self", "number"] (defScope (inClass (topS 50) 0)) := ⟨rfl, rfl, rfl, by decide +kernel, rfl, by decide +kernel, by decide +kernel⟩
theorem ok_NothingLeft {f C : Addr} {fd : FuncData} (F : Fun K "__init__" "NothingLeft.__init__" (inClass (topS 50) 0) f fd) (D : DEf P w K mg base) (cK : Cal P w K mg base 2 "_kept" spKeptI) (T : ExT K C) (nf : ∀ f ∈ (["number"] : List Str), PySem.W.findIn K (.ref C) f = some none) : FnOk P w K mg base CX0 3 f fd ["self", "number"] (spInit C ["number"]) := by
  obtain ⟨D, fD, fdD, psD, mc, rd, fc, FD, kpD, bD, gD⟩ := D.ex
  refine F.ok sc_NothingLeft (fun vs H Q E h => ?_) (fun cdv A outer s H vs Q E hr h => ?_)
  · obtain ⟨a, is, rfl, hl, _⟩ := h
    rw [List.length_cons, List.length_map, hl]
    rfl
  · obtain ⟨a, is, rfl, hl, ha, k⟩ := h
    obtain ⟨i, rfl⟩ := len1 hl
    refine ⟨_, pss_cons (ps_expr (pe_clsfn rd fc FD hr (by decide) kpD bD (by rfl) gD (pa_cons (pv 0) (pa_cons pe_str pa_nil)))) (pss_one (ps_ost (pv 0) (pe_c cK hr (by decide) rfl (pa_cons (pv 1) pa_nil)))), ?_⟩
    refine ⟨_, rfl, a, C, _, rfl, T.o, ha, ?_⟩
    refine ⟨_, rfl, _, rfl, fun H1 s1 => ⟨_, rfl, a, C, rfl, T.o, nf _ (by simp), .inl ⟨s1 _ _ ha, fun dx nd ne => ?_⟩⟩⟩
    exact k _ (fun b o q hb => by rw [upd_ne hb, upd_ne (ne_of_none (s1 _ _ q) nd)]; exact s1 _ _ q) ⟨dx, upd_same, by rw [upd_ne ne, upd_same]; rfl⟩
theorem sc_StillTrial : FnScope ["self", "deeds"] ["self", "deeds"] (defScope (inClass (topS 51) 0)) := ⟨rfl, rfl, rfl, by decide +kernel, rfl, by decide +kernel, by decide +kernel⟩
theorem ok_StillTrial {f C : Addr} {fd : FuncData} (F : Fun K "__init__" "StillTrial.__init__" (inClass (topS 51) 0) f fd) (D : DEf P w K mg base) (cK : Cal P w K mg base 2 "_kept" spKeptI) (T : ExT K C) (nf : ∀ f ∈ (["deeds"] : List Str), PySem.W.findIn K (.ref C) f = some none) : FnOk P w K mg base CX0 3 f fd ["self", "deeds"] (spInit C ["deeds"]) := by
  obtain ⟨D, fD, fdD, psD, mc, rd, fc, FD, kpD, bD, gD⟩ := D.ex
  refine F.ok sc_StillTrial (fun vs H Q E h => ?_) (fun cdv A outer s H vs Q E hr h => ?_)
  · obtain ⟨a, is, rfl, hl, _⟩ := h
    rw [List.length_cons, List.length_map, hl]
    rfl
  · obtain ⟨a, is, rfl, hl, ha, k⟩ := h
    obtain ⟨i, rfl⟩ := len1 hl
    refine ⟨_, pss_cons (ps_expr (pe_clsfn rd fc FD hr (by decide) kpD bD (by rfl) gD (pa_cons (pv 0) (pa_cons pe_str pa_nil)))) (pss_one (ps_ost (pv 0) (pe_c cK hr (by decide) rfl (pa_cons (pv 1) pa_nil)))), ?_⟩
    refine ⟨_, rfl, a, C, _, rfl, T.o, ha, ?_⟩
    refine ⟨_, rfl, _, rfl, fun H1 s1 => ⟨_, rfl, a, C, rfl, T.o, nf _ (by simp), .inl ⟨s1 _ _ ha, fun dx nd ne => ?_⟩⟩⟩
    exact k _ (fun b o q hb => by rw [upd_ne hb, upd_ne (ne_of_none (s1 _ _ q) nd)]; exact s1 _ _ q) ⟨dx, upd_same, by rw [upd_ne ne, upd_same]; rfl⟩
end
end My
set_option Elab.async false
set_option linter.all false
set_option maxRecDepth 100000
set_option maxHeartbeats 4000000
namespace My
open PySem PySem.Spec PyProof.Rows L2
section
variable {P : Program} {w : World} {K : PySem.W.Frag} {mg : Str → Option Value} {base : Heap} {cs : Nat → Addr}
/-! ### isinstance with every class -/
def clsRow (i : Nat) : List V := (List.range 47).map fun j => .bl (decide (i = j))
def spClasses (cs : Nat → Addr) : Sp := fun vs H Q _ => ∃ (e : Addr) (i : Nat) (fs : List (Str × V)), vs = [.ref e] ∧ i < 47 ∧ ExAt H e (cs i) fs ∧ ∀ (p : Addr) (H' : Hp), Same H H' → H' p = some (.lst (clsRow i)) → Q (.ref p) H'
theorem sc_law_classes : FnScope ["_law_e", "_law_rows"] ["_law_e"] (defScope (topS 59)) := ⟨rfl, rfl, rfl, by decide +kernel, rfl, by decide +kernel, by decide +kernel⟩
theorem ok_law_classes {f : Addr} {fd : FuncData} (F : Fun K "_law_classes" "_law_classes" (topS 59) f fd) (mS : mg "isinstance" = none) (M : ∀ k x fs, tab[k]? = some (x, fs) → Mke P w K mg base x (cs k) fs) (T : ∀ i, i < 47 → ExT K (cs i))
    (kit : ∀ i j, i < 47 → j < 47 → PySem.W.kitOne K (.ref (cs i)) (.ref (cs j)) = some (decide (i = j))) : FnOk P w K mg base CX0 1 f fd ["_law_e"] (spClasses cs) := by
  refine F.ok sc_law_classes (fun vs H Q E h => ?_) (fun cdv A outer s H vs Q E hr h => ?_)
  · obtain ⟨e, i, fs, rfl, _⟩ := h
    rfl
  · obtain ⟨e, i, fs, rfl, hi, ea, k⟩ := h
    refine ⟨_, (pss_cons (ps_set (i := 1) sc_law_classes.nd rfl (.inl rfl) (pe_lst (pa_cons (pe_callB call_isV (by rfl) mS (by decide +kernel) (pa_cons (pv 0) (pa_cons (pe_glob (v := .ref (cs 0)) (by rfl) (M 0 _ _ rfl).gx rfl) pa_nil))) (pa_cons (pe_callB call_isV (by rfl) mS (by decide +kernel) (pa_cons (pv 0) (pa_cons (pe_glob (v := .ref (cs 1)) (by rfl) (M 1 _ _ rfl).gx rfl) pa_nil))) (pa_cons (pe_callB call_isV (by rfl) mS (by decide +kernel) (pa_cons (pv 0) (pa_cons (pe_glob (v := .ref (cs 2)) (by rfl) (M 2 _ _ rfl).gx rfl) pa_nil))) (pa_cons (pe_callB call_isV (by rfl) mS (by decide +kernel) (pa_cons (pv 0) (pa_cons (pe_glob (v := .ref (cs 3)) (by rfl) (M 3 _ _ rfl).gx rfl) pa_nil))) pa_nil))))))
      (pss_cons (ps_set (i := 1) sc_law_classes.nd rfl (.inl rfl) (pe_op op_cat (pv 1) (pe_lst (pa_cons (pe_callB call_isV (by rfl) mS (by decide +kernel) (pa_cons (pv 0) (pa_cons (pe_glob (v := .ref (cs 4)) (by rfl) (M 4 _ _ rfl).gx rfl) pa_nil))) (pa_cons (pe_callB call_isV (by rfl) mS (by decide +kernel) (pa_cons (pv 0) (pa_cons (pe_glob (v := .ref (cs 5)) (by rfl) (M 5 _ _ rfl).gx rfl) pa_nil))) (pa_cons (pe_callB call_isV (by rfl) mS (by decide +kernel) (pa_cons (pv 0) (pa_cons (pe_glob (v := .ref (cs 6)) (by rfl) (M 6 _ _ rfl).gx rfl) pa_nil))) (pa_cons (pe_callB call_isV (by rfl) mS (by decide +kernel) (pa_cons (pv 0) (pa_cons (pe_glob (v := .ref (cs 7)) (by rfl) (M 7 _ _ rfl).gx rfl) pa_nil))) pa_nil)))))))
      (pss_cons (ps_set (i := 1) sc_law_classes.nd rfl (.inl rfl) (pe_op op_cat (pv 1) (pe_lst (pa_cons (pe_callB call_isV (by rfl) mS (by decide +kernel) (pa_cons (pv 0) (pa_cons (pe_glob (v := .ref (cs 8)) (by rfl) (M 8 _ _ rfl).gx rfl) pa_nil))) (pa_cons (pe_callB call_isV (by rfl) mS (by decide +kernel) (pa_cons (pv 0) (pa_cons (pe_glob (v := .ref (cs 9)) (by rfl) (M 9 _ _ rfl).gx rfl) pa_nil))) (pa_cons (pe_callB call_isV (by rfl) mS (by decide +kernel) (pa_cons (pv 0) (pa_cons (pe_glob (v := .ref (cs 10)) (by rfl) (M 10 _ _ rfl).gx rfl) pa_nil))) (pa_cons (pe_callB call_isV (by rfl) mS (by decide +kernel) (pa_cons (pv 0) (pa_cons (pe_glob (v := .ref (cs 11)) (by rfl) (M 11 _ _ rfl).gx rfl) pa_nil))) pa_nil)))))))
      (pss_cons (ps_set (i := 1) sc_law_classes.nd rfl (.inl rfl) (pe_op op_cat (pv 1) (pe_lst (pa_cons (pe_callB call_isV (by rfl) mS (by decide +kernel) (pa_cons (pv 0) (pa_cons (pe_glob (v := .ref (cs 12)) (by rfl) (M 12 _ _ rfl).gx rfl) pa_nil))) (pa_cons (pe_callB call_isV (by rfl) mS (by decide +kernel) (pa_cons (pv 0) (pa_cons (pe_glob (v := .ref (cs 13)) (by rfl) (M 13 _ _ rfl).gx rfl) pa_nil))) (pa_cons (pe_callB call_isV (by rfl) mS (by decide +kernel) (pa_cons (pv 0) (pa_cons (pe_glob (v := .ref (cs 14)) (by rfl) (M 14 _ _ rfl).gx rfl) pa_nil))) (pa_cons (pe_callB call_isV (by rfl) mS (by decide +kernel) (pa_cons (pv 0) (pa_cons (pe_glob (v := .ref (cs 15)) (by rfl) (M 15 _ _ rfl).gx rfl) pa_nil))) pa_nil)))))))
      (pss_cons (ps_set (i := 1) sc_law_classes.nd rfl (.inl rfl) (pe_op op_cat (pv 1) (pe_lst (pa_cons (pe_callB call_isV (by rfl) mS (by decide +kernel) (pa_cons (pv 0) (pa_cons (pe_glob (v := .ref (cs 16)) (by rfl) (M 16 _ _ rfl).gx rfl) pa_nil))) (pa_cons (pe_callB call_isV (by rfl) mS (by decide +kernel) (pa_cons (pv 0) (pa_cons (pe_glob (v := .ref (cs 17)) (by rfl) (M 17 _ _ rfl).gx rfl) pa_nil))) (pa_cons (pe_callB call_isV (by rfl) mS (by decide +kernel) (pa_cons (pv 0) (pa_cons (pe_glob (v := .ref (cs 18)) (by rfl) (M 18 _ _ rfl).gx rfl) pa_nil))) (pa_cons (pe_callB call_isV (by rfl) mS (by decide +kernel) (pa_cons (pv 0) (pa_cons (pe_glob (v := .ref (cs 19)) (by rfl) (M 19 _ _ rfl).gx rfl) pa_nil))) pa_nil)))))))
      (pss_cons (ps_set (i := 1) sc_law_classes.nd rfl (.inl rfl) (pe_op op_cat (pv 1) (pe_lst (pa_cons (pe_callB call_isV (by rfl) mS (by decide +kernel) (pa_cons (pv 0) (pa_cons (pe_glob (v := .ref (cs 20)) (by rfl) (M 20 _ _ rfl).gx rfl) pa_nil))) (pa_cons (pe_callB call_isV (by rfl) mS (by decide +kernel) (pa_cons (pv 0) (pa_cons (pe_glob (v := .ref (cs 21)) (by rfl) (M 21 _ _ rfl).gx rfl) pa_nil))) (pa_cons (pe_callB call_isV (by rfl) mS (by decide +kernel) (pa_cons (pv 0) (pa_cons (pe_glob (v := .ref (cs 22)) (by rfl) (M 22 _ _ rfl).gx rfl) pa_nil))) (pa_cons (pe_callB call_isV (by rfl) mS (by decide +kernel) (pa_cons (pv 0) (pa_cons (pe_glob (v := .ref (cs 23)) (by rfl) (M 23 _ _ rfl).gx rfl) pa_nil))) pa_nil)))))))
      (pss_cons (ps_set (i := 1) sc_law_classes.nd rfl (.inl rfl) (pe_op op_cat (pv 1) (pe_lst (pa_cons (pe_callB call_isV (by rfl) mS (by decide +kernel) (pa_cons (pv 0) (pa_cons (pe_glob (v := .ref (cs 24)) (by rfl) (M 24 _ _ rfl).gx rfl) pa_nil))) (pa_cons (pe_callB call_isV (by rfl) mS (by decide +kernel) (pa_cons (pv 0) (pa_cons (pe_glob (v := .ref (cs 25)) (by rfl) (M 25 _ _ rfl).gx rfl) pa_nil))) (pa_cons (pe_callB call_isV (by rfl) mS (by decide +kernel) (pa_cons (pv 0) (pa_cons (pe_glob (v := .ref (cs 26)) (by rfl) (M 26 _ _ rfl).gx rfl) pa_nil))) (pa_cons (pe_callB call_isV (by rfl) mS (by decide +kernel) (pa_cons (pv 0) (pa_cons (pe_glob (v := .ref (cs 27)) (by rfl) (M 27 _ _ rfl).gx rfl) pa_nil))) pa_nil)))))))
      (pss_cons (ps_set (i := 1) sc_law_classes.nd rfl (.inl rfl) (pe_op op_cat (pv 1) (pe_lst (pa_cons (pe_callB call_isV (by rfl) mS (by decide +kernel) (pa_cons (pv 0) (pa_cons (pe_glob (v := .ref (cs 28)) (by rfl) (M 28 _ _ rfl).gx rfl) pa_nil))) (pa_cons (pe_callB call_isV (by rfl) mS (by decide +kernel) (pa_cons (pv 0) (pa_cons (pe_glob (v := .ref (cs 29)) (by rfl) (M 29 _ _ rfl).gx rfl) pa_nil))) (pa_cons (pe_callB call_isV (by rfl) mS (by decide +kernel) (pa_cons (pv 0) (pa_cons (pe_glob (v := .ref (cs 30)) (by rfl) (M 30 _ _ rfl).gx rfl) pa_nil))) (pa_cons (pe_callB call_isV (by rfl) mS (by decide +kernel) (pa_cons (pv 0) (pa_cons (pe_glob (v := .ref (cs 31)) (by rfl) (M 31 _ _ rfl).gx rfl) pa_nil))) pa_nil)))))))
      (pss_cons (ps_set (i := 1) sc_law_classes.nd rfl (.inl rfl) (pe_op op_cat (pv 1) (pe_lst (pa_cons (pe_callB call_isV (by rfl) mS (by decide +kernel) (pa_cons (pv 0) (pa_cons (pe_glob (v := .ref (cs 32)) (by rfl) (M 32 _ _ rfl).gx rfl) pa_nil))) (pa_cons (pe_callB call_isV (by rfl) mS (by decide +kernel) (pa_cons (pv 0) (pa_cons (pe_glob (v := .ref (cs 33)) (by rfl) (M 33 _ _ rfl).gx rfl) pa_nil))) (pa_cons (pe_callB call_isV (by rfl) mS (by decide +kernel) (pa_cons (pv 0) (pa_cons (pe_glob (v := .ref (cs 34)) (by rfl) (M 34 _ _ rfl).gx rfl) pa_nil))) (pa_cons (pe_callB call_isV (by rfl) mS (by decide +kernel) (pa_cons (pv 0) (pa_cons (pe_glob (v := .ref (cs 35)) (by rfl) (M 35 _ _ rfl).gx rfl) pa_nil))) pa_nil)))))))
      (pss_cons (ps_set (i := 1) sc_law_classes.nd rfl (.inl rfl) (pe_op op_cat (pv 1) (pe_lst (pa_cons (pe_callB call_isV (by rfl) mS (by decide +kernel) (pa_cons (pv 0) (pa_cons (pe_glob (v := .ref (cs 36)) (by rfl) (M 36 _ _ rfl).gx rfl) pa_nil))) (pa_cons (pe_callB call_isV (by rfl) mS (by decide +kernel) (pa_cons (pv 0) (pa_cons (pe_glob (v := .ref (cs 37)) (by rfl) (M 37 _ _ rfl).gx rfl) pa_nil))) (pa_cons (pe_callB call_isV (by rfl) mS (by decide +kernel) (pa_cons (pv 0) (pa_cons (pe_glob (v := .ref (cs 38)) (by rfl) (M 38 _ _ rfl).gx rfl) pa_nil))) (pa_cons (pe_callB call_isV (by rfl) mS (by decide +kernel) (pa_cons (pv 0) (pa_cons (pe_glob (v := .ref (cs 39)) (by rfl) (M 39 _ _ rfl).gx rfl) pa_nil))) pa_nil)))))))
      (pss_cons (ps_set (i := 1) sc_law_classes.nd rfl (.inl rfl) (pe_op op_cat (pv 1) (pe_lst (pa_cons (pe_callB call_isV (by rfl) mS (by decide +kernel) (pa_cons (pv 0) (pa_cons (pe_glob (v := .ref (cs 40)) (by rfl) (M 40 _ _ rfl).gx rfl) pa_nil))) (pa_cons (pe_callB call_isV (by rfl) mS (by decide +kernel) (pa_cons (pv 0) (pa_cons (pe_glob (v := .ref (cs 41)) (by rfl) (M 41 _ _ rfl).gx rfl) pa_nil))) (pa_cons (pe_callB call_isV (by rfl) mS (by decide +kernel) (pa_cons (pv 0) (pa_cons (pe_glob (v := .ref (cs 42)) (by rfl) (M 42 _ _ rfl).gx rfl) pa_nil))) (pa_cons (pe_callB call_isV (by rfl) mS (by decide +kernel) (pa_cons (pv 0) (pa_cons (pe_glob (v := .ref (cs 43)) (by rfl) (M 43 _ _ rfl).gx rfl) pa_nil))) pa_nil)))))))
      (pss_one (ps_ret (pe_op op_cat (pv 1) (pe_lst (pa_cons (pe_callB call_isV (by rfl) mS (by decide +kernel) (pa_cons (pv 0) (pa_cons (pe_glob (v := .ref (cs 44)) (by rfl) (M 44 _ _ rfl).gx rfl) pa_nil))) (pa_cons (pe_callB call_isV (by rfl) mS (by decide +kernel) (pa_cons (pv 0) (pa_cons (pe_glob (v := .ref (cs 45)) (by rfl) (M 45 _ _ rfl).gx rfl) pa_nil))) (pa_cons (pe_callB call_isV (by rfl) mS (by decide +kernel) (pa_cons (pv 0) (pa_cons (pe_glob (v := .ref (cs 46)) (by rfl) (M 46 _ _ rfl).gx rfl) pa_nil))) pa_nil)))))))))))))))))), ?_⟩
    refine ⟨_, rfl, e, cs i, fs, .ref (cs 0), .ref (cs 0), _, rfl, ea, T i hi, .own _, kit i 0 hi (by decide), _, rfl, e, cs i, fs, .ref (cs 1), .ref (cs 1), _, rfl, ea, T i hi, .own _, kit i 1 hi (by decide), _, rfl, e, cs i, fs, .ref (cs 2), .ref (cs 2), _, rfl, ea, T i hi, .own _, kit i 2 hi (by decide), _, rfl, e, cs i, fs, .ref (cs 3), .ref (cs 3), _, rfl, ea, T i hi, .own _, kit i 3 hi (by decide), (by show 4 ≤ sizeLine; decide), fun l0 n0 => ?_⟩
    generalize eG0 : upd _ l0 _ = G0
    have sG0 := gs eG0 n0
    have aG0 := ga eG0
    clear eG0
    have ea1 := (ea.keep sG0)
    refine ⟨_, rfl, _, rfl, e, cs i, fs, .ref (cs 4), .ref (cs 4), _, rfl, ea1, T i hi, .own _, kit i 4 hi (by decide), _, rfl, e, cs i, fs, .ref (cs 5), .ref (cs 5), _, rfl, ea1, T i hi, .own _, kit i 5 hi (by decide), _, rfl, e, cs i, fs, .ref (cs 6), .ref (cs 6), _, rfl, ea1, T i hi, .own _, kit i 6 hi (by decide), _, rfl, e, cs i, fs, .ref (cs 7), .ref (cs 7), _, rfl, ea1, T i hi, .own _, kit i 7 hi (by decide), (by show 4 ≤ sizeLine; decide), fun l1 n1 => ?_⟩
    generalize eL1 : upd _ l1 _ = L1
    have sL1 := gs eL1 n1
    have aL1 := ga eL1
    clear eL1
    refine ⟨l0, l1, _, _, rfl, rfl, sL1 _ _ aG0, aL1, (by show 8 ≤ sizeLine; decide), fun p1 m1 => ?_⟩
    generalize eG1 : upd _ p1 _ = G1
    have sG1 := (sL1.trans (gs eG1 m1))
    have aG1 := ga eG1
    clear eG1
    have z1 := sG0.trans sG1
    have ea2 := (ea.keep z1)
    refine ⟨_, rfl, _, rfl, e, cs i, fs, .ref (cs 8), .ref (cs 8), _, rfl, ea2, T i hi, .own _, kit i 8 hi (by decide), _, rfl, e, cs i, fs, .ref (cs 9), .ref (cs 9), _, rfl, ea2, T i hi, .own _, kit i 9 hi (by decide), _, rfl, e, cs i, fs, .ref (cs 10), .ref (cs 10), _, rfl, ea2, T i hi, .own _, kit i 10 hi (by decide), _, rfl, e, cs i, fs, .ref (cs 11), .ref (cs 11), _, rfl, ea2, T i hi, .own _, kit i 11 hi (by decide), (by show 4 ≤ sizeLine; decide), fun l2 n2 => ?_⟩
    generalize eL2 : upd _ l2 _ = L2
    have sL2 := gs eL2 n2
    have aL2 := ga eL2
    clear eL2
    refine ⟨p1, l2, _, _, rfl, rfl, sL2 _ _ aG1, aL2, (by show 12 ≤ sizeLine; decide), fun p2 m2 => ?_⟩
    generalize eG2 : upd _ p2 _ = G2
    have sG2 := (sL2.trans (gs eG2 m2))
    have aG2 := ga eG2
    clear eG2
    have z2 := z1.trans sG2
    have ea3 := (ea.keep z2)
    refine ⟨_, rfl, _, rfl, e, cs i, fs, .ref (cs 12), .ref (cs 12), _, rfl, ea3, T i hi, .own _, kit i 12 hi (by decide), _, rfl, e, cs i, fs, .ref (cs 13), .ref (cs 13), _, rfl, ea3, T i hi, .own _, kit i 13 hi (by decide), _, rfl, e, cs i, fs, .ref (cs 14), .ref (cs 14), _, rfl, ea3, T i hi, .own _, kit i 14 hi (by decide), _, rfl, e, cs i, fs, .ref (cs 15), .ref (cs 15), _, rfl, ea3, T i hi, .own _, kit i 15 hi (by decide), (by show 4 ≤ sizeLine; decide), fun l3 n3 => ?_⟩
    generalize eL3 : upd _ l3 _ = L3
    have sL3 := gs eL3 n3
    have aL3 := ga eL3
    clear eL3
    refine ⟨p2, l3, _, _, rfl, rfl, sL3 _ _ aG2, aL3, (by show 16 ≤ sizeLine; decide), fun p3 m3 => ?_⟩
    generalize eG3 : upd _ p3 _ = G3
    have sG3 := (sL3.trans (gs eG3 m3))
    have aG3 := ga eG3
    clear eG3
    have z3 := z2.trans sG3
    have ea4 := (ea.keep z3)
    refine ⟨_, rfl, _, rfl, e, cs i, fs, .ref (cs 16), .ref (cs 16), _, rfl, ea4, T i hi, .own _, kit i 16 hi (by decide), _, rfl, e, cs i, fs, .ref (cs 17), .ref (cs 17), _, rfl, ea4, T i hi, .own _, kit i 17 hi (by decide), _, rfl, e, cs i, fs, .ref (cs 18), .ref (cs 18), _, rfl, ea4, T i hi, .own _, kit i 18 hi (by decide), _, rfl, e, cs i, fs, .ref (cs 19), .ref (cs 19), _, rfl, ea4, T i hi, .own _, kit i 19 hi (by decide), (by show 4 ≤ sizeLine; decide), fun l4 n4 => ?_⟩
    generalize eL4 : upd _ l4 _ = L4
    have sL4 := gs eL4 n4
    have aL4 := ga eL4
    clear eL4
    refine ⟨p3, l4, _, _, rfl, rfl, sL4 _ _ aG3, aL4, (by show 20 ≤ sizeLine; decide), fun p4 m4 => ?_⟩
    generalize eG4 : upd _ p4 _ = G4
    have sG4 := (sL4.trans (gs eG4 m4))
    have aG4 := ga eG4
    clear eG4
    have z4 := z3.trans sG4
    have ea5 := (ea.keep z4)
    refine ⟨_, rfl, _, rfl, e, cs i, fs, .ref (cs 20), .ref (cs 20), _, rfl, ea5, T i hi, .own _, kit i 20 hi (by decide), _, rfl, e, cs i, fs, .ref (cs 21), .ref (cs 21), _, rfl, ea5, T i hi, .own _, kit i 21 hi (by decide), _, rfl, e, cs i, fs, .ref (cs 22), .ref (cs 22), _, rfl, ea5, T i hi, .own _, kit i 22 hi (by decide), _, rfl, e, cs i, fs, .ref (cs 23), .ref (cs 23), _, rfl, ea5, T i hi, .own _, kit i 23 hi (by decide), (by show 4 ≤ sizeLine; decide), fun l5 n5 => ?_⟩
    generalize eL5 : upd _ l5 _ = L5
    have sL5 := gs eL5 n5
    have aL5 := ga eL5
    clear eL5
    refine ⟨p4, l5, _, _, rfl, rfl, sL5 _ _ aG4, aL5, (by show 24 ≤ sizeLine; decide), fun p5 m5 => ?_⟩
    generalize eG5 : upd _ p5 _ = G5
    have sG5 := (sL5.trans (gs eG5 m5))
    have aG5 := ga eG5
    clear eG5
    have z5 := z4.trans sG5
    have ea6 := (ea.keep z5)
    refine ⟨_, rfl, _, rfl, e, cs i, fs, .ref (cs 24), .ref (cs 24), _, rfl, ea6, T i hi, .own _, kit i 24 hi (by decide), _, rfl, e, cs i, fs, .ref (cs 25), .ref (cs 25), _, rfl, ea6, T i hi, .own _, kit i 25 hi (by decide), _, rfl, e, cs i, fs, .ref (cs 26), .ref (cs 26), _, rfl, ea6, T i hi, .own _, kit i 26 hi (by decide), _, rfl, e, cs i, fs, .ref (cs 27), .ref (cs 27), _, rfl, ea6, T i hi, .own _, kit i 27 hi (by decide), (by show 4 ≤ sizeLine; decide), fun l6 n6 => ?_⟩
    generalize eL6 : upd _ l6 _ = L6
    have sL6 := gs eL6 n6
    have aL6 := ga eL6
    clear eL6
    refine ⟨p5, l6, _, _, rfl, rfl, sL6 _ _ aG5, aL6, (by show 28 ≤ sizeLine; decide), fun p6 m6 => ?_⟩
    generalize eG6 : upd _ p6 _ = G6
    have sG6 := (sL6.trans (gs eG6 m6))
    have aG6 := ga eG6
    clear eG6
    have z6 := z5.trans sG6
    have ea7 := (ea.keep z6)
    refine ⟨_, rfl, _, rfl, e, cs i, fs, .ref (cs 28), .ref (cs 28), _, rfl, ea7, T i hi, .own _, kit i 28 hi (by decide), _, rfl, e, cs i, fs, .ref (cs 29), .ref (cs 29), _, rfl, ea7, T i hi, .own _, kit i 29 hi (by decide), _, rfl, e, cs i, fs, .ref (cs 30), .ref (cs 30), _, rfl, ea7, T i hi, .own _, kit i 30 hi (by decide), _, rfl, e, cs i, fs, .ref (cs 31), .ref (cs 31), _, rfl, ea7, T i hi, .own _, kit i 31 hi (by decide), (by show 4 ≤ sizeLine; decide), fun l7 n7 => ?_⟩
    generalize eL7 : upd _ l7 _ = L7
    have sL7 := gs eL7 n7
    have aL7 := ga eL7
    clear eL7
    refine ⟨p6, l7, _, _, rfl, rfl, sL7 _ _ aG6, aL7, (by show 32 ≤ sizeLine; decide), fun p7 m7 => ?_⟩
    generalize eG7 : upd _ p7 _ = G7
    have sG7 := (sL7.trans (gs eG7 m7))
    have aG7 := ga eG7
    clear eG7
    have z7 := z6.trans sG7
    have ea8 := (ea.keep z7)
    refine ⟨_, rfl, _, rfl, e, cs i, fs, .ref (cs 32), .ref (cs 32), _, rfl, ea8, T i hi, .own _, kit i 32 hi (by decide), _, rfl, e, cs i, fs, .ref (cs 33), .ref (cs 33), _, rfl, ea8, T i hi, .own _, kit i 33 hi (by decide), _, rfl, e, cs i, fs, .ref (cs 34), .ref (cs 34), _, rfl, ea8, T i hi, .own _, kit i 34 hi (by decide), _, rfl, e, cs i, fs, .ref (cs 35), .ref (cs 35), _, rfl, ea8, T i hi, .own _, kit i 35 hi (by decide), (by show 4 ≤ sizeLine; decide), fun l8 n8 => ?_⟩
    generalize eL8 : upd _ l8 _ = L8
    have sL8 := gs eL8 n8
    have aL8 := ga eL8
    clear eL8
    refine ⟨p7, l8, _, _, rfl, rfl, sL8 _ _ aG7, aL8, (by show 36 ≤ sizeLine; decide), fun p8 m8 => ?_⟩
    generalize eG8 : upd _ p8 _ = G8
    have sG8 := (sL8.trans (gs eG8 m8))
    have aG8 := ga eG8
    clear eG8
    have z8 := z7.trans sG8
    have ea9 := (ea.keep z8)
    refine ⟨_, rfl, _, rfl, e, cs i, fs, .ref (cs 36), .ref (cs 36), _, rfl, ea9, T i hi, .own _, kit i 36 hi (by decide), _, rfl, e, cs i, fs, .ref (cs 37), .ref (cs 37), _, rfl, ea9, T i hi, .own _, kit i 37 hi (by decide), _, rfl, e, cs i, fs, .ref (cs 38), .ref (cs 38), _, rfl, ea9, T i hi, .own _, kit i 38 hi (by decide), _, rfl, e, cs i, fs, .ref (cs 39), .ref (cs 39), _, rfl, ea9, T i hi, .own _, kit i 39 hi (by decide), (by show 4 ≤ sizeLine; decide), fun l9 n9 => ?_⟩
    generalize eL9 : upd _ l9 _ = L9
    have sL9 := gs eL9 n9
    have aL9 := ga eL9
    clear eL9
    refine ⟨p8, l9, _, _, rfl, rfl, sL9 _ _ aG8, aL9, (by show 40 ≤ sizeLine; decide), fun p9 m9 => ?_⟩
    generalize eG9 : upd _ p9 _ = G9
    have sG9 := (sL9.trans (gs eG9 m9))
    have aG9 := ga eG9
    clear eG9
    have z9 := z8.trans sG9
    have ea10 := (ea.keep z9)
    refine ⟨_, rfl, _, rfl, e, cs i, fs, .ref (cs 40), .ref (cs 40), _, rfl, ea10, T i hi, .own _, kit i 40 hi (by decide), _, rfl, e, cs i, fs, .ref (cs 41), .ref (cs 41), _, rfl, ea10, T i hi, .own _, kit i 41 hi (by decide), _, rfl, e, cs i, fs, .ref (cs 42), .ref (cs 42), _, rfl, ea10, T i hi, .own _, kit i 42 hi (by decide), _, rfl, e, cs i, fs, .ref (cs 43), .ref (cs 43), _, rfl, ea10, T i hi, .own _, kit i 43 hi (by decide), (by show 4 ≤ sizeLine; decide), fun l10 n10 => ?_⟩
    generalize eL10 : upd _ l10 _ = L10
    have sL10 := gs eL10 n10
    have aL10 := ga eL10
    clear eL10
    refine ⟨p9, l10, _, _, rfl, rfl, sL10 _ _ aG9, aL10, (by show 44 ≤ sizeLine; decide), fun p10 m10 => ?_⟩
    generalize eG10 : upd _ p10 _ = G10
    have sG10 := (sL10.trans (gs eG10 m10))
    have aG10 := ga eG10
    clear eG10
    have z10 := z9.trans sG10
    have ea11 := (ea.keep z10)
    refine ⟨_, rfl, _, rfl, e, cs i, fs, .ref (cs 44), .ref (cs 44), _, rfl, ea11, T i hi, .own _, kit i 44 hi (by decide), _, rfl, e, cs i, fs, .ref (cs 45), .ref (cs 45), _, rfl, ea11, T i hi, .own _, kit i 45 hi (by decide), _, rfl, e, cs i, fs, .ref (cs 46), .ref (cs 46), _, rfl, ea11, T i hi, .own _, kit i 46 hi (by decide), (by show 3 ≤ sizeLine; decide), fun l11 n11 => ?_⟩
    generalize eL11 : upd _ l11 _ = L11
    have sL11 := gs eL11 n11
    have aL11 := ga eL11
    clear eL11
    refine ⟨p10, l11, _, _, rfl, rfl, sL11 _ _ aG10, aL11, (by show 47 ≤ sizeLine; decide), fun p11 m11 => ?_⟩
    generalize eG11 : upd _ p11 _ = G11
    have sG11 := (sL11.trans (gs eG11 m11))
    have aG11 := ga eG11
    clear eG11
    have z11 := z10.trans sG11
    exact k p11 _ z11 aG11
end
end My
set_option Elab.async false
set_option linter.all false
set_option maxRecDepth 100000
set_option maxHeartbeats 4000000
namespace My
open PySem PySem.Spec PyProof.Rows L2
/-! ### several new exceptions, one behind another, of the same arguments -/
def Exs (H : Hp) (is : List Int) : List Addr → List (Addr × List Str) → Prop
  | [], [] => True
  | a :: as, p :: L => ExAt H a p.1 (attrs p.2 is) ∧ Exs H is as L
  | _, _ => False
theorem exs_nil {H : Hp} {is : List Int} : ∀ {as : List Addr}, Exs H is as [] → as = []
  | [], _ => rfl
  | _ :: _, h => h.elim
theorem exs_cons {H : Hp} {is : List Int} {p : Addr × List Str} {L : List (Addr × List Str)} : ∀ {as : List Addr}, Exs H is as (p :: L) → ∃ a as', as = a :: as' ∧ ExAt H a p.1 (attrs p.2 is) ∧ Exs H is as' L
  | [], h => h.elim
  | a :: as, h => ⟨a, as, rfl, h.1, h.2⟩
theorem Exs.keep {H H' : Hp} {is : List Int} (s : Same H H') : ∀ {as : List Addr} {L : List (Addr × List Str)}, Exs H is as L → Exs H' is as L
  | [], [], _ => trivial
  | _ :: _, _ :: _, h => ⟨h.1.keep s, Exs.keep s h.2⟩
  | [], _ :: _, h => h.elim
  | _ :: _, [], h => h.elim
theorem exs_at {H : Hp} {is : List Int} : ∀ {as : List Addr} {L : List (Addr × List Str)} {i : Nat} {a : Addr}, Exs H is as L → as[i]? = some a → ∃ p, L[i]? = some p ∧ ExAt H a p.1 (attrs p.2 is)
  | [], [], _, _, _, e => by simp at e
  | a :: as, p :: L, 0, b, h, e => ⟨p, rfl, by
      have z : a = b := Option.some.inj e
      rw [← z]
      exact h.1⟩
  | a :: as, p :: L, i + 1, b, h, e => exs_at (i := i) h.2 e
  | [], _ :: _, _, _, h, _ => h.elim
  | _ :: _, [], _, _, h, _ => h.elim
theorem exs_len {H : Hp} {is : List Int} : ∀ {as : List Addr} {L : List (Addr × List Str)}, Exs H is as L → as.length = L.length
  | [], [], _ => rfl
  | _ :: _, _ :: _, h => congrArg (· + 1) (exs_len h.2)
  | [], _ :: _, h => h.elim
  | _ :: _, [], h => h.elim
def tNews (ta : TA) : List (Addr × List Str) → TA
  | [] => tNil
  | p :: r => tCons (tCB (rNewI p.1 p.2) ta) (tNews ta r)
theorem news_ok {ta : TA} {σ : L2.St} {is : List Int} (hta : ∀ H Q, Q (is.map V.int) H → ta σ H Q) : ∀ (L : List (Addr × List Str)) (H : Hp) (Q : List V → Hp → Prop), (∀ p ∈ L, is.length = p.2.length) →
    (∀ as H', Same H H' → Exs H' is as L → Q (as.map V.ref) H') → tNews ta L σ H Q
  | [], H, Q, _, k => k [] H (Same.refl _) trivial
  | p :: L, H, Q, hl, k => hta H _ ⟨is, rfl, hl p (List.mem_cons_self ..), fun a H2 s _ ea => news_ok hta L H2 _ (fun q hq => hl q (List.mem_cons_of_mem _ hq)) fun as H' s' ex => k (a :: as) H' (s.trans s') ⟨ea.keep s', ex⟩⟩
theorem rd_news {ta : TA} {is : List Int} {L : List (Addr × List Str)} {g : TG} {u : TS} {D : Ends} {σ : L2.St} {H : Hp} (hta : ∀ H Q, Q (is.map V.int) H → ta σ H Q) (hl : ∀ p ∈ L, is.length = p.2.length)
    (h : ∀ as H', Same H H' → Exs H' is as L → (as.map V.ref).length ≤ sizeLine ∧ ∀ p, H' p = none → g (.ref p) σ (upd H' p (.lst (as.map V.ref))) (u D)) : tSeq (tAsg (tLst (tNews ta L)) g) u D σ H :=
  news_ok hta L H _ hl h
/-- tuples of the two ints -/
def Tups (H : Hp) (a b : Int) : List Addr → Prop
  | [] => True
  | t :: ts => H t = some (.tup [.int a, .int b]) ∧ Tups H a b ts
section
variable {P : Program} {w : World} {K : PySem.W.Frag} {mg : Str → Option Value} {base : Heap} {cs : Nat → Addr}
def L_singles (cs : Nat → Addr) : List (Addr × List Str) := ([(cs 8, ["index"]), (cs 9, ["what"]), (cs 10, ["reading"]), (cs 11, ["index"]), (cs 12, ["letters"]), (cs 13, ["place"]), (cs 14, ["what"]), (cs 15, ["value"]), (cs 16, ["number"]), (cs 17, ["told"]), (cs 18, ["most"]), (cs 19, ["answer"])] : List (Addr × List Str)) ++ ([(cs 20, ["kind"]), (cs 21, ["hand"]), (cs 22, ["index"]), (cs 23, ["order"]), (cs 24, ["what"]), (cs 25, ["factor"]), (cs 26, ["value"]), (cs 27, ["what"]), (cs 28, ["demand"]), (cs 29, ["room"]), (cs 30, ["index"]), (cs 31, ["plan"])] : List (Addr × List Str)) ++ ([(cs 32, ["unions"]), (cs 33, ["rows"]), (cs 34, ["most"])] : List (Addr × List Str))
def sp_singles (cs : Nat → Addr) : Sp := fun vs H Q _ => ∃ b : Int, vs = [.int b] ∧ ∀ (p l1 l2 : Addr) (as : List Addr) (H' : Hp), Same H H' → H' p = some (.lst [.ref l1, .ref l2]) → H' l1 = some (.lst (as.map V.ref)) → Exs H' [b] as (L_singles cs) → H' l2 = some (.lst (List.replicate 27 (.int b))) → Q (.ref p) H'
theorem sc_law_singles : FnScope ["_law_a", "_law_one", "_law_kept", "_law_two", "_law_three"] ["_law_a"] (defScope (topS 57)) := ⟨rfl, rfl, rfl, by decide +kernel, rfl, by decide +kernel, by decide +kernel⟩
theorem ok_law_singles {f : Addr} {fd : FuncData} (F : Fun K "_law_singles" "_law_singles" (topS 57) f fd) (M : ∀ k x fs, tab[k]? = some (x, fs) → Mke P w K mg base x (cs k) fs) : FnOk P w K mg base CX0 5 f fd ["_law_a"] (sp_singles cs) := by
  refine F.ok sc_law_singles (fun vs H Q E h => ?_) (fun cdv A outer s H vs Q E hr h => ?_)
  · obtain ⟨b, rfl, _⟩ := h
    rfl
  · obtain ⟨b, rfl, k⟩ := h
    refine ⟨_, (pss_cons (ps_set (i := 1) sc_law_singles.nd rfl (.inl rfl) (pe_lst (pa_cons (pe_newI (M 8 _ _ rfl) (by decide) hr (by decide) rfl (pa_cons (pv 0) pa_nil)) (pa_cons (pe_newI (M 9 _ _ rfl) (by decide) hr (by decide) rfl (pa_cons (pv 0) pa_nil)) (pa_cons (pe_newI (M 10 _ _ rfl) (by decide) hr (by decide) rfl (pa_cons (pv 0) pa_nil)) (pa_cons (pe_newI (M 11 _ _ rfl) (by decide) hr (by decide) rfl (pa_cons (pv 0) pa_nil)) (pa_cons (pe_newI (M 12 _ _ rfl) (by decide) hr (by decide) rfl (pa_cons (pv 0) pa_nil)) (pa_cons (pe_newI (M 13 _ _ rfl) (by decide) hr (by decide) rfl (pa_cons (pv 0) pa_nil)) (pa_cons (pe_newI (M 14 _ _ rfl) (by decide) hr (by decide) rfl (pa_cons (pv 0) pa_nil)) (pa_cons (pe_newI (M 15 _ _ rfl) (by decide) hr (by decide) rfl (pa_cons (pv 0) pa_nil)) (pa_cons (pe_newI (M 16 _ _ rfl) (by decide) hr (by decide) rfl (pa_cons (pv 0) pa_nil)) pa_nil)))))))))))
      (pss_cons (ps_set (i := 2) sc_law_singles.nd rfl (.inl rfl) (pe_lst (pa_cons (pe_exf (pe_ix ix_list (pv 1) pe_int (fun _ _ => rfl))) (pa_cons (pe_exf (pe_ix ix_list (pv 1) pe_int (fun _ _ => rfl))) (pa_cons (pe_exf (pe_ix ix_list (pv 1) pe_int (fun _ _ => rfl))) (pa_cons (pe_exf (pe_ix ix_list (pv 1) pe_int (fun _ _ => rfl))) (pa_cons (pe_exf (pe_ix ix_list (pv 1) pe_int (fun _ _ => rfl))) (pa_cons (pe_exf (pe_ix ix_list (pv 1) pe_int (fun _ _ => rfl))) (pa_cons (pe_exf (pe_ix ix_list (pv 1) pe_int (fun _ _ => rfl))) (pa_cons (pe_exf (pe_ix ix_list (pv 1) pe_int (fun _ _ => rfl))) (pa_cons (pe_exf (pe_ix ix_list (pv 1) pe_int (fun _ _ => rfl))) pa_nil)))))))))))
      (pss_cons (ps_set (i := 3) sc_law_singles.nd rfl (.inl rfl) (pe_lst (pa_cons (pe_newI (M 17 _ _ rfl) (by decide) hr (by decide) rfl (pa_cons (pv 0) pa_nil)) (pa_cons (pe_newI (M 18 _ _ rfl) (by decide) hr (by decide) rfl (pa_cons (pv 0) pa_nil)) (pa_cons (pe_newI (M 19 _ _ rfl) (by decide) hr (by decide) rfl (pa_cons (pv 0) pa_nil)) (pa_cons (pe_newI (M 20 _ _ rfl) (by decide) hr (by decide) rfl (pa_cons (pv 0) pa_nil)) (pa_cons (pe_newI (M 21 _ _ rfl) (by decide) hr (by decide) rfl (pa_cons (pv 0) pa_nil)) (pa_cons (pe_newI (M 22 _ _ rfl) (by decide) hr (by decide) rfl (pa_cons (pv 0) pa_nil)) (pa_cons (pe_newI (M 23 _ _ rfl) (by decide) hr (by decide) rfl (pa_cons (pv 0) pa_nil)) (pa_cons (pe_newI (M 24 _ _ rfl) (by decide) hr (by decide) rfl (pa_cons (pv 0) pa_nil)) (pa_cons (pe_newI (M 25 _ _ rfl) (by decide) hr (by decide) rfl (pa_cons (pv 0) pa_nil)) pa_nil)))))))))))
      (pss_cons (ps_set (i := 2) sc_law_singles.nd rfl (.inl rfl) (pe_op op_cat (pv 2) (pe_lst (pa_cons (pe_exf (pe_ix ix_list (pv 3) pe_int (fun _ _ => rfl))) (pa_cons (pe_exf (pe_ix ix_list (pv 3) pe_int (fun _ _ => rfl))) (pa_cons (pe_exf (pe_ix ix_list (pv 3) pe_int (fun _ _ => rfl))) (pa_cons (pe_exf (pe_ix ix_list (pv 3) pe_int (fun _ _ => rfl))) (pa_cons (pe_exf (pe_ix ix_list (pv 3) pe_int (fun _ _ => rfl))) (pa_cons (pe_exf (pe_ix ix_list (pv 3) pe_int (fun _ _ => rfl))) (pa_cons (pe_exf (pe_ix ix_list (pv 3) pe_int (fun _ _ => rfl))) (pa_cons (pe_exf (pe_ix ix_list (pv 3) pe_int (fun _ _ => rfl))) (pa_cons (pe_exf (pe_ix ix_list (pv 3) pe_int (fun _ _ => rfl))) pa_nil))))))))))))
      (pss_cons (ps_set (i := 4) sc_law_singles.nd rfl (.inl rfl) (pe_lst (pa_cons (pe_newI (M 26 _ _ rfl) (by decide) hr (by decide) rfl (pa_cons (pv 0) pa_nil)) (pa_cons (pe_newI (M 27 _ _ rfl) (by decide) hr (by decide) rfl (pa_cons (pv 0) pa_nil)) (pa_cons (pe_newI (M 28 _ _ rfl) (by decide) hr (by decide) rfl (pa_cons (pv 0) pa_nil)) (pa_cons (pe_newI (M 29 _ _ rfl) (by decide) hr (by decide) rfl (pa_cons (pv 0) pa_nil)) (pa_cons (pe_newI (M 30 _ _ rfl) (by decide) hr (by decide) rfl (pa_cons (pv 0) pa_nil)) (pa_cons (pe_newI (M 31 _ _ rfl) (by decide) hr (by decide) rfl (pa_cons (pv 0) pa_nil)) (pa_cons (pe_newI (M 32 _ _ rfl) (by decide) hr (by decide) rfl (pa_cons (pv 0) pa_nil)) (pa_cons (pe_newI (M 33 _ _ rfl) (by decide) hr (by decide) rfl (pa_cons (pv 0) pa_nil)) (pa_cons (pe_newI (M 34 _ _ rfl) (by decide) hr (by decide) rfl (pa_cons (pv 0) pa_nil)) pa_nil)))))))))))
      (pss_cons (ps_set (i := 2) sc_law_singles.nd rfl (.inl rfl) (pe_op op_cat (pv 2) (pe_lst (pa_cons (pe_exf (pe_ix ix_list (pv 4) pe_int (fun _ _ => rfl))) (pa_cons (pe_exf (pe_ix ix_list (pv 4) pe_int (fun _ _ => rfl))) (pa_cons (pe_exf (pe_ix ix_list (pv 4) pe_int (fun _ _ => rfl))) (pa_cons (pe_exf (pe_ix ix_list (pv 4) pe_int (fun _ _ => rfl))) (pa_cons (pe_exf (pe_ix ix_list (pv 4) pe_int (fun _ _ => rfl))) (pa_cons (pe_exf (pe_ix ix_list (pv 4) pe_int (fun _ _ => rfl))) pa_nil)))))))))
      (pss_cons (ps_set (i := 2) sc_law_singles.nd rfl (.inl rfl) (pe_op op_cat (pv 2) (pe_lst (pa_cons (pe_exf (pe_ix ix_list (pv 4) pe_int (fun _ _ => rfl))) (pa_cons (pe_exf (pe_ix ix_list (pv 4) pe_int (fun _ _ => rfl))) (pa_cons (pe_exf (pe_ix ix_list (pv 4) pe_int (fun _ _ => rfl))) pa_nil))))))
      (pss_one (ps_ret (pe_lst (pa_cons (pe_op op_cat (pe_op op_cat (pv 1) (pv 3)) (pv 4)) (pa_cons (pv 2) pa_nil)))))))))))), ?_⟩
    refine rd_news (ta := tCons (tVar 0) tNil) (is := [b]) (L := ([(cs 8, ["index"]), (cs 9, ["what"]), (cs 10, ["reading"]), (cs 11, ["index"]), (cs 12, ["letters"]), (cs 13, ["place"]), (cs 14, ["what"]), (cs 15, ["value"]), (cs 16, ["number"])] : List (Addr × List Str))) (fun H Q h => ⟨_, rfl, h⟩) (by simp) fun as1 J1 q1 x1 => ?_
    obtain ⟨y1_0, as1, rfl, f1_0, x1⟩ := exs_cons x1
    obtain ⟨y1_1, as1, rfl, f1_1, x1⟩ := exs_cons x1
    obtain ⟨y1_2, as1, rfl, f1_2, x1⟩ := exs_cons x1
    obtain ⟨y1_3, as1, rfl, f1_3, x1⟩ := exs_cons x1
    obtain ⟨y1_4, as1, rfl, f1_4, x1⟩ := exs_cons x1
    obtain ⟨y1_5, as1, rfl, f1_5, x1⟩ := exs_cons x1
    obtain ⟨y1_6, as1, rfl, f1_6, x1⟩ := exs_cons x1
    obtain ⟨y1_7, as1, rfl, f1_7, x1⟩ := exs_cons x1
    obtain ⟨y1_8, as1, rfl, f1_8, x1⟩ := exs_cons x1
    have z1 := exs_nil x1
    subst z1
    refine ⟨(by show 9 ≤ sizeLine; decide), fun l2 n2 => ?_⟩
    generalize eJ2 : upd _ l2 _ = J2
    have sJ2 := gs eJ2 n2
    have aJ2 := ga eJ2
    clear eJ2
    have q2 := sJ2
    refine ⟨_, rfl, l2, _, _, _, rfl, rfl, SqL.of aJ2, atI_nat (j := 0) rfl, y1_0, cs 8, _, _, rfl, (f1_0.keep q2), (M 8 _ _ rfl).t, (M 8 _ _ rfl).nf _ (by simp), rfl, _, rfl, l2, _, _, _, rfl, rfl, SqL.of aJ2, atI_nat (j := 1) rfl, y1_1, cs 9, _, _, rfl, (f1_1.keep q2), (M 9 _ _ rfl).t, (M 9 _ _ rfl).nf _ (by simp), rfl, _, rfl, l2, _, _, _, rfl, rfl, SqL.of aJ2, atI_nat (j := 2) rfl, y1_2, cs 10, _, _, rfl, (f1_2.keep q2), (M 10 _ _ rfl).t, (M 10 _ _ rfl).nf _ (by simp), rfl, _, rfl, l2, _, _, _, rfl, rfl, SqL.of aJ2, atI_nat (j := 3) rfl, y1_3, cs 11, _, _, rfl, (f1_3.keep q2), (M 11 _ _ rfl).t, (M 11 _ _ rfl).nf _ (by simp), rfl, _, rfl, l2, _, _, _, rfl, rfl, SqL.of aJ2, atI_nat (j := 4) rfl, y1_4, cs 12, _, _, rfl, (f1_4.keep q2), (M 12 _ _ rfl).t, (M 12 _ _ rfl).nf _ (by simp), rfl, _, rfl, l2, _, _, _, rfl, rfl, SqL.of aJ2, atI_nat (j := 5) rfl, y1_5, cs 13, _, _, rfl, (f1_5.keep q2), (M 13 _ _ rfl).t, (M 13 _ _ rfl).nf _ (by simp), rfl, _, rfl, l2, _, _, _, rfl, rfl, SqL.of aJ2, atI_nat (j := 6) rfl, y1_6, cs 14, _, _, rfl, (f1_6.keep q2), (M 14 _ _ rfl).t, (M 14 _ _ rfl).nf _ (by simp), rfl, _, rfl, l2, _, _, _, rfl, rfl, SqL.of aJ2, atI_nat (j := 7) rfl, y1_7, cs 15, _, _, rfl, (f1_7.keep q2), (M 15 _ _ rfl).t, (M 15 _ _ rfl).nf _ (by simp), rfl, _, rfl, l2, _, _, _, rfl, rfl, SqL.of aJ2, atI_nat (j := 8) rfl, y1_8, cs 16, _, _, rfl, (f1_8.keep q2), (M 16 _ _ rfl).t, (M 16 _ _ rfl).nf _ (by simp), rfl, (by show 9 ≤ sizeLine; decide), fun l3 n3 => ?_⟩
    generalize eJ3 : upd _ l3 _ = J3
    have sJ3 := gs eJ3 n3
    have aJ3 := ga eJ3
    clear eJ3
    have q3 := sJ3
    refine rd_news (ta := tCons (tVar 0) tNil) (is := [b]) (L := ([(cs 17, ["told"]), (cs 18, ["most"]), (cs 19, ["answer"]), (cs 20, ["kind"]), (cs 21, ["hand"]), (cs 22, ["index"]), (cs 23, ["order"]), (cs 24, ["what"]), (cs 25, ["factor"])] : List (Addr × List Str))) (fun H Q h => ⟨_, rfl, h⟩) (by simp) fun as4 J4 q4 x4 => ?_
    obtain ⟨y4_0, as4, rfl, f4_0, x4⟩ := exs_cons x4
    obtain ⟨y4_1, as4, rfl, f4_1, x4⟩ := exs_cons x4
    obtain ⟨y4_2, as4, rfl, f4_2, x4⟩ := exs_cons x4
    obtain ⟨y4_3, as4, rfl, f4_3, x4⟩ := exs_cons x4
    obtain ⟨y4_4, as4, rfl, f4_4, x4⟩ := exs_cons x4
    obtain ⟨y4_5, as4, rfl, f4_5, x4⟩ := exs_cons x4
    obtain ⟨y4_6, as4, rfl, f4_6, x4⟩ := exs_cons x4
    obtain ⟨y4_7, as4, rfl, f4_7, x4⟩ := exs_cons x4
    obtain ⟨y4_8, as4, rfl, f4_8, x4⟩ := exs_cons x4
    have z4 := exs_nil x4
    subst z4
    refine ⟨(by show 9 ≤ sizeLine; decide), fun l5 n5 => ?_⟩
    generalize eJ5 : upd _ l5 _ = J5
    have sJ5 := gs eJ5 n5
    have aJ5 := ga eJ5
    clear eJ5
    have q5 := sJ5
    refine ⟨_, rfl, ?_⟩
    refine ⟨_, rfl, l5, _, _, _, rfl, rfl, SqL.of aJ5, atI_nat (j := 0) rfl, y4_0, cs 17, _, _, rfl, (f4_0.keep q5), (M 17 _ _ rfl).t, (M 17 _ _ rfl).nf _ (by simp), rfl, _, rfl, l5, _, _, _, rfl, rfl, SqL.of aJ5, atI_nat (j := 1) rfl, y4_1, cs 18, _, _, rfl, (f4_1.keep q5), (M 18 _ _ rfl).t, (M 18 _ _ rfl).nf _ (by simp), rfl, _, rfl, l5, _, _, _, rfl, rfl, SqL.of aJ5, atI_nat (j := 2) rfl, y4_2, cs 19, _, _, rfl, (f4_2.keep q5), (M 19 _ _ rfl).t, (M 19 _ _ rfl).nf _ (by simp), rfl, _, rfl, l5, _, _, _, rfl, rfl, SqL.of aJ5, atI_nat (j := 3) rfl, y4_3, cs 20, _, _, rfl, (f4_3.keep q5), (M 20 _ _ rfl).t, (M 20 _ _ rfl).nf _ (by simp), rfl, _, rfl, l5, _, _, _, rfl, rfl, SqL.of aJ5, atI_nat (j := 4) rfl, y4_4, cs 21, _, _, rfl, (f4_4.keep q5), (M 21 _ _ rfl).t, (M 21 _ _ rfl).nf _ (by simp), rfl, _, rfl, l5, _, _, _, rfl, rfl, SqL.of aJ5, atI_nat (j := 5) rfl, y4_5, cs 22, _, _, rfl, (f4_5.keep q5), (M 22 _ _ rfl).t, (M 22 _ _ rfl).nf _ (by simp), rfl, _, rfl, l5, _, _, _, rfl, rfl, SqL.of aJ5, atI_nat (j := 6) rfl, y4_6, cs 23, _, _, rfl, (f4_6.keep q5), (M 23 _ _ rfl).t, (M 23 _ _ rfl).nf _ (by simp), rfl, _, rfl, l5, _, _, _, rfl, rfl, SqL.of aJ5, atI_nat (j := 7) rfl, y4_7, cs 24, _, _, rfl, (f4_7.keep q5), (M 24 _ _ rfl).t, (M 24 _ _ rfl).nf _ (by simp), rfl, _, rfl, l5, _, _, _, rfl, rfl, SqL.of aJ5, atI_nat (j := 8) rfl, y4_8, cs 25, _, _, rfl, (f4_8.keep q5), (M 25 _ _ rfl).t, (M 25 _ _ rfl).nf _ (by simp), rfl, (by show 9 ≤ sizeLine; decide), fun l6 n6 => ?_⟩
    generalize eJ6 : upd _ l6 _ = J6
    have sJ6 := gs eJ6 n6
    have aJ6 := ga eJ6
    clear eJ6
    have q6 := sJ6
    refine ⟨l3, l6, _, _, rfl, rfl, (((q4.trans q5).trans q6) _ _ aJ3), aJ6, (by show 18 ≤ sizeLine; decide), fun l7 n7 => ?_⟩
    generalize eJ7 : upd _ l7 _ = J7
    have sJ7 := gs eJ7 n7
    have aJ7 := ga eJ7
    clear eJ7
    have q7 := sJ7
    refine rd_news (ta := tCons (tVar 0) tNil) (is := [b]) (L := ([(cs 26, ["value"]), (cs 27, ["what"]), (cs 28, ["demand"]), (cs 29, ["room"]), (cs 30, ["index"]), (cs 31, ["plan"]), (cs 32, ["unions"]), (cs 33, ["rows"]), (cs 34, ["most"])] : List (Addr × List Str))) (fun H Q h => ⟨_, rfl, h⟩) (by simp) fun as8 J8 q8 x8 => ?_
    obtain ⟨y8_0, as8, rfl, f8_0, x8⟩ := exs_cons x8
    obtain ⟨y8_1, as8, rfl, f8_1, x8⟩ := exs_cons x8
    obtain ⟨y8_2, as8, rfl, f8_2, x8⟩ := exs_cons x8
    obtain ⟨y8_3, as8, rfl, f8_3, x8⟩ := exs_cons x8
    obtain ⟨y8_4, as8, rfl, f8_4, x8⟩ := exs_cons x8
    obtain ⟨y8_5, as8, rfl, f8_5, x8⟩ := exs_cons x8
    obtain ⟨y8_6, as8, rfl, f8_6, x8⟩ := exs_cons x8
    obtain ⟨y8_7, as8, rfl, f8_7, x8⟩ := exs_cons x8
    obtain ⟨y8_8, as8, rfl, f8_8, x8⟩ := exs_cons x8
    have z8 := exs_nil x8
    subst z8
    refine ⟨(by show 9 ≤ sizeLine; decide), fun l9 n9 => ?_⟩
    generalize eJ9 : upd _ l9 _ = J9
    have sJ9 := gs eJ9 n9
    have aJ9 := ga eJ9
    clear eJ9
    have q9 := sJ9
    refine ⟨_, rfl, ?_⟩
    refine ⟨_, rfl, l9, _, _, _, rfl, rfl, SqL.of aJ9, atI_nat (j := 0) rfl, y8_0, cs 26, _, _, rfl, (f8_0.keep q9), (M 26 _ _ rfl).t, (M 26 _ _ rfl).nf _ (by simp), rfl, _, rfl, l9, _, _, _, rfl, rfl, SqL.of aJ9, atI_nat (j := 1) rfl, y8_1, cs 27, _, _, rfl, (f8_1.keep q9), (M 27 _ _ rfl).t, (M 27 _ _ rfl).nf _ (by simp), rfl, _, rfl, l9, _, _, _, rfl, rfl, SqL.of aJ9, atI_nat (j := 2) rfl, y8_2, cs 28, _, _, rfl, (f8_2.keep q9), (M 28 _ _ rfl).t, (M 28 _ _ rfl).nf _ (by simp), rfl, _, rfl, l9, _, _, _, rfl, rfl, SqL.of aJ9, atI_nat (j := 3) rfl, y8_3, cs 29, _, _, rfl, (f8_3.keep q9), (M 29 _ _ rfl).t, (M 29 _ _ rfl).nf _ (by simp), rfl, _, rfl, l9, _, _, _, rfl, rfl, SqL.of aJ9, atI_nat (j := 4) rfl, y8_4, cs 30, _, _, rfl, (f8_4.keep q9), (M 30 _ _ rfl).t, (M 30 _ _ rfl).nf _ (by simp), rfl, _, rfl, l9, _, _, _, rfl, rfl, SqL.of aJ9, atI_nat (j := 5) rfl, y8_5, cs 31, _, _, rfl, (f8_5.keep q9), (M 31 _ _ rfl).t, (M 31 _ _ rfl).nf _ (by simp), rfl, (by show 6 ≤ sizeLine; decide), fun l10 n10 => ?_⟩
    generalize eJ10 : upd _ l10 _ = J10
    have sJ10 := gs eJ10 n10
    have aJ10 := ga eJ10
    clear eJ10
    have q10 := sJ10
    refine ⟨l7, l10, _, _, rfl, rfl, (((q8.trans q9).trans q10) _ _ aJ7), aJ10, (by show 24 ≤ sizeLine; decide), fun l11 n11 => ?_⟩
    generalize eJ11 : upd _ l11 _ = J11
    have sJ11 := gs eJ11 n11
    have aJ11 := ga eJ11
    clear eJ11
    have q11 := sJ11
    refine ⟨_, rfl, ?_⟩
    refine ⟨_, rfl, l9, _, _, _, rfl, rfl, SqL.of ((q10.trans q11) _ _ aJ9), atI_nat (j := 6) rfl, y8_6, cs 32, _, _, rfl, (f8_6.keep ((q9.trans q10).trans q11)), (M 32 _ _ rfl).t, (M 32 _ _ rfl).nf _ (by simp), rfl, _, rfl, l9, _, _, _, rfl, rfl, SqL.of ((q10.trans q11) _ _ aJ9), atI_nat (j := 7) rfl, y8_7, cs 33, _, _, rfl, (f8_7.keep ((q9.trans q10).trans q11)), (M 33 _ _ rfl).t, (M 33 _ _ rfl).nf _ (by simp), rfl, _, rfl, l9, _, _, _, rfl, rfl, SqL.of ((q10.trans q11) _ _ aJ9), atI_nat (j := 8) rfl, y8_8, cs 34, _, _, rfl, (f8_8.keep ((q9.trans q10).trans q11)), (M 34 _ _ rfl).t, (M 34 _ _ rfl).nf _ (by simp), rfl, (by show 3 ≤ sizeLine; decide), fun l12 n12 => ?_⟩
    generalize eJ12 : upd _ l12 _ = J12
    have sJ12 := gs eJ12 n12
    have aJ12 := ga eJ12
    clear eJ12
    have q12 := sJ12
    refine ⟨l11, l12, _, _, rfl, rfl, (q12 _ _ aJ11), aJ12, (by show 27 ≤ sizeLine; decide), fun l13 n13 => ?_⟩
    generalize eJ13 : upd _ l13 _ = J13
    have sJ13 := gs eJ13 n13
    have aJ13 := ga eJ13
    clear eJ13
    have q13 := sJ13
    refine ⟨_, rfl, _, rfl, l2, l5, _, _, rfl, rfl, (((((((((((q3.trans q4).trans q5).trans q6).trans q7).trans q8).trans q9).trans q10).trans q11).trans q12).trans q13) _ _ aJ2), ((((((((q6.trans q7).trans q8).trans q9).trans q10).trans q11).trans q12).trans q13) _ _ aJ5), (by show 18 ≤ sizeLine; decide), fun l14 n14 => ?_⟩
    generalize eJ14 : upd _ l14 _ = J14
    have sJ14 := gs eJ14 n14
    have aJ14 := ga eJ14
    clear eJ14
    have q14 := sJ14
    refine ⟨_, rfl, l14, l9, _, _, rfl, rfl, aJ14, (((((q10.trans q11).trans q12).trans q13).trans q14) _ _ aJ9), (by show 27 ≤ sizeLine; decide), fun l15 n15 => ?_⟩
    generalize eJ15 : upd _ l15 _ = J15
    have sJ15 := gs eJ15 n15
    have aJ15 := ga eJ15
    clear eJ15
    have q15 := sJ15
    refine ⟨_, rfl, (by show 2 ≤ sizeLine; decide), fun l16 n16 => ?_⟩
    generalize eJ16 : upd _ l16 _ = J16
    have sJ16 := gs eJ16 n16
    have aJ16 := ga eJ16
    clear eJ16
    have q16 := sJ16
    exact k l16 l15 l13 [y1_0, y1_1, y1_2, y1_3, y1_4, y1_5, y1_6, y1_7, y1_8, y4_0, y4_1, y4_2, y4_3, y4_4, y4_5, y4_6, y4_7, y4_8, y8_0, y8_1, y8_2, y8_3, y8_4, y8_5, y8_6, y8_7, y8_8] _ (((((((((((((((q1.trans q2).trans q3).trans q4).trans q5).trans q6).trans q7).trans q8).trans q9).trans q10).trans q11).trans q12).trans q13).trans q14).trans q15).trans q16) aJ16 (q16 _ _ aJ15) ⟨(f1_0.keep ((((((((((((((q2.trans q3).trans q4).trans q5).trans q6).trans q7).trans q8).trans q9).trans q10).trans q11).trans q12).trans q13).trans q14).trans q15).trans q16)), (f1_1.keep ((((((((((((((q2.trans q3).trans q4).trans q5).trans q6).trans q7).trans q8).trans q9).trans q10).trans q11).trans q12).trans q13).trans q14).trans q15).trans q16)), (f1_2.keep ((((((((((((((q2.trans q3).trans q4).trans q5).trans q6).trans q7).trans q8).trans q9).trans q10).trans q11).trans q12).trans q13).trans q14).trans q15).trans q16)), (f1_3.keep ((((((((((((((q2.trans q3).trans q4).trans q5).trans q6).trans q7).trans q8).trans q9).trans q10).trans q11).trans q12).trans q13).trans q14).trans q15).trans q16)), (f1_4.keep ((((((((((((((q2.trans q3).trans q4).trans q5).trans q6).trans q7).trans q8).trans q9).trans q10).trans q11).trans q12).trans q13).trans q14).trans q15).trans q16)), (f1_5.keep ((((((((((((((q2.trans q3).trans q4).trans q5).trans q6).trans q7).trans q8).trans q9).trans q10).trans q11).trans q12).trans q13).trans q14).trans q15).trans q16)), (f1_6.keep ((((((((((((((q2.trans q3).trans q4).trans q5).trans q6).trans q7).trans q8).trans q9).trans q10).trans q11).trans q12).trans q13).trans q14).trans q15).trans q16)), (f1_7.keep ((((((((((((((q2.trans q3).trans q4).trans q5).trans q6).trans q7).trans q8).trans q9).trans q10).trans q11).trans q12).trans q13).trans q14).trans q15).trans q16)), (f1_8.keep ((((((((((((((q2.trans q3).trans q4).trans q5).trans q6).trans q7).trans q8).trans q9).trans q10).trans q11).trans q12).trans q13).trans q14).trans q15).trans q16)), (f4_0.keep (((((((((((q5.trans q6).trans q7).trans q8).trans q9).trans q10).trans q11).trans q12).trans q13).trans q14).trans q15).trans q16)), (f4_1.keep (((((((((((q5.trans q6).trans q7).trans q8).trans q9).trans q10).trans q11).trans q12).trans q13).trans q14).trans q15).trans q16)), (f4_2.keep (((((((((((q5.trans q6).trans q7).trans q8).trans q9).trans q10).trans q11).trans q12).trans q13).trans q14).trans q15).trans q16)), (f4_3.keep (((((((((((q5.trans q6).trans q7).trans q8).trans q9).trans q10).trans q11).trans q12).trans q13).trans q14).trans q15).trans q16)), (f4_4.keep (((((((((((q5.trans q6).trans q7).trans q8).trans q9).trans q10).trans q11).trans q12).trans q13).trans q14).trans q15).trans q16)), (f4_5.keep (((((((((((q5.trans q6).trans q7).trans q8).trans q9).trans q10).trans q11).trans q12).trans q13).trans q14).trans q15).trans q16)), (f4_6.keep (((((((((((q5.trans q6).trans q7).trans q8).trans q9).trans q10).trans q11).trans q12).trans q13).trans q14).trans q15).trans q16)), (f4_7.keep (((((((((((q5.trans q6).trans q7).trans q8).trans q9).trans q10).trans q11).trans q12).trans q13).trans q14).trans q15).trans q16)), (f4_8.keep (((((((((((q5.trans q6).trans q7).trans q8).trans q9).trans q10).trans q11).trans q12).trans q13).trans q14).trans q15).trans q16)), (f8_0.keep (((((((q9.trans q10).trans q11).trans q12).trans q13).trans q14).trans q15).trans q16)), (f8_1.keep (((((((q9.trans q10).trans q11).trans q12).trans q13).trans q14).trans q15).trans q16)), (f8_2.keep (((((((q9.trans q10).trans q11).trans q12).trans q13).trans q14).trans q15).trans q16)), (f8_3.keep (((((((q9.trans q10).trans q11).trans q12).trans q13).trans q14).trans q15).trans q16)), (f8_4.keep (((((((q9.trans q10).trans q11).trans q12).trans q13).trans q14).trans q15).trans q16)), (f8_5.keep (((((((q9.trans q10).trans q11).trans q12).trans q13).trans q14).trans q15).trans q16)), (f8_6.keep (((((((q9.trans q10).trans q11).trans q12).trans q13).trans q14).trans q15).trans q16)), (f8_7.keep (((((((q9.trans q10).trans q11).trans q12).trans q13).trans q14).trans q15).trans q16)), (f8_8.keep (((((((q9.trans q10).trans q11).trans q12).trans q13).trans q14).trans q15).trans q16)), trivial⟩ (((q14.trans q15).trans q16) _ _ aJ13)
def L_others (cs : Nat → Addr) : List (Addr × List Str) := ([(cs 35, ["index"]), (cs 36, ["index"]), (cs 37, ["hands"]), (cs 38, ["index"]), (cs 39, ["index"]), (cs 40, ["index"]), (cs 41, ["what"]), (cs 42, ["what"]), (cs 43, ["most"]), (cs 44, ["row"]), (cs 45, ["number"]), (cs 46, ["deeds"])] : List (Addr × List Str))
def sp_others (cs : Nat → Addr) : Sp := fun vs H Q _ => ∃ b : Int, vs = [.int b] ∧ ∀ (p l1 l2 : Addr) (as : List Addr) (H' : Hp), Same H H' → H' p = some (.lst [.ref l1, .ref l2]) → H' l1 = some (.lst (as.map V.ref)) → Exs H' [b] as (L_others cs) → H' l2 = some (.lst (List.replicate 12 (.int b))) → Q (.ref p) H'
theorem sc_law_others : FnScope ["_law_a", "_law_one", "_law_kept", "_law_two"] ["_law_a"] (defScope (topS 58)) := ⟨rfl, rfl, rfl, by decide +kernel, rfl, by decide +kernel, by decide +kernel⟩
theorem ok_law_others {f : Addr} {fd : FuncData} (F : Fun K "_law_others" "_law_others" (topS 58) f fd) (M : ∀ k x fs, tab[k]? = some (x, fs) → Mke P w K mg base x (cs k) fs) : FnOk P w K mg base CX0 5 f fd ["_law_a"] (sp_others cs) := by
  refine F.ok sc_law_others (fun vs H Q E h => ?_) (fun cdv A outer s H vs Q E hr h => ?_)
  · obtain ⟨b, rfl, _⟩ := h
    rfl
  · obtain ⟨b, rfl, k⟩ := h
    refine ⟨_, (pss_cons (ps_set (i := 1) sc_law_others.nd rfl (.inl rfl) (pe_lst (pa_cons (pe_newI (M 35 _ _ rfl) (by decide) hr (by decide) rfl (pa_cons (pv 0) pa_nil)) (pa_cons (pe_newI (M 36 _ _ rfl) (by decide) hr (by decide) rfl (pa_cons (pv 0) pa_nil)) (pa_cons (pe_newI (M 37 _ _ rfl) (by decide) hr (by decide) rfl (pa_cons (pv 0) pa_nil)) (pa_cons (pe_newI (M 38 _ _ rfl) (by decide) hr (by decide) rfl (pa_cons (pv 0) pa_nil)) (pa_cons (pe_newI (M 39 _ _ rfl) (by decide) hr (by decide) rfl (pa_cons (pv 0) pa_nil)) (pa_cons (pe_newI (M 40 _ _ rfl) (by decide) hr (by decide) rfl (pa_cons (pv 0) pa_nil)) pa_nil))))))))
      (pss_cons (ps_set (i := 2) sc_law_others.nd rfl (.inl rfl) (pe_lst (pa_cons (pe_exf (pe_ix ix_list (pv 1) pe_int (fun _ _ => rfl))) (pa_cons (pe_exf (pe_ix ix_list (pv 1) pe_int (fun _ _ => rfl))) (pa_cons (pe_exf (pe_ix ix_list (pv 1) pe_int (fun _ _ => rfl))) (pa_cons (pe_exf (pe_ix ix_list (pv 1) pe_int (fun _ _ => rfl))) (pa_cons (pe_exf (pe_ix ix_list (pv 1) pe_int (fun _ _ => rfl))) (pa_cons (pe_exf (pe_ix ix_list (pv 1) pe_int (fun _ _ => rfl))) pa_nil))))))))
      (pss_cons (ps_set (i := 3) sc_law_others.nd rfl (.inl rfl) (pe_lst (pa_cons (pe_newI (M 41 _ _ rfl) (by decide) hr (by decide) rfl (pa_cons (pv 0) pa_nil)) (pa_cons (pe_newI (M 42 _ _ rfl) (by decide) hr (by decide) rfl (pa_cons (pv 0) pa_nil)) (pa_cons (pe_newI (M 43 _ _ rfl) (by decide) hr (by decide) rfl (pa_cons (pv 0) pa_nil)) (pa_cons (pe_newI (M 44 _ _ rfl) (by decide) hr (by decide) rfl (pa_cons (pv 0) pa_nil)) (pa_cons (pe_newI (M 45 _ _ rfl) (by decide) hr (by decide) rfl (pa_cons (pv 0) pa_nil)) (pa_cons (pe_newI (M 46 _ _ rfl) (by decide) hr (by decide) rfl (pa_cons (pv 0) pa_nil)) pa_nil))))))))
      (pss_cons (ps_set (i := 2) sc_law_others.nd rfl (.inl rfl) (pe_op op_cat (pv 2) (pe_lst (pa_cons (pe_exf (pe_ix ix_list (pv 3) pe_int (fun _ _ => rfl))) (pa_cons (pe_exf (pe_ix ix_list (pv 3) pe_int (fun _ _ => rfl))) (pa_cons (pe_exf (pe_ix ix_list (pv 3) pe_int (fun _ _ => rfl))) (pa_cons (pe_exf (pe_ix ix_list (pv 3) pe_int (fun _ _ => rfl))) (pa_cons (pe_exf (pe_ix ix_list (pv 3) pe_int (fun _ _ => rfl))) (pa_cons (pe_exf (pe_ix ix_list (pv 3) pe_int (fun _ _ => rfl))) pa_nil)))))))))
      (pss_one (ps_ret (pe_lst (pa_cons (pe_op op_cat (pv 1) (pv 3)) (pa_cons (pv 2) pa_nil))))))))), ?_⟩
    refine rd_news (ta := tCons (tVar 0) tNil) (is := [b]) (L := ([(cs 35, ["index"]), (cs 36, ["index"]), (cs 37, ["hands"]), (cs 38, ["index"]), (cs 39, ["index"]), (cs 40, ["index"])] : List (Addr × List Str))) (fun H Q h => ⟨_, rfl, h⟩) (by simp) fun as1 J1 q1 x1 => ?_
    obtain ⟨y1_0, as1, rfl, f1_0, x1⟩ := exs_cons x1
    obtain ⟨y1_1, as1, rfl, f1_1, x1⟩ := exs_cons x1
    obtain ⟨y1_2, as1, rfl, f1_2, x1⟩ := exs_cons x1
    obtain ⟨y1_3, as1, rfl, f1_3, x1⟩ := exs_cons x1
    obtain ⟨y1_4, as1, rfl, f1_4, x1⟩ := exs_cons x1
    obtain ⟨y1_5, as1, rfl, f1_5, x1⟩ := exs_cons x1
    have z1 := exs_nil x1
    subst z1
    refine ⟨(by show 6 ≤ sizeLine; decide), fun l2 n2 => ?_⟩
    generalize eJ2 : upd _ l2 _ = J2
    have sJ2 := gs eJ2 n2
    have aJ2 := ga eJ2
    clear eJ2
    have q2 := sJ2
    refine ⟨_, rfl, l2, _, _, _, rfl, rfl, SqL.of aJ2, atI_nat (j := 0) rfl, y1_0, cs 35, _, _, rfl, (f1_0.keep q2), (M 35 _ _ rfl).t, (M 35 _ _ rfl).nf _ (by simp), rfl, _, rfl, l2, _, _, _, rfl, rfl, SqL.of aJ2, atI_nat (j := 1) rfl, y1_1, cs 36, _, _, rfl, (f1_1.keep q2), (M 36 _ _ rfl).t, (M 36 _ _ rfl).nf _ (by simp), rfl, _, rfl, l2, _, _, _, rfl, rfl, SqL.of aJ2, atI_nat (j := 2) rfl, y1_2, cs 37, _, _, rfl, (f1_2.keep q2), (M 37 _ _ rfl).t, (M 37 _ _ rfl).nf _ (by simp), rfl, _, rfl, l2, _, _, _, rfl, rfl, SqL.of aJ2, atI_nat (j := 3) rfl, y1_3, cs 38, _, _, rfl, (f1_3.keep q2), (M 38 _ _ rfl).t, (M 38 _ _ rfl).nf _ (by simp), rfl, _, rfl, l2, _, _, _, rfl, rfl, SqL.of aJ2, atI_nat (j := 4) rfl, y1_4, cs 39, _, _, rfl, (f1_4.keep q2), (M 39 _ _ rfl).t, (M 39 _ _ rfl).nf _ (by simp), rfl, _, rfl, l2, _, _, _, rfl, rfl, SqL.of aJ2, atI_nat (j := 5) rfl, y1_5, cs 40, _, _, rfl, (f1_5.keep q2), (M 40 _ _ rfl).t, (M 40 _ _ rfl).nf _ (by simp), rfl, (by show 6 ≤ sizeLine; decide), fun l3 n3 => ?_⟩
    generalize eJ3 : upd _ l3 _ = J3
    have sJ3 := gs eJ3 n3
    have aJ3 := ga eJ3
    clear eJ3
    have q3 := sJ3
    refine rd_news (ta := tCons (tVar 0) tNil) (is := [b]) (L := ([(cs 41, ["what"]), (cs 42, ["what"]), (cs 43, ["most"]), (cs 44, ["row"]), (cs 45, ["number"]), (cs 46, ["deeds"])] : List (Addr × List Str))) (fun H Q h => ⟨_, rfl, h⟩) (by simp) fun as4 J4 q4 x4 => ?_
    obtain ⟨y4_0, as4, rfl, f4_0, x4⟩ := exs_cons x4
    obtain ⟨y4_1, as4, rfl, f4_1, x4⟩ := exs_cons x4
    obtain ⟨y4_2, as4, rfl, f4_2, x4⟩ := exs_cons x4
    obtain ⟨y4_3, as4, rfl, f4_3, x4⟩ := exs_cons x4
    obtain ⟨y4_4, as4, rfl, f4_4, x4⟩ := exs_cons x4
    obtain ⟨y4_5, as4, rfl, f4_5, x4⟩ := exs_cons x4
    have z4 := exs_nil x4
    subst z4
    refine ⟨(by show 6 ≤ sizeLine; decide), fun l5 n5 => ?_⟩
    generalize eJ5 : upd _ l5 _ = J5
    have sJ5 := gs eJ5 n5
    have aJ5 := ga eJ5
    clear eJ5
    have q5 := sJ5
    refine ⟨_, rfl, ?_⟩
    refine ⟨_, rfl, l5, _, _, _, rfl, rfl, SqL.of aJ5, atI_nat (j := 0) rfl, y4_0, cs 41, _, _, rfl, (f4_0.keep q5), (M 41 _ _ rfl).t, (M 41 _ _ rfl).nf _ (by simp), rfl, _, rfl, l5, _, _, _, rfl, rfl, SqL.of aJ5, atI_nat (j := 1) rfl, y4_1, cs 42, _, _, rfl, (f4_1.keep q5), (M 42 _ _ rfl).t, (M 42 _ _ rfl).nf _ (by simp), rfl, _, rfl, l5, _, _, _, rfl, rfl, SqL.of aJ5, atI_nat (j := 2) rfl, y4_2, cs 43, _, _, rfl, (f4_2.keep q5), (M 43 _ _ rfl).t, (M 43 _ _ rfl).nf _ (by simp), rfl, _, rfl, l5, _, _, _, rfl, rfl, SqL.of aJ5, atI_nat (j := 3) rfl, y4_3, cs 44, _, _, rfl, (f4_3.keep q5), (M 44 _ _ rfl).t, (M 44 _ _ rfl).nf _ (by simp), rfl, _, rfl, l5, _, _, _, rfl, rfl, SqL.of aJ5, atI_nat (j := 4) rfl, y4_4, cs 45, _, _, rfl, (f4_4.keep q5), (M 45 _ _ rfl).t, (M 45 _ _ rfl).nf _ (by simp), rfl, _, rfl, l5, _, _, _, rfl, rfl, SqL.of aJ5, atI_nat (j := 5) rfl, y4_5, cs 46, _, _, rfl, (f4_5.keep q5), (M 46 _ _ rfl).t, (M 46 _ _ rfl).nf _ (by simp), rfl, (by show 6 ≤ sizeLine; decide), fun l6 n6 => ?_⟩
    generalize eJ6 : upd _ l6 _ = J6
    have sJ6 := gs eJ6 n6
    have aJ6 := ga eJ6
    clear eJ6
    have q6 := sJ6
    refine ⟨l3, l6, _, _, rfl, rfl, (((q4.trans q5).trans q6) _ _ aJ3), aJ6, (by show 12 ≤ sizeLine; decide), fun l7 n7 => ?_⟩
    generalize eJ7 : upd _ l7 _ = J7
    have sJ7 := gs eJ7 n7
    have aJ7 := ga eJ7
    clear eJ7
    have q7 := sJ7
    refine ⟨_, rfl, _, rfl, l2, l5, _, _, rfl, rfl, (((((q3.trans q4).trans q5).trans q6).trans q7) _ _ aJ2), ((q6.trans q7) _ _ aJ5), (by show 12 ≤ sizeLine; decide), fun l8 n8 => ?_⟩
    generalize eJ8 : upd _ l8 _ = J8
    have sJ8 := gs eJ8 n8
    have aJ8 := ga eJ8
    clear eJ8
    have q8 := sJ8
    refine ⟨_, rfl, (by show 2 ≤ sizeLine; decide), fun l9 n9 => ?_⟩
    generalize eJ9 : upd _ l9 _ = J9
    have sJ9 := gs eJ9 n9
    have aJ9 := ga eJ9
    clear eJ9
    have q9 := sJ9
    exact k l9 l8 l7 [y1_0, y1_1, y1_2, y1_3, y1_4, y1_5, y4_0, y4_1, y4_2, y4_3, y4_4, y4_5] _ ((((((((q1.trans q2).trans q3).trans q4).trans q5).trans q6).trans q7).trans q8).trans q9) aJ9 (q9 _ _ aJ8) ⟨(f1_0.keep (((((((q2.trans q3).trans q4).trans q5).trans q6).trans q7).trans q8).trans q9)), (f1_1.keep (((((((q2.trans q3).trans q4).trans q5).trans q6).trans q7).trans q8).trans q9)), (f1_2.keep (((((((q2.trans q3).trans q4).trans q5).trans q6).trans q7).trans q8).trans q9)), (f1_3.keep (((((((q2.trans q3).trans q4).trans q5).trans q6).trans q7).trans q8).trans q9)), (f1_4.keep (((((((q2.trans q3).trans q4).trans q5).trans q6).trans q7).trans q8).trans q9)), (f1_5.keep (((((((q2.trans q3).trans q4).trans q5).trans q6).trans q7).trans q8).trans q9)), (f4_0.keep ((((q5.trans q6).trans q7).trans q8).trans q9)), (f4_1.keep ((((q5.trans q6).trans q7).trans q8).trans q9)), (f4_2.keep ((((q5.trans q6).trans q7).trans q8).trans q9)), (f4_3.keep ((((q5.trans q6).trans q7).trans q8).trans q9)), (f4_4.keep ((((q5.trans q6).trans q7).trans q8).trans q9)), (f4_5.keep ((((q5.trans q6).trans q7).trans q8).trans q9)), trivial⟩ ((q8.trans q9) _ _ aJ7)
def L_pairs (cs : Nat → Addr) : List (Addr × List Str) := ([(cs 0, ["index", "what"]), (cs 1, ["what", "index"]), (cs 2, ["what", "index"]), (cs 3, ["what", "index"]), (cs 4, ["index", "what"]), (cs 5, ["kind", "hand"]), (cs 6, ["index", "what"]), (cs 7, ["index", "what"])] : List (Addr × List Str))
def sp_pairs (cs : Nat → Addr) : Sp := fun vs H Q _ => ∃ a b : Int, vs = [.int a, .int b] ∧ ∀ (p l1 l2 : Addr) (as ts : List Addr) (H' : Hp), Same H H' → H' p = some (.lst [.ref l1, .ref l2]) → H' l1 = some (.lst (as.map V.ref)) → Exs H' [a, b] as (L_pairs cs) → H' l2 = some (.lst (ts.map V.ref)) → Tups H' a b ts → ts.length = 8 → Q (.ref p) H'
theorem sc_law_pairs : FnScope ["_law_a", "_law_b", "_law_one", "_law_kept", "_law_two"] ["_law_a", "_law_b"] (defScope (topS 56)) := ⟨rfl, rfl, rfl, by decide +kernel, rfl, by decide +kernel, by decide +kernel⟩
theorem ok_law_pairs {f : Addr} {fd : FuncData} (F : Fun K "_law_pairs" "_law_pairs" (topS 56) f fd) (M : ∀ k x fs, tab[k]? = some (x, fs) → Mke P w K mg base x (cs k) fs) : FnOk P w K mg base CX0 5 f fd ["_law_a", "_law_b"] (sp_pairs cs) := by
  refine F.ok sc_law_pairs (fun vs H Q E h => ?_) (fun cdv A outer s H vs Q E hr h => ?_)
  · obtain ⟨a, b, rfl, _⟩ := h
    rfl
  · obtain ⟨a, b, rfl, k⟩ := h
    refine ⟨_, (pss_cons (ps_set (i := 2) sc_law_pairs.nd rfl (.inl rfl) (pe_lst (pa_cons (pe_newI (M 0 _ _ rfl) (by decide) hr (by decide) rfl (pa_cons (pv 0) (pa_cons (pv 1) pa_nil))) (pa_cons (pe_newI (M 1 _ _ rfl) (by decide) hr (by decide) rfl (pa_cons (pv 0) (pa_cons (pv 1) pa_nil))) (pa_cons (pe_newI (M 2 _ _ rfl) (by decide) hr (by decide) rfl (pa_cons (pv 0) (pa_cons (pv 1) pa_nil))) (pa_cons (pe_newI (M 3 _ _ rfl) (by decide) hr (by decide) rfl (pa_cons (pv 0) (pa_cons (pv 1) pa_nil))) pa_nil))))))
      (pss_cons (ps_set (i := 3) sc_law_pairs.nd rfl (.inl rfl) (pe_lst (pa_cons (pe_tup (pa_cons (pe_exf (pe_ix ix_list (pv 2) pe_int (fun _ _ => rfl))) (pa_cons (pe_exf (pe_ix ix_list (pv 2) pe_int (fun _ _ => rfl))) pa_nil))) (pa_cons (pe_tup (pa_cons (pe_exf (pe_ix ix_list (pv 2) pe_int (fun _ _ => rfl))) (pa_cons (pe_exf (pe_ix ix_list (pv 2) pe_int (fun _ _ => rfl))) pa_nil))) (pa_cons (pe_tup (pa_cons (pe_exf (pe_ix ix_list (pv 2) pe_int (fun _ _ => rfl))) (pa_cons (pe_exf (pe_ix ix_list (pv 2) pe_int (fun _ _ => rfl))) pa_nil))) (pa_cons (pe_tup (pa_cons (pe_exf (pe_ix ix_list (pv 2) pe_int (fun _ _ => rfl))) (pa_cons (pe_exf (pe_ix ix_list (pv 2) pe_int (fun _ _ => rfl))) pa_nil))) pa_nil))))))
      (pss_cons (ps_set (i := 4) sc_law_pairs.nd rfl (.inl rfl) (pe_lst (pa_cons (pe_newI (M 4 _ _ rfl) (by decide) hr (by decide) rfl (pa_cons (pv 0) (pa_cons (pv 1) pa_nil))) (pa_cons (pe_newI (M 5 _ _ rfl) (by decide) hr (by decide) rfl (pa_cons (pv 0) (pa_cons (pv 1) pa_nil))) (pa_cons (pe_newI (M 6 _ _ rfl) (by decide) hr (by decide) rfl (pa_cons (pv 0) (pa_cons (pv 1) pa_nil))) (pa_cons (pe_newI (M 7 _ _ rfl) (by decide) hr (by decide) rfl (pa_cons (pv 0) (pa_cons (pv 1) pa_nil))) pa_nil))))))
      (pss_cons (ps_set (i := 3) sc_law_pairs.nd rfl (.inl rfl) (pe_op op_cat (pv 3) (pe_lst (pa_cons (pe_tup (pa_cons (pe_exf (pe_ix ix_list (pv 4) pe_int (fun _ _ => rfl))) (pa_cons (pe_exf (pe_ix ix_list (pv 4) pe_int (fun _ _ => rfl))) pa_nil))) (pa_cons (pe_tup (pa_cons (pe_exf (pe_ix ix_list (pv 4) pe_int (fun _ _ => rfl))) (pa_cons (pe_exf (pe_ix ix_list (pv 4) pe_int (fun _ _ => rfl))) pa_nil))) (pa_cons (pe_tup (pa_cons (pe_exf (pe_ix ix_list (pv 4) pe_int (fun _ _ => rfl))) (pa_cons (pe_exf (pe_ix ix_list (pv 4) pe_int (fun _ _ => rfl))) pa_nil))) (pa_cons (pe_tup (pa_cons (pe_exf (pe_ix ix_list (pv 4) pe_int (fun _ _ => rfl))) (pa_cons (pe_exf (pe_ix ix_list (pv 4) pe_int (fun _ _ => rfl))) pa_nil))) pa_nil)))))))
      (pss_one (ps_ret (pe_lst (pa_cons (pe_op op_cat (pv 2) (pv 4)) (pa_cons (pv 3) pa_nil))))))))), ?_⟩
    refine rd_news (ta := tCons (tVar 0) (tCons (tVar 1) tNil)) (is := [a, b]) (L := ([(cs 0, ["index", "what"]), (cs 1, ["what", "index"]), (cs 2, ["what", "index"]), (cs 3, ["what", "index"])] : List (Addr × List Str))) (fun H Q h => ⟨_, rfl, _, rfl, h⟩) (by simp) fun as1 J1 q1 x1 => ?_
    obtain ⟨y1_0, as1, rfl, f1_0, x1⟩ := exs_cons x1
    obtain ⟨y1_1, as1, rfl, f1_1, x1⟩ := exs_cons x1
    obtain ⟨y1_2, as1, rfl, f1_2, x1⟩ := exs_cons x1
    obtain ⟨y1_3, as1, rfl, f1_3, x1⟩ := exs_cons x1
    have z1 := exs_nil x1
    subst z1
    refine ⟨(by show 4 ≤ sizeLine; decide), fun l2 n2 => ?_⟩
    generalize eJ2 : upd _ l2 _ = J2
    have sJ2 := gs eJ2 n2
    have aJ2 := ga eJ2
    clear eJ2
    have q2 := sJ2
    refine ⟨_, rfl, l2, _, _, _, rfl, rfl, SqL.of aJ2, atI_nat (j := 0) rfl, y1_0, cs 0, _, _, rfl, (f1_0.keep q2), (M 0 _ _ rfl).t, (M 0 _ _ rfl).nf _ (by simp), rfl, _, rfl, l2, _, _, _, rfl, rfl, SqL.of aJ2, atI_nat (j := 0) rfl, y1_0, cs 0, _, _, rfl, (f1_0.keep q2), (M 0 _ _ rfl).t, (M 0 _ _ rfl).nf _ (by simp), rfl, (by show 2 ≤ sizeLine; decide), fun l3 n3 => ?_⟩
    generalize eJ3 : upd _ l3 _ = J3
    have sJ3 := gs eJ3 n3
    have aJ3 := ga eJ3
    clear eJ3
    have q3 := sJ3
    refine ⟨_, rfl, l2, _, _, _, rfl, rfl, SqL.of (q3 _ _ aJ2), atI_nat (j := 1) rfl, y1_1, cs 1, _, _, rfl, (f1_1.keep (q2.trans q3)), (M 1 _ _ rfl).t, (M 1 _ _ rfl).nf _ (by simp), rfl, _, rfl, l2, _, _, _, rfl, rfl, SqL.of (q3 _ _ aJ2), atI_nat (j := 1) rfl, y1_1, cs 1, _, _, rfl, (f1_1.keep (q2.trans q3)), (M 1 _ _ rfl).t, (M 1 _ _ rfl).nf _ (by simp), rfl, (by show 2 ≤ sizeLine; decide), fun l4 n4 => ?_⟩
    generalize eJ4 : upd _ l4 _ = J4
    have sJ4 := gs eJ4 n4
    have aJ4 := ga eJ4
    clear eJ4
    have q4 := sJ4
    refine ⟨_, rfl, l2, _, _, _, rfl, rfl, SqL.of ((q3.trans q4) _ _ aJ2), atI_nat (j := 2) rfl, y1_2, cs 2, _, _, rfl, (f1_2.keep ((q2.trans q3).trans q4)), (M 2 _ _ rfl).t, (M 2 _ _ rfl).nf _ (by simp), rfl, _, rfl, l2, _, _, _, rfl, rfl, SqL.of ((q3.trans q4) _ _ aJ2), atI_nat (j := 2) rfl, y1_2, cs 2, _, _, rfl, (f1_2.keep ((q2.trans q3).trans q4)), (M 2 _ _ rfl).t, (M 2 _ _ rfl).nf _ (by simp), rfl, (by show 2 ≤ sizeLine; decide), fun l5 n5 => ?_⟩
    generalize eJ5 : upd _ l5 _ = J5
    have sJ5 := gs eJ5 n5
    have aJ5 := ga eJ5
    clear eJ5
    have q5 := sJ5
    refine ⟨_, rfl, l2, _, _, _, rfl, rfl, SqL.of (((q3.trans q4).trans q5) _ _ aJ2), atI_nat (j := 3) rfl, y1_3, cs 3, _, _, rfl, (f1_3.keep (((q2.trans q3).trans q4).trans q5)), (M 3 _ _ rfl).t, (M 3 _ _ rfl).nf _ (by simp), rfl, _, rfl, l2, _, _, _, rfl, rfl, SqL.of (((q3.trans q4).trans q5) _ _ aJ2), atI_nat (j := 3) rfl, y1_3, cs 3, _, _, rfl, (f1_3.keep (((q2.trans q3).trans q4).trans q5)), (M 3 _ _ rfl).t, (M 3 _ _ rfl).nf _ (by simp), rfl, (by show 2 ≤ sizeLine; decide), fun l6 n6 => ?_⟩
    generalize eJ6 : upd _ l6 _ = J6
    have sJ6 := gs eJ6 n6
    have aJ6 := ga eJ6
    clear eJ6
    have q6 := sJ6
    refine ⟨(by show 4 ≤ sizeLine; decide), fun l7 n7 => ?_⟩
    generalize eJ7 : upd _ l7 _ = J7
    have sJ7 := gs eJ7 n7
    have aJ7 := ga eJ7
    clear eJ7
    have q7 := sJ7
    refine rd_news (ta := tCons (tVar 0) (tCons (tVar 1) tNil)) (is := [a, b]) (L := ([(cs 4, ["index", "what"]), (cs 5, ["kind", "hand"]), (cs 6, ["index", "what"]), (cs 7, ["index", "what"])] : List (Addr × List Str))) (fun H Q h => ⟨_, rfl, _, rfl, h⟩) (by simp) fun as8 J8 q8 x8 => ?_
    obtain ⟨y8_0, as8, rfl, f8_0, x8⟩ := exs_cons x8
    obtain ⟨y8_1, as8, rfl, f8_1, x8⟩ := exs_cons x8
    obtain ⟨y8_2, as8, rfl, f8_2, x8⟩ := exs_cons x8
    obtain ⟨y8_3, as8, rfl, f8_3, x8⟩ := exs_cons x8
    have z8 := exs_nil x8
    subst z8
    refine ⟨(by show 4 ≤ sizeLine; decide), fun l9 n9 => ?_⟩
    generalize eJ9 : upd _ l9 _ = J9
    have sJ9 := gs eJ9 n9
    have aJ9 := ga eJ9
    clear eJ9
    have q9 := sJ9
    refine ⟨_, rfl, ?_⟩
    refine ⟨_, rfl, l9, _, _, _, rfl, rfl, SqL.of aJ9, atI_nat (j := 0) rfl, y8_0, cs 4, _, _, rfl, (f8_0.keep q9), (M 4 _ _ rfl).t, (M 4 _ _ rfl).nf _ (by simp), rfl, _, rfl, l9, _, _, _, rfl, rfl, SqL.of aJ9, atI_nat (j := 0) rfl, y8_0, cs 4, _, _, rfl, (f8_0.keep q9), (M 4 _ _ rfl).t, (M 4 _ _ rfl).nf _ (by simp), rfl, (by show 2 ≤ sizeLine; decide), fun l10 n10 => ?_⟩
    generalize eJ10 : upd _ l10 _ = J10
    have sJ10 := gs eJ10 n10
    have aJ10 := ga eJ10
    clear eJ10
    have q10 := sJ10
    refine ⟨_, rfl, l9, _, _, _, rfl, rfl, SqL.of (q10 _ _ aJ9), atI_nat (j := 1) rfl, y8_1, cs 5, _, _, rfl, (f8_1.keep (q9.trans q10)), (M 5 _ _ rfl).t, (M 5 _ _ rfl).nf _ (by simp), rfl, _, rfl, l9, _, _, _, rfl, rfl, SqL.of (q10 _ _ aJ9), atI_nat (j := 1) rfl, y8_1, cs 5, _, _, rfl, (f8_1.keep (q9.trans q10)), (M 5 _ _ rfl).t, (M 5 _ _ rfl).nf _ (by simp), rfl, (by show 2 ≤ sizeLine; decide), fun l11 n11 => ?_⟩
    generalize eJ11 : upd _ l11 _ = J11
    have sJ11 := gs eJ11 n11
    have aJ11 := ga eJ11
    clear eJ11
    have q11 := sJ11
    refine ⟨_, rfl, l9, _, _, _, rfl, rfl, SqL.of ((q10.trans q11) _ _ aJ9), atI_nat (j := 2) rfl, y8_2, cs 6, _, _, rfl, (f8_2.keep ((q9.trans q10).trans q11)), (M 6 _ _ rfl).t, (M 6 _ _ rfl).nf _ (by simp), rfl, _, rfl, l9, _, _, _, rfl, rfl, SqL.of ((q10.trans q11) _ _ aJ9), atI_nat (j := 2) rfl, y8_2, cs 6, _, _, rfl, (f8_2.keep ((q9.trans q10).trans q11)), (M 6 _ _ rfl).t, (M 6 _ _ rfl).nf _ (by simp), rfl, (by show 2 ≤ sizeLine; decide), fun l12 n12 => ?_⟩
    generalize eJ12 : upd _ l12 _ = J12
    have sJ12 := gs eJ12 n12
    have aJ12 := ga eJ12
    clear eJ12
    have q12 := sJ12
    refine ⟨_, rfl, l9, _, _, _, rfl, rfl, SqL.of (((q10.trans q11).trans q12) _ _ aJ9), atI_nat (j := 3) rfl, y8_3, cs 7, _, _, rfl, (f8_3.keep (((q9.trans q10).trans q11).trans q12)), (M 7 _ _ rfl).t, (M 7 _ _ rfl).nf _ (by simp), rfl, _, rfl, l9, _, _, _, rfl, rfl, SqL.of (((q10.trans q11).trans q12) _ _ aJ9), atI_nat (j := 3) rfl, y8_3, cs 7, _, _, rfl, (f8_3.keep (((q9.trans q10).trans q11).trans q12)), (M 7 _ _ rfl).t, (M 7 _ _ rfl).nf _ (by simp), rfl, (by show 2 ≤ sizeLine; decide), fun l13 n13 => ?_⟩
    generalize eJ13 : upd _ l13 _ = J13
    have sJ13 := gs eJ13 n13
    have aJ13 := ga eJ13
    clear eJ13
    have q13 := sJ13
    refine ⟨(by show 4 ≤ sizeLine; decide), fun l14 n14 => ?_⟩
    generalize eJ14 : upd _ l14 _ = J14
    have sJ14 := gs eJ14 n14
    have aJ14 := ga eJ14
    clear eJ14
    have q14 := sJ14
    refine ⟨l7, l14, _, _, rfl, rfl, (((((((q8.trans q9).trans q10).trans q11).trans q12).trans q13).trans q14) _ _ aJ7), aJ14, (by show 8 ≤ sizeLine; decide), fun l15 n15 => ?_⟩
    generalize eJ15 : upd _ l15 _ = J15
    have sJ15 := gs eJ15 n15
    have aJ15 := ga eJ15
    clear eJ15
    have q15 := sJ15
    refine ⟨_, rfl, _, rfl, l2, l9, _, _, rfl, rfl, (((((((((((((q3.trans q4).trans q5).trans q6).trans q7).trans q8).trans q9).trans q10).trans q11).trans q12).trans q13).trans q14).trans q15) _ _ aJ2), ((((((q10.trans q11).trans q12).trans q13).trans q14).trans q15) _ _ aJ9), (by show 8 ≤ sizeLine; decide), fun l16 n16 => ?_⟩
    generalize eJ16 : upd _ l16 _ = J16
    have sJ16 := gs eJ16 n16
    have aJ16 := ga eJ16
    clear eJ16
    have q16 := sJ16
    refine ⟨_, rfl, (by show 2 ≤ sizeLine; decide), fun l17 n17 => ?_⟩
    generalize eJ17 : upd _ l17 _ = J17
    have sJ17 := gs eJ17 n17
    have aJ17 := ga eJ17
    clear eJ17
    have q17 := sJ17
    exact k l17 l16 l15 [y1_0, y1_1, y1_2, y1_3, y8_0, y8_1, y8_2, y8_3] [l3, l4, l5, l6, l10, l11, l12, l13] _ ((((((((((((((((q1.trans q2).trans q3).trans q4).trans q5).trans q6).trans q7).trans q8).trans q9).trans q10).trans q11).trans q12).trans q13).trans q14).trans q15).trans q16).trans q17) aJ17 (q17 _ _ aJ16) ⟨(f1_0.keep (((((((((((((((q2.trans q3).trans q4).trans q5).trans q6).trans q7).trans q8).trans q9).trans q10).trans q11).trans q12).trans q13).trans q14).trans q15).trans q16).trans q17)), (f1_1.keep (((((((((((((((q2.trans q3).trans q4).trans q5).trans q6).trans q7).trans q8).trans q9).trans q10).trans q11).trans q12).trans q13).trans q14).trans q15).trans q16).trans q17)), (f1_2.keep (((((((((((((((q2.trans q3).trans q4).trans q5).trans q6).trans q7).trans q8).trans q9).trans q10).trans q11).trans q12).trans q13).trans q14).trans q15).trans q16).trans q17)), (f1_3.keep (((((((((((((((q2.trans q3).trans q4).trans q5).trans q6).trans q7).trans q8).trans q9).trans q10).trans q11).trans q12).trans q13).trans q14).trans q15).trans q16).trans q17)), (f8_0.keep ((((((((q9.trans q10).trans q11).trans q12).trans q13).trans q14).trans q15).trans q16).trans q17)), (f8_1.keep ((((((((q9.trans q10).trans q11).trans q12).trans q13).trans q14).trans q15).trans q16).trans q17)), (f8_2.keep ((((((((q9.trans q10).trans q11).trans q12).trans q13).trans q14).trans q15).trans q16).trans q17)), (f8_3.keep ((((((((q9.trans q10).trans q11).trans q12).trans q13).trans q14).trans q15).trans q16).trans q17)), trivial⟩ ((q16.trans q17) _ _ aJ15) ⟨((((((((((((((q4.trans q5).trans q6).trans q7).trans q8).trans q9).trans q10).trans q11).trans q12).trans q13).trans q14).trans q15).trans q16).trans q17) _ _ aJ3), (((((((((((((q5.trans q6).trans q7).trans q8).trans q9).trans q10).trans q11).trans q12).trans q13).trans q14).trans q15).trans q16).trans q17) _ _ aJ4), ((((((((((((q6.trans q7).trans q8).trans q9).trans q10).trans q11).trans q12).trans q13).trans q14).trans q15).trans q16).trans q17) _ _ aJ5), (((((((((((q7.trans q8).trans q9).trans q10).trans q11).trans q12).trans q13).trans q14).trans q15).trans q16).trans q17) _ _ aJ6), (((((((q11.trans q12).trans q13).trans q14).trans q15).trans q16).trans q17) _ _ aJ10), ((((((q12.trans q13).trans q14).trans q15).trans q16).trans q17) _ _ aJ11), (((((q13.trans q14).trans q15).trans q16).trans q17) _ _ aJ12), ((((q14.trans q15).trans q16).trans q17) _ _ aJ13), trivial⟩ rfl
end
end My
set_option Elab.async false
set_option linter.all false
set_option maxRecDepth 100000
set_option maxHeartbeats 4000000
namespace My
open PySem PySem.Spec PyProof.Rows L2
theorem lt8000 {m : Int} (h : m.natAbs < 2 ^ 64) : m.natAbs < 2 ^ 8000 := Nat.lt_of_lt_of_le h (Nat.pow_le_pow_right (by decide) (by decide))
/-- every one of these objects is an exception, of the classes in their order from n on -/
def AllE (cs : Nat → Addr) (H : Hp) (n : Nat) (as : List Addr) : Prop := ∀ j a, as[j]? = some a → ∃ fs, ExAt H a (cs (n + j)) fs
theorem AllE.keep {cs : Nat → Addr} {H H' : Hp} {n : Nat} {as : List Addr} (h : AllE cs H n as) (s : Same H H') : AllE cs H' n as := fun j a e => by
  obtain ⟨fs, q⟩ := h j a e
  exact ⟨fs, q.keep s⟩
theorem AllE.app {cs : Nat → Addr} {H : Hp} {n : Nat} {as bs : List Addr} (h : AllE cs H n as) (g : AllE cs H (n + as.length) bs) : AllE cs H n (as ++ bs) := fun j a e => by
  by_cases hj : j < as.length
  · rw [List.getElem?_append_left hj] at e
    exact h j a e
  · rw [List.getElem?_append_right (by omega)] at e
    obtain ⟨fs, q⟩ := g _ a e
    exact ⟨fs, by rw [show n + as.length + (j - as.length) = n + j by omega] at q; exact q⟩
theorem allE_of {cs : Nat → Addr} {H : Hp} {n : Nat} {as : List Addr} {is : List Int} {L : List (Addr × List Str)} (ex : Exs H is as L) (hL : L.map (·.1) = (List.range L.length).map fun k => cs (n + k)) : AllE cs H n as := fun j a e => by
  obtain ⟨p, hp, q⟩ := exs_at ex e
  have hj : j < L.length := (List.getElem?_eq_some_iff.mp hp).1
  have z : (L.map (·.1))[j]? = some p.1 := by rw [List.getElem?_map, hp]; rfl
  rw [hL, List.getElem?_map, List.getElem?_range hj] at z
  have z2 : cs (n + j) = p.1 := Option.some.inj z
  exact ⟨_, by rw [z2]; exact q⟩
theorem tups_at {H : Hp} {a b : Int} : ∀ {ts : List Addr} {i : Nat} {t : Addr}, Tups H a b ts → ts[i]? = some t → H t = some (.tup [.int a, .int b])
  | [], _, _, _, e => by simp at e
  | t :: ts, 0, u, h, e => by
    have z : t = u := Option.some.inj e
    rw [← z]
    exact h.1
  | t :: ts, i + 1, u, h, e => tups_at (i := i) h.2 e
theorem map_ref {as : List Addr} {i : Nat} {x : V} (h : (as.map V.ref)[i]? = some x) : ∃ a, x = V.ref a ∧ as[i]? = some a := by
  rw [List.getElem?_map] at h
  cases e : as[i]? with
  | none =>
    rw [e] at h
    cases h
  | some a =>
    rw [e] at h
    exact ⟨a, (Option.some.inj h).symm, rfl⟩
/-- a list that was new at D may be stored to: all that stood ahead of it stays -/
theorem same_but {J H2 : Hp} {D : Addr} {o : HO} (s : Same J H2) (n : J D = none) : Same J (upd H2 D o) := fun b u e => by
  rw [upd_ne (ne_of_none e n)]
  exact s _ _ e
theorem dpBools {K : PySem.W.Frag} {H : Hp} (f : Nat → Bool) : ∀ l : List Nat, DpAll K H (l.map fun j => V.bl (f j)) (l.map fun j => PyData.bool (f j))
  | [] => .nil
  | j :: l => .cons (.bl _) (dpBools f l)
def rowD (i : Nat) : PyData := .list ((List.range 47).map fun j => .bool (decide (i = j)))
theorem rowD_shaped (i : Nat) : SeqAt.shaped (rowD i) = true := rfl
theorem rowD_refl (i : Nat) : PyData.eqv (rowD i) (rowD i) = true := SeqAt.eqv_refl_plain _ rfl
def cnt (i : Nat) : Nat := if i = 0 then 8 else if i = 1 then 35 else 47
section
variable {P : Program} {w : World} {K : PySem.W.Frag} {mg : Str → Option Value} {base : Heap} {cs : Nat → Addr} {DE : Addr}
def spLaw (K : PySem.W.Frag) : Sp := fun vs H Q _ => ∃ (a : Addr) (ns : List Int), vs = [.ref a] ∧ SqL K H a (ns.map V.int) ∧ ns.length ≤ 63 ∧ ∀ H', Q (.bl true) H'
theorem scLaw : FnScope ["_law_script", "_law_hand_here", "_law_a", "_law_b", "_law_pairs_here", "_law_found", "_law_part", "_law_at", "_law_kept", "_law_other"] ["_law_script"] (defScope (topS 60)) := ⟨rfl, rfl, rfl, by decide +kernel, rfl, by decide +kernel, by decide +kernel⟩
theorem ok_law {f : Addr} {fd : FuncData} (F : Fun K "law" "law" (topS 60) f fd) (mS : mg "isinstance" = none) (mL : mg "len" = none) (mR : mg "range" = none) (mV : mg "ValueError" = none) (gDE : mg "DealError" = some (.ref DE))
    (T : ∀ i, i < 47 → ExT K (cs i)) (kD : ∀ i, i < 47 → PySem.W.kitOne K (.ref (cs i)) (.ref DE) = some true) (kV : ∀ i, i < 47 → PySem.W.kitOne K (.ref (cs i)) (.type "ValueError") = some true)
    (cHand : Cal P w K mg base 1 "_law_hand" (spHand K)) (cTake : Cal P w K mg base 2 "_law_take" spTake) (cPairs : Cal P w K mg base 5 "_law_pairs" (sp_pairs cs)) (cSingles : Cal P w K mg base 5 "_law_singles" (sp_singles cs)) (cOthers : Cal P w K mg base 5 "_law_others" (sp_others cs)) (cClasses : Cal P w K mg base 1 "_law_classes" (spClasses cs)) :
    FnOk P w K mg base CX0 6 f fd ["_law_script"] (spLaw K) := by
  refine F.ok scLaw (fun vs H Q E h => ?_) (fun cdv A outer s H vs Q E hr h => ?_)
  · obtain ⟨a, ns, rfl, _⟩ := h
    rfl
  · obtain ⟨s0, ns, rfl, hS, h63, k⟩ := h
    refine ⟨_, (pss_cons (ps_set (i := 1) scLaw.nd rfl (.inl rfl) (pe_c cHand hr (by decide) rfl (pa_cons (pv 0) pa_nil)))
      (pss_cons (ps_set (i := 2) scLaw.nd rfl (.inr rfl) (pe_op op_add (pe_op op_mul (pe_c cTake hr (by decide) rfl (pa_cons (pv 1) (pa_cons (pe_op op_pow pe_int pe_int) pa_nil))) (pe_op op_pow pe_int pe_int)) (pe_c cTake hr (by decide) rfl (pa_cons (pv 1) (pa_cons (pe_op op_pow pe_int pe_int) pa_nil)))))
      (pss_cons (ps_set (i := 3) scLaw.nd rfl (.inr rfl) (pe_op op_add (pe_op op_add (pv 2) pe_int) (pe_c cTake hr (by decide) rfl (pa_cons (pv 1) (pa_cons (pe_op op_pow pe_int pe_int) pa_nil)))))
      (pss_cons (ps_set (i := 4) scLaw.nd rfl (.inl rfl) (pe_c cPairs hr (by decide) rfl (pa_cons (pv 2) (pa_cons (pv 3) pa_nil))))
      (pss_cons (ps_if (PW.pt (pw_or (pt_truth (pe_lc (own := [("_law_kept", 8)]) (g := gName 8) rfl scLaw.nd (pi_list (pe_ix ix_list (pv 4) pe_int (fun _ _ => rfl))) (blkOk_by (N := ["_law_script", "_law_hand_here", "_law_a", "_law_b", "_law_pairs_here", "_law_found", "_law_part", "_law_at", "_law_kept", "_law_other"]) (sc := defScope (topS 60)) (by decide +kernel)) (fun _ _ _ _ _ => pg_name (i := 8) scLaw.nd rfl (Or.inl rfl)) (fun _ _ _ _ _ => (pts_one (pt_cmpR (show OpR _ (compareOp .NotEq) (rNeD K) from op_neD hr.units) (pv 8) (pe_tup (pa_cons (pv 2) (pa_cons (pv 3) pa_nil))) (nomark _)))) (fun _ _ _ _ _ => (pv 8))) (by intro _; rfl)) (pw_or1 (pt_cmpR op_ne (pe_callB call_len_seq (by rfl) mL PySem.boot_len (pa_cons (pe_ix ix_list (pv 4) pe_int (fun _ _ => rfl)) pa_nil)) (pe_callB call_len_seq (by rfl) mL PySem.boot_len (pa_cons (pe_ix ix_list (pv 4) pe_int (fun _ _ => rfl)) pa_nil)) (nomark _))))) (pss_one (ps_ret pe_bl)) pss_nil)
      (pss_cons (ps_set (i := 5) scLaw.nd rfl (.inl rfl) (pe_ix ix_list (pv 4) pe_int (fun _ _ => rfl)))
      (pss_cons (ps_for PassesOwn.never rfl (pi_list (pe_lst (pa_cons (pe_c cSingles hr (by decide) rfl (pa_cons (pv 3) pa_nil)) (pa_cons (pe_c cOthers hr (by decide) rfl (pa_cons (pv 3) pa_nil)) pa_nil)))) (pg_name (i := 6) scLaw.nd rfl (.inl rfl)) (pss_cons (ps_if (PW.pt (pw_or (pt_truth (pe_lc (own := [("_law_kept", 8)]) (g := gName 8) rfl scLaw.nd (pi_list (pe_ix ix_list (pv 6) pe_int (fun _ _ => rfl))) (blkOk_by (N := ["_law_script", "_law_hand_here", "_law_a", "_law_b", "_law_pairs_here", "_law_found", "_law_part", "_law_at", "_law_kept", "_law_other"]) (sc := defScope (topS 60)) (by decide +kernel)) (fun _ _ _ _ _ => pg_name (i := 8) scLaw.nd rfl (Or.inl rfl)) (fun _ _ _ _ _ => (pts_one (pt_cmpR op_ne (pv 8) (pv 3) (nomark _)))) (fun _ _ _ _ _ => (pv 8))) (by intro _; rfl)) (pw_or1 (pt_cmpR op_ne (pe_callB call_len_seq (by rfl) mL PySem.boot_len (pa_cons (pe_ix ix_list (pv 6) pe_int (fun _ _ => rfl)) pa_nil)) (pe_callB call_len_seq (by rfl) mL PySem.boot_len (pa_cons (pe_ix ix_list (pv 6) pe_int (fun _ _ => rfl)) pa_nil)) (nomark _))))) (pss_one (ps_ret pe_bl)) pss_nil) (pss_one (ps_set (i := 5) scLaw.nd rfl (.inl rfl) (pe_op op_cat (pv 5) (pe_ix ix_list (pv 6) pe_int (fun _ _ => rfl)))))))
      (pss_cons (ps_for PassesOwn.never rfl (pi_range1 (by rfl) mR (pa_cons (pe_callB call_len_seq (by rfl) mL PySem.boot_len (pa_cons (pv 5) pa_nil)) pa_nil)) (pg_name (i := 7) scLaw.nd rfl (.inr rfl)) (pss_cons (ps_if (PW.pt (pw_or (pt_not (pt_val (pe_callB call_isV (by rfl) mS (by decide +kernel) (pa_cons (pe_ix ix_list (pv 5) (pv 7) (fun _ _ => rfl)) (pa_cons (pe_glob (v := .ref DE) (by rfl) gDE rfl) pa_nil))))) (pw_or1 (pt_not (pt_val (pe_callB call_isV (by rfl) mS (by decide +kernel) (pa_cons (pe_ix ix_list (pv 5) (pv 7) (fun _ _ => rfl)) (pa_cons (pe_bltn (v := .ty "ValueError") (by rfl) mV (by decide +kernel) rfl) pa_nil)))))))) (pss_one (ps_ret pe_bl)) pss_nil) (pss_one (ps_if (pt_cmpR (op_neD hr.units) (pe_c cClasses hr (by decide) rfl (pa_cons (pe_ix ix_list (pv 5) (pv 7) (fun _ _ => rfl)) pa_nil)) (pe_lc (own := [("_law_other", 9)]) (g := gName 9) (tt := tYes) rfl scLaw.nd (pi_range1 (by rfl) mR (pa_cons (pe_callB call_len_seq (by rfl) mL PySem.boot_len (pa_cons (pv 5) pa_nil)) pa_nil)) (blkOk_by (N := ["_law_script", "_law_hand_here", "_law_a", "_law_b", "_law_pairs_here", "_law_found", "_law_part", "_law_at", "_law_kept", "_law_other"]) (sc := defScope (topS 60)) (by decide +kernel)) (fun _ _ _ _ _ => pg_name (i := 9) scLaw.nd rfl (Or.inl rfl)) (fun _ _ _ _ _ => pts_nil) (fun _ _ _ _ _ => (pe_cmpR op_eq (pv 9) (pv 7) (nomark _)))) (nomark _)) (pss_one (ps_ret pe_bl)) pss_nil))))
      (pss_one (ps_ret pe_bl)))))))))), ?_⟩
    refine ⟨_, rfl, s0, ns, rfl, hS, h63, fun a c H1 q1 na nc hh => ?_⟩
    refine ⟨_, rfl, _, _, rfl, rfl, ⟨by decide, by decide, by decide⟩, a, c, _, rfl, hh, by decide, lt8000 (by decide), fun v1 l1 p1 r1 h1 => ?_⟩
    have e9 : (10 : Int) ^ Int.toNat 9 = 1000000000 := by decide
    have r1' : v1 < 1000000000 := by rw [← e9]; exact r1
    refine ⟨_, _, rfl, rfl, ⟨by decide, by decide, by decide⟩, _, _, rfl, rfl, .inl ⟨by omega, by omega⟩, ?_⟩
    refine ⟨_, rfl, _, _, rfl, rfl, ⟨by decide, by decide, by decide⟩, a, c, _, rfl, h1, by decide, lt8000 (by decide), fun v2 l2 p2 r2 h2 => ⟨_, _, rfl, rfl, ?_⟩⟩
    refine ⟨_, rfl, _, _, rfl, rfl, _, rfl, _, _, rfl, rfl, ⟨by decide, by decide, by decide⟩, a, c, _, rfl, h2, by decide, lt8000 (by decide), fun v3 l3 p3 r3 h3 => ⟨_, _, rfl, rfl, ?_⟩⟩
    generalize upd _ a _ = H2
    refine ⟨_, rfl, _, rfl, _, _, rfl, fun p l1 l2 as ts J1 s1 hp g1 ex g2 tu tl => ?_⟩
    -- [kept for kept in pairs[1] if kept != (a, b)]
    refine ⟨_, rfl, p, _, _, _, rfl, rfl, SqL.of hp, atI_nat (j := 1) rfl, l2, rfl, ⟨_, SqL.of g2⟩, fun D nD => lc_list (K := K) (a := l2) (xs := ts.map V.ref) (fun i H' => Same J1 H' ∧ H' D = some (.lst [])) ⟨same_upd nD, upd_same⟩ (fun i H' _ h => SqL.of (h.1 _ _ g2)) ?_ ?_⟩
    · rintro i x H' hi ⟨s2, hD⟩
      obtain ⟨t, rfl, ht⟩ := map_ref hi
      have g3 := s2 _ _ (tups_at tu ht)
      refine ⟨rfl, _, rfl, _, rfl, _, rfl, (by show 2 ≤ sizeLine; decide), fun q nq => ⟨.tuple [.int (v1 * 10 ^ Int.toNat 9 + v2), .int (v1 * 10 ^ Int.toNat 9 + v2 + 1 + v3)], .tuple [.int (v1 * 10 ^ Int.toNat 9 + v2), .int (v1 * 10 ^ Int.toNat 9 + v2 + 1 + v3)], .tup (SqT.of (same_upd nq _ _ g3)) (.cons (.int _) (.cons (.int _) .nil)), .tup (SqT.of upd_same) (.cons (.int _) (.cons (.int _) .nil)), rfl, rfl, _, rfl, ?_⟩⟩
      rw [SeqAt.eqv_refl_plain (.tuple [.int (v1 * 10 ^ Int.toNat 9 + v2), .int (v1 * 10 ^ Int.toNat 9 + v2 + 1 + v3)]) rfl]
      exact iteF ⟨s2.trans (same_upd nq), same_upd nq _ _ hD⟩
    rintro J2 ⟨s2, hD⟩
    refine ⟨false, .inl ⟨[], SqL.of hD, rfl⟩, iteF ?_⟩
    refine ⟨_, rfl, p, _, _, _, rfl, rfl, SqL.of (s2 _ _ hp), atI_nat (j := 1) rfl, l2, _, rfl, .inl (SqL.of (s2 _ _ g2)), _, rfl, p, _, _, _, rfl, rfl, SqL.of (s2 _ _ hp), atI_nat (j := 0) rfl, l1, _, rfl, .inl (SqL.of (s2 _ _ g1)), rfl, _, rfl, iteNS ?_ ?_⟩
    · rw [List.length_map, List.length_map, tl, exs_len ex]
      rfl
    -- found = pairs[0]
    refine ⟨_, rfl, p, _, _, _, rfl, rfl, SqL.of (s2 _ _ hp), atI_nat (j := 0) rfl, ?_⟩
    -- for part in [singles(b), others(b)]
    refine ⟨_, rfl, _, rfl, fun p3 l3 l4 as3 J3 s3 hp3 h3' ex3 h4' => ⟨_, rfl, _, rfl, fun p5 l5 l6 as5 J5 s5 hp5 h5' ex5 h6' => ⟨(by show 2 ≤ sizeLine; decide), fun L nL => ?_⟩⟩⟩
    generalize eJ6 : upd _ L _ = J6
    have s6 := gs eJ6 nL
    have aL := ga eJ6
    clear eJ6
    have s56 := s5.trans s6
    have f1 : AllE cs J6 0 as := (allE_of ex rfl).keep ((s2.trans s3).trans s56)
    have f3 : AllE cs J6 8 as3 := (allE_of ex3 rfl).keep s56
    have f5 : AllE cs J6 35 as5 := (allE_of ex5 rfl).keep s6
    have n1 : as.length = 8 := exs_len ex
    have n3 : as3.length = 27 := exs_len ex3
    have n5 : as5.length = 12 := exs_len ex5
    refine ⟨L, rfl, ⟨_, SqL.of aL⟩, for_list (K := K) (a := L) (xs := [.ref p3, .ref p5]) (fun i σ H' => ∃ (lf : Addr) (af : List Addr) (v6 : Option V), σ = [some (.ref s0), some (.ref a), some (.int (v1 * 10 ^ Int.toNat 9 + v2)), some (.int (v1 * 10 ^ Int.toNat 9 + v2 + 1 + v3)), some (.ref p), some (.ref lf), v6, none, none, none] ∧ Same J6 H' ∧ H' lf = some (.lst (af.map V.ref)) ∧ AllE cs H' 0 af ∧ af.length = cnt i)
      ⟨l1, as, none, rfl, Same.refl _, s56 _ _ (s3 _ _ (s2 _ _ g1)), f1, n1⟩ (fun i σ H' _ ⟨_, _, _, _, s7, _⟩ => SqL.of (s7 _ _ aL)) ?_ ?_⟩
    · rintro i x σ H' hi ⟨lf, af, v6, rfl, s7, hlf, faf, naf⟩
      obtain ⟨pp, lx, ly, asx, n, rfl, hpp, hlx, hly, hax, fax, hn⟩ : ∃ (pp lx ly : Addr) (asx : List Addr) (n : Nat), x = V.ref pp ∧ H' pp = some (.lst [.ref lx, .ref ly]) ∧ H' lx = some (.lst (asx.map V.ref)) ∧ H' ly = some (.lst (List.replicate n (.int (v1 * 10 ^ Int.toNat 9 + v2 + 1 + v3)))) ∧ asx.length = n ∧ AllE cs H' (cnt i) asx ∧ cnt i + n = cnt (i + 1) ∧ n ≤ 27 := by
        match i, hi with
        | 0, hi => exact ⟨p3, l3, l4, as3, 27, (Option.some.inj hi).symm, s7 _ _ (s56 _ _ hp3), s7 _ _ (s56 _ _ h3'), s7 _ _ (s56 _ _ h4'), n3, f3.keep s7, rfl, by decide⟩
        | 1, hi => exact ⟨p5, l5, l6, as5, 12, (Option.some.inj hi).symm, s7 _ _ (s6 _ _ hp5), s7 _ _ (s6 _ _ h5'), s7 _ _ (s6 _ _ h6'), n5, f5.keep s7, rfl, by decide⟩
        | i + 2, hi => simp at hi
      refine ⟨_, rfl, pp, _, _, _, rfl, rfl, SqL.of hpp, atI_nat (j := 1) rfl, ly, rfl, ⟨_, SqL.of hly⟩, fun D nD => lc_list (K := K) (a := ly) (xs := List.replicate n (.int (v1 * 10 ^ Int.toNat 9 + v2 + 1 + v3))) (fun _ H2 => Same H' H2 ∧ H2 D = some (.lst [])) ⟨same_upd nD, upd_same⟩ (fun _ H2 _ h => SqL.of (h.1 _ _ hly)) ?_ ?_⟩
      · rintro j y H2 hj ⟨s8, hD⟩
        have ey : y = V.int (v1 * 10 ^ Int.toNat 9 + v2 + 1 + v3) := by
          have z := List.mem_of_getElem? hj
          exact (List.mem_replicate.mp z).2
        subst ey
        exact ⟨rfl, _, rfl, _, rfl, rfl, _, rfl, iteNS rfl ⟨s8, hD⟩⟩
      rintro H2 ⟨s8, hD⟩
      refine ⟨false, .inl ⟨[], SqL.of hD, rfl⟩, iteF ?_⟩
      refine ⟨_, rfl, pp, _, _, _, rfl, rfl, SqL.of (s8 _ _ hpp), atI_nat (j := 0) rfl, lx, _, rfl, .inl (SqL.of (s8 _ _ hlx)), _, rfl, pp, _, _, _, rfl, rfl, SqL.of (s8 _ _ hpp), atI_nat (j := 1) rfl, ly, _, rfl, .inl (SqL.of (s8 _ _ hly)), rfl, _, rfl, iteNS ?_ ?_⟩
      · rw [List.length_map, List.length_replicate, hax]
      refine ⟨_, rfl, _, rfl, pp, _, _, _, rfl, rfl, SqL.of (s8 _ _ hpp), atI_nat (j := 0) rfl, lf, lx, _, _, rfl, rfl, s8 _ _ hlf, s8 _ _ hlx, ?_, fun q nq => ?_⟩
      · rw [List.length_map, List.length_map, naf, hax]
        have c47 : cnt i ≤ 47 := by
          unfold cnt
          split
          · decide
          · split <;> decide
        exact Nat.le_of_lt (small1000 (by omega))
      · refine ⟨q, af ++ asx, some (.ref pp), rfl, (s7.trans s8).trans (same_upd nq), by rw [upd_same, List.map_append], ?_, by rw [List.length_append, naf, hax]; exact hn.1⟩
        have s9 : Same H' (upd H2 q (.lst (af.map V.ref ++ asx.map V.ref))) := s8.trans (same_upd nq)
        exact (faf.app (by rw [naf, Nat.zero_add]; exact fax)).keep s9
    rintro σ J7 ⟨lf, af, v6, rfl, s7, hlf, faf, naf⟩
    have n47 : af.length = 47 := naf
    -- for at in range(len(found))
    have elen : ((af.map V.ref).length : Int) = 47 := by rw [List.length_map, n47]; rfl
    refine ⟨_, rfl, lf, _, rfl, .inl (SqL.of hlf), _, rfl, by rw [elen]; decide, by rw [elen]; decide, ?_⟩
    have en : ((af.map V.ref).length : Int).toNat = 47 := by rw [elen]; rfl
    rw [en]
    refine for_range (lo := 0) (n := 47) (fun i σ H' => ∃ v7 : Option V, σ = [some (.ref s0), some (.ref a), some (.int (v1 * 10 ^ Int.toNat 9 + v2)), some (.int (v1 * 10 ^ Int.toNat 9 + v2 + 1 + v3)), some (.ref p), some (.ref lf), v6, v7, none, none] ∧ Same J7 H') ⟨none, rfl, Same.refl _⟩ ?_ ?_
    · rintro i σ H' hi ⟨v7, rfl, s8⟩
      obtain ⟨e, he⟩ : ∃ e, af[i]? = some e := ⟨_, List.getElem?_eq_getElem (by rw [n47]; exact hi)⟩
      obtain ⟨fs, ee⟩ := faf i e he
      rw [Nat.zero_add] at ee
      have he2 : (af.map V.ref)[i]? = some (.ref e) := by rw [List.getElem?_map, he]; rfl
      have at0 : atI (af.map V.ref) (0 + (i : Int)) = some (.ref e) := by rw [Int.zero_add]; exact atI_nat he2
      have ee2 := ee.keep s8
      have hlf2 := s8 _ _ hlf
      refine ⟨_, rfl, _, rfl, lf, _, _, _, rfl, rfl, SqL.of hlf2, at0, e, cs i, fs, .ref DE, .ref DE, true, rfl, ee2, T i hi, .own _, kD i hi, true, rfl, iteF ?_⟩
      refine ⟨_, rfl, _, rfl, lf, _, _, _, rfl, rfl, SqL.of hlf2, at0, e, cs i, fs, .ty "ValueError", .type "ValueError", true, rfl, ee2, T i hi, .ty _, kV i hi, true, rfl, iteF ?_⟩
      -- classes(found[at]) != [other == at for other in range(len(found))]
      refine ⟨_, rfl, _, rfl, lf, _, _, _, rfl, rfl, SqL.of hlf2, at0, e, i, fs, rfl, hi, ee2, fun p8 J8 s9 h8 => ?_⟩
      refine ⟨_, rfl, lf, _, rfl, .inl (SqL.of (s9 _ _ hlf2)), _, rfl, by rw [elen]; decide, by rw [elen]; decide, ?_⟩
      rw [en]
      refine fun D nD => lc_range (lo := 0) (n := 47) (fun j H2 => Same J8 H2 ∧ H2 D = some (.lst ((List.range j).map fun z => V.bl (decide (i = z))))) ⟨same_upd nD, upd_same⟩ ?_ ?_
      · rintro j H2 hj ⟨s10, hD⟩
        refine ⟨rfl, _, rfl, _, rfl, rfl, _, hD, ?_, same_but s10 nD, ?_⟩
        · rw [List.length_map, List.length_range]
          exact small1000 (by omega)
        · rw [upd_same, List.range_succ, List.map_append]
          have ed : decide (V.int (0 + (j : Int)) = V.int (0 + (i : Int))) = decide (i = j) := by
            by_cases hij : i = j
            · subst hij
              rw [decide_eq_true rfl, decide_eq_true rfl]
            · rw [decide_eq_false hij, decide_eq_false]
              intro z
              have := V.int.inj z
              omega
          rw [ed]
          rfl
      · rintro H2 ⟨s10, hD⟩
        refine ⟨rowD i, rowD i, .lst (SqL.of (s10 _ _ h8)) (dpBools (fun j => decide (i = j)) (List.range 47)), .lst (SqL.of hD) (dpBools (fun j => decide (i = j)) (List.range 47)), rowD_shaped i, rowD_shaped i, _, rfl, ?_⟩
        rw [rowD_refl]
        exact iteF ⟨_, rfl, (s8.trans s9).trans s10⟩
    · rintro σ J8 ⟨v7, rfl, s8⟩
      exact k _
end
end My
set_option Elab.async false
set_option linter.all false
set_option maxRecDepth 100000
set_option maxHeartbeats 0
namespace My
open PySem PySem.Spec PyProof.Rows L2 He MyH
def cs (K : PySem.W.Frag) (k : Nat) : Addr := He.ga K (tab.getD k ("", [])).1
theorem cs_at {K : PySem.W.Frag} {k : Nat} {p : Str × List Str} (h : tab[k]? = some p) : cs K k = He.ga K p.1 := by
  unfold cs
  rw [List.getD_eq_getElem?_getD, h]
  rfl
theorem tab_len : tab.length = 47 := rfl
section
variable {P : Program} {w : World} {K : PySem.W.Frag} {mg : Str → Option Value} {base h : Heap}
theorem inits (X : K.In h) (G : h.Ns mainGlobals mg) (c : SaysM facts fn K) (fm : Fam K "DealError" tab) (D : DEf P w K mg base) (cK : Cal P w K mg base 2 "_kept" spKeptI) : ∀ (k : Nat) (x : Str) (fs : List Str), tab[k]? = some (x, fs) → ∃ (fd : FuncData) (ps : List Str), FnOk P w K mg base CX0 3 (ma K (He.ga K x) "__init__") fd ps (spInit (He.ga K x) fs) ∧ Binds K fd ps []
  | 0, x, fs, e => by
    obtain ⟨rfl, rfl⟩ := Prod.mk.inj (Option.some.inj (show some (("BadStore" : Str), (["index", "what"] : List Str)) = some (x, fs) from e))
    have E := fm.ex (i := 0) rfl
    obtain ⟨fd, F⟩ := c.def_ 11 (d := dC "BadStore" "BadStore.__init__" 7) rfl
    have F2 : L2.Fun K "__init__" "BadStore.__init__" (inClass (topS 7) 0) (ma K (He.ga K "BadStore") "__init__") fd := fun_of F
    exact ⟨fd, ["self", "index", "what"], ok_BadStore F2 D cK (E.t fm.de) E.nf, F2.binds fun _ _ _ _ _ _ us hl => match us, hl with | [_, _, _], _ => rfl⟩
  | 1, x, fs, e => by
    obtain ⟨rfl, rfl⟩ := Prod.mk.inj (Option.some.inj (show some (("BadQuestion" : Str), (["what", "index"] : List Str)) = some (x, fs) from e))
    have E := fm.ex (i := 1) rfl
    obtain ⟨fd, F⟩ := c.def_ 12 (d := dC "BadQuestion" "BadQuestion.__init__" 8) rfl
    have F2 : L2.Fun K "__init__" "BadQuestion.__init__" (inClass (topS 8) 0) (ma K (He.ga K "BadQuestion") "__init__") fd := fun_of F
    exact ⟨fd, ["self", "what", "index"], ok_BadQuestion F2 D cK (E.t fm.de) E.nf, F2.binds fun _ _ _ _ _ _ us hl => match us, hl with | [_, _, _], _ => rfl⟩
  | 2, x, fs, e => by
    obtain ⟨rfl, rfl⟩ := Prod.mk.inj (Option.some.inj (show some (("BadUnion" : Str), (["what", "index"] : List Str)) = some (x, fs) from e))
    have E := fm.ex (i := 2) rfl
    obtain ⟨fd, F⟩ := c.def_ 13 (d := dC "BadUnion" "BadUnion.__init__" 9) rfl
    have F2 : L2.Fun K "__init__" "BadUnion.__init__" (inClass (topS 9) 0) (ma K (He.ga K "BadUnion") "__init__") fd := fun_of F
    exact ⟨fd, ["self", "what", "index"], ok_BadUnion F2 D cK (E.t fm.de) E.nf, F2.binds fun _ _ _ _ _ _ us hl => match us, hl with | [_, _, _], _ => rfl⟩
  | 3, x, fs, e => by
    obtain ⟨rfl, rfl⟩ := Prod.mk.inj (Option.some.inj (show some (("BadDealing" : Str), (["what", "index"] : List Str)) = some (x, fs) from e))
    have E := fm.ex (i := 3) rfl
    obtain ⟨fd, F⟩ := c.def_ 14 (d := dC "BadDealing" "BadDealing.__init__" 20) rfl
    have F2 : L2.Fun K "__init__" "BadDealing.__init__" (inClass (topS 20) 0) (ma K (He.ga K "BadDealing") "__init__") fd := fun_of F
    exact ⟨fd, ["self", "what", "index"], ok_BadDealing F2 D cK (E.t fm.de) E.nf, F2.binds fun _ _ _ _ _ _ us hl => match us, hl with | [_, _, _], _ => rfl⟩
  | 4, x, fs, e => by
    obtain ⟨rfl, rfl⟩ := Prod.mk.inj (Option.some.inj (show some (("BadDemands" : Str), (["index", "what"] : List Str)) = some (x, fs) from e))
    have E := fm.ex (i := 4) rfl
    obtain ⟨fd, F⟩ := c.def_ 15 (d := dC "BadDemands" "BadDemands.__init__" 28) rfl
    have F2 : L2.Fun K "__init__" "BadDemands.__init__" (inClass (topS 28) 0) (ma K (He.ga K "BadDemands") "__init__") fd := fun_of F
    exact ⟨fd, ["self", "index", "what"], ok_BadDemands F2 D cK (E.t fm.de) E.nf, F2.binds fun _ _ _ _ _ _ us hl => match us, hl with | [_, _, _], _ => rfl⟩
  | 5, x, fs, e => by
    obtain ⟨rfl, rfl⟩ := Prod.mk.inj (Option.some.inj (show some (("NotHeld" : Str), (["kind", "hand"] : List Str)) = some (x, fs) from e))
    have E := fm.ex (i := 5) rfl
    obtain ⟨fd, F⟩ := c.def_ 16 (d := dC "NotHeld" "NotHeld.__init__" 29) rfl
    have F2 : L2.Fun K "__init__" "NotHeld.__init__" (inClass (topS 29) 0) (ma K (He.ga K "NotHeld") "__init__") fd := fun_of F
    exact ⟨fd, ["self", "kind", "hand"], ok_NotHeld F2 D cK (E.t fm.de) E.nf, F2.binds fun _ _ _ _ _ _ us hl => match us, hl with | [_, _, _], _ => rfl⟩
  | 6, x, fs, e => by
    obtain ⟨rfl, rfl⟩ := Prod.mk.inj (Option.some.inj (show some (("BadPlan" : Str), (["index", "what"] : List Str)) = some (x, fs) from e))
    have E := fm.ex (i := 6) rfl
    obtain ⟨fd, F⟩ := c.def_ 17 (d := dC "BadPlan" "BadPlan.__init__" 33) rfl
    have F2 : L2.Fun K "__init__" "BadPlan.__init__" (inClass (topS 33) 0) (ma K (He.ga K "BadPlan") "__init__") fd := fun_of F
    exact ⟨fd, ["self", "index", "what"], ok_BadPlan F2 D cK (E.t fm.de) E.nf, F2.binds fun _ _ _ _ _ _ us hl => match us, hl with | [_, _, _], _ => rfl⟩
  | 7, x, fs, e => by
    obtain ⟨rfl, rfl⟩ := Prod.mk.inj (Option.some.inj (show some (("BadShares" : Str), (["index", "what"] : List Str)) = some (x, fs) from e))
    have E := fm.ex (i := 7) rfl
    obtain ⟨fd, F⟩ := c.def_ 18 (d := dC "BadShares" "BadShares.__init__" 38) rfl
    have F2 : L2.Fun K "__init__" "BadShares.__init__" (inClass (topS 38) 0) (ma K (He.ga K "BadShares") "__init__") fd := fun_of F
    exact ⟨fd, ["self", "index", "what"], ok_BadShares F2 D cK (E.t fm.de) E.nf, F2.binds fun _ _ _ _ _ _ us hl => match us, hl with | [_, _, _], _ => rfl⟩
  | 8, x, fs, e => by
    obtain ⟨rfl, rfl⟩ := Prod.mk.inj (Option.some.inj (show some (("BadWidths" : Str), (["index"] : List Str)) = some (x, fs) from e))
    have E := fm.ex (i := 8) rfl
    obtain ⟨fd, F⟩ := c.def_ 19 (d := dC "BadWidths" "BadWidths.__init__" 5) rfl
    have F2 : L2.Fun K "__init__" "BadWidths.__init__" (inClass (topS 5) 0) (ma K (He.ga K "BadWidths") "__init__") fd := fun_of F
    exact ⟨fd, ["self", "index"], ok_BadWidths F2 D cK (E.t fm.de) E.nf, F2.binds fun _ _ _ _ _ _ us hl => match us, hl with | [_, _], _ => rfl⟩
  | 9, x, fs, e => by
    obtain ⟨rfl, rfl⟩ := Prod.mk.inj (Option.some.inj (show some (("BadRow" : Str), (["what"] : List Str)) = some (x, fs) from e))
    have E := fm.ex (i := 9) rfl
    obtain ⟨fd, F⟩ := c.def_ 20 (d := dC "BadRow" "BadRow.__init__" 6) rfl
    have F2 : L2.Fun K "__init__" "BadRow.__init__" (inClass (topS 6) 0) (ma K (He.ga K "BadRow") "__init__") fd := fun_of F
    exact ⟨fd, ["self", "what"], ok_BadRow F2 D cK (E.t fm.de) E.nf, F2.binds fun _ _ _ _ _ _ us hl => match us, hl with | [_, _], _ => rfl⟩
  | 10, x, fs, e => by
    obtain ⟨rfl, rfl⟩ := Prod.mk.inj (Option.some.inj (show some (("BadReading" : Str), (["reading"] : List Str)) = some (x, fs) from e))
    have E := fm.ex (i := 10) rfl
    obtain ⟨fd, F⟩ := c.def_ 21 (d := dC "BadReading" "BadReading.__init__" 10) rfl
    have F2 : L2.Fun K "__init__" "BadReading.__init__" (inClass (topS 10) 0) (ma K (He.ga K "BadReading") "__init__") fd := fun_of F
    exact ⟨fd, ["self", "reading"], ok_BadReading F2 D cK (E.t fm.de) E.nf, F2.binds fun _ _ _ _ _ _ us hl => match us, hl with | [_, _], _ => rfl⟩
  | 11, x, fs, e => by
    obtain ⟨rfl, rfl⟩ := Prod.mk.inj (Option.some.inj (show some (("BadMoves" : Str), (["index"] : List Str)) = some (x, fs) from e))
    have E := fm.ex (i := 11) rfl
    obtain ⟨fd, F⟩ := c.def_ 22 (d := dC "BadMoves" "BadMoves.__init__" 11) rfl
    have F2 : L2.Fun K "__init__" "BadMoves.__init__" (inClass (topS 11) 0) (ma K (He.ga K "BadMoves") "__init__") fd := fun_of F
    exact ⟨fd, ["self", "index"], ok_BadMoves F2 D cK (E.t fm.de) E.nf, F2.binds fun _ _ _ _ _ _ us hl => match us, hl with | [_, _], _ => rfl⟩
  | 12, x, fs, e => by
    obtain ⟨rfl, rfl⟩ := Prod.mk.inj (Option.some.inj (show some (("BadLetters" : Str), (["letters"] : List Str)) = some (x, fs) from e))
    have E := fm.ex (i := 12) rfl
    obtain ⟨fd, F⟩ := c.def_ 23 (d := dC "BadLetters" "BadLetters.__init__" 12) rfl
    have F2 : L2.Fun K "__init__" "BadLetters.__init__" (inClass (topS 12) 0) (ma K (He.ga K "BadLetters") "__init__") fd := fun_of F
    exact ⟨fd, ["self", "letters"], ok_BadLetters F2 D cK (E.t fm.de) E.nf, F2.binds fun _ _ _ _ _ _ us hl => match us, hl with | [_, _], _ => rfl⟩
  | 13, x, fs, e => by
    obtain ⟨rfl, rfl⟩ := Prod.mk.inj (Option.some.inj (show some (("BadText" : Str), (["place"] : List Str)) = some (x, fs) from e))
    have E := fm.ex (i := 13) rfl
    obtain ⟨fd, F⟩ := c.def_ 24 (d := dC "BadText" "BadText.__init__" 13) rfl
    have F2 : L2.Fun K "__init__" "BadText.__init__" (inClass (topS 13) 0) (ma K (He.ga K "BadText") "__init__") fd := fun_of F
    exact ⟨fd, ["self", "place"], ok_BadText F2 D cK (E.t fm.de) E.nf, F2.binds fun _ _ _ _ _ _ us hl => match us, hl with | [_, _], _ => rfl⟩
  | 14, x, fs, e => by
    obtain ⟨rfl, rfl⟩ := Prod.mk.inj (Option.some.inj (show some (("BadSorts" : Str), (["what"] : List Str)) = some (x, fs) from e))
    have E := fm.ex (i := 14) rfl
    obtain ⟨fd, F⟩ := c.def_ 25 (d := dC "BadSorts" "BadSorts.__init__" 14) rfl
    have F2 : L2.Fun K "__init__" "BadSorts.__init__" (inClass (topS 14) 0) (ma K (He.ga K "BadSorts") "__init__") fd := fun_of F
    exact ⟨fd, ["self", "what"], ok_BadSorts F2 D cK (E.t fm.de) E.nf, F2.binds fun _ _ _ _ _ _ us hl => match us, hl with | [_, _], _ => rfl⟩
  | 15, x, fs, e => by
    obtain ⟨rfl, rfl⟩ := Prod.mk.inj (Option.some.inj (show some (("BadValue" : Str), (["value"] : List Str)) = some (x, fs) from e))
    have E := fm.ex (i := 15) rfl
    obtain ⟨fd, F⟩ := c.def_ 26 (d := dC "BadValue" "BadValue.__init__" 15) rfl
    have F2 : L2.Fun K "__init__" "BadValue.__init__" (inClass (topS 15) 0) (ma K (He.ga K "BadValue") "__init__") fd := fun_of F
    exact ⟨fd, ["self", "value"], ok_BadValue F2 D cK (E.t fm.de) E.nf, F2.binds fun _ _ _ _ _ _ us hl => match us, hl with | [_, _], _ => rfl⟩
  | 16, x, fs, e => by
    obtain ⟨rfl, rfl⟩ := Prod.mk.inj (Option.some.inj (show some (("NoSort" : Str), (["number"] : List Str)) = some (x, fs) from e))
    have E := fm.ex (i := 16) rfl
    obtain ⟨fd, F⟩ := c.def_ 27 (d := dC "NoSort" "NoSort.__init__" 16) rfl
    have F2 : L2.Fun K "__init__" "NoSort.__init__" (inClass (topS 16) 0) (ma K (He.ga K "NoSort") "__init__") fd := fun_of F
    exact ⟨fd, ["self", "number"], ok_NoSort F2 D cK (E.t fm.de) E.nf, F2.binds fun _ _ _ _ _ _ us hl => match us, hl with | [_, _], _ => rfl⟩
  | 17, x, fs, e => by
    obtain ⟨rfl, rfl⟩ := Prod.mk.inj (Option.some.inj (show some (("BadTold" : Str), (["told"] : List Str)) = some (x, fs) from e))
    have E := fm.ex (i := 17) rfl
    obtain ⟨fd, F⟩ := c.def_ 28 (d := dC "BadTold" "BadTold.__init__" 17) rfl
    have F2 : L2.Fun K "__init__" "BadTold.__init__" (inClass (topS 17) 0) (ma K (He.ga K "BadTold") "__init__") fd := fun_of F
    exact ⟨fd, ["self", "told"], ok_BadTold F2 D cK (E.t fm.de) E.nf, F2.binds fun _ _ _ _ _ _ us hl => match us, hl with | [_, _], _ => rfl⟩
  | 18, x, fs, e => by
    obtain ⟨rfl, rfl⟩ := Prod.mk.inj (Option.some.inj (show some (("TooMany" : Str), (["most"] : List Str)) = some (x, fs) from e))
    have E := fm.ex (i := 18) rfl
    obtain ⟨fd, F⟩ := c.def_ 29 (d := dC "TooMany" "TooMany.__init__" 18) rfl
    have F2 : L2.Fun K "__init__" "TooMany.__init__" (inClass (topS 18) 0) (ma K (He.ga K "TooMany") "__init__") fd := fun_of F
    exact ⟨fd, ["self", "most"], ok_TooMany F2 D cK (E.t fm.de) E.nf, F2.binds fun _ _ _ _ _ _ us hl => match us, hl with | [_, _], _ => rfl⟩
  | 19, x, fs, e => by
    obtain ⟨rfl, rfl⟩ := Prod.mk.inj (Option.some.inj (show some (("NoAnswer" : Str), (["answer"] : List Str)) = some (x, fs) from e))
    have E := fm.ex (i := 19) rfl
    obtain ⟨fd, F⟩ := c.def_ 30 (d := dC "NoAnswer" "NoAnswer.__init__" 19) rfl
    have F2 : L2.Fun K "__init__" "NoAnswer.__init__" (inClass (topS 19) 0) (ma K (He.ga K "NoAnswer") "__init__") fd := fun_of F
    exact ⟨fd, ["self", "answer"], ok_NoAnswer F2 D cK (E.t fm.de) E.nf, F2.binds fun _ _ _ _ _ _ us hl => match us, hl with | [_, _], _ => rfl⟩
  | 20, x, fs, e => by
    obtain ⟨rfl, rfl⟩ := Prod.mk.inj (Option.some.inj (show some (("NoKind" : Str), (["kind"] : List Str)) = some (x, fs) from e))
    have E := fm.ex (i := 20) rfl
    obtain ⟨fd, F⟩ := c.def_ 31 (d := dC "NoKind" "NoKind.__init__" 21) rfl
    have F2 : L2.Fun K "__init__" "NoKind.__init__" (inClass (topS 21) 0) (ma K (He.ga K "NoKind") "__init__") fd := fun_of F
    exact ⟨fd, ["self", "kind"], ok_NoKind F2 D cK (E.t fm.de) E.nf, F2.binds fun _ _ _ _ _ _ us hl => match us, hl with | [_, _], _ => rfl⟩
  | 21, x, fs, e => by
    obtain ⟨rfl, rfl⟩ := Prod.mk.inj (Option.some.inj (show some (("NoHand" : Str), (["hand"] : List Str)) = some (x, fs) from e))
    have E := fm.ex (i := 21) rfl
    obtain ⟨fd, F⟩ := c.def_ 32 (d := dC "NoHand" "NoHand.__init__" 22) rfl
    have F2 : L2.Fun K "__init__" "NoHand.__init__" (inClass (topS 22) 0) (ma K (He.ga K "NoHand") "__init__") fd := fun_of F
    exact ⟨fd, ["self", "hand"], ok_NoHand F2 D cK (E.t fm.de) E.nf, F2.binds fun _ _ _ _ _ _ us hl => match us, hl with | [_, _], _ => rfl⟩
  | 22, x, fs, e => by
    obtain ⟨rfl, rfl⟩ := Prod.mk.inj (Option.some.inj (show some (("BadLost" : Str), (["index"] : List Str)) = some (x, fs) from e))
    have E := fm.ex (i := 22) rfl
    obtain ⟨fd, F⟩ := c.def_ 33 (d := dC "BadLost" "BadLost.__init__" 23) rfl
    have F2 : L2.Fun K "__init__" "BadLost.__init__" (inClass (topS 23) 0) (ma K (He.ga K "BadLost") "__init__") fd := fun_of F
    exact ⟨fd, ["self", "index"], ok_BadLost F2 D cK (E.t fm.de) E.nf, F2.binds fun _ _ _ _ _ _ us hl => match us, hl with | [_, _], _ => rfl⟩
  | 23, x, fs, e => by
    obtain ⟨rfl, rfl⟩ := Prod.mk.inj (Option.some.inj (show some (("BadOrder" : Str), (["order"] : List Str)) = some (x, fs) from e))
    have E := fm.ex (i := 23) rfl
    obtain ⟨fd, F⟩ := c.def_ 34 (d := dC "BadOrder" "BadOrder.__init__" 24) rfl
    have F2 : L2.Fun K "__init__" "BadOrder.__init__" (inClass (topS 24) 0) (ma K (He.ga K "BadOrder") "__init__") fd := fun_of F
    exact ⟨fd, ["self", "order"], ok_BadOrder F2 D cK (E.t fm.de) E.nf, F2.binds fun _ _ _ _ _ _ us hl => match us, hl with | [_, _], _ => rfl⟩
  | 24, x, fs, e => by
    obtain ⟨rfl, rfl⟩ := Prod.mk.inj (Option.some.inj (show some (("Apart" : Str), (["what"] : List Str)) = some (x, fs) from e))
    have E := fm.ex (i := 24) rfl
    obtain ⟨fd, F⟩ := c.def_ 35 (d := dC "Apart" "Apart.__init__" 25) rfl
    have F2 : L2.Fun K "__init__" "Apart.__init__" (inClass (topS 25) 0) (ma K (He.ga K "Apart") "__init__") fd := fun_of F
    exact ⟨fd, ["self", "what"], ok_Apart F2 D cK (E.t fm.de) E.nf, F2.binds fun _ _ _ _ _ _ us hl => match us, hl with | [_, _], _ => rfl⟩
  | 25, x, fs, e => by
    obtain ⟨rfl, rfl⟩ := Prod.mk.inj (Option.some.inj (show some (("BadFactor" : Str), (["factor"] : List Str)) = some (x, fs) from e))
    have E := fm.ex (i := 25) rfl
    obtain ⟨fd, F⟩ := c.def_ 36 (d := dC "BadFactor" "BadFactor.__init__" 26) rfl
    have F2 : L2.Fun K "__init__" "BadFactor.__init__" (inClass (topS 26) 0) (ma K (He.ga K "BadFactor") "__init__") fd := fun_of F
    exact ⟨fd, ["self", "factor"], ok_BadFactor F2 D cK (E.t fm.de) E.nf, F2.binds fun _ _ _ _ _ _ us hl => match us, hl with | [_, _], _ => rfl⟩
  | 26, x, fs, e => by
    obtain ⟨rfl, rfl⟩ := Prod.mk.inj (Option.some.inj (show some (("BadNamed" : Str), (["value"] : List Str)) = some (x, fs) from e))
    have E := fm.ex (i := 26) rfl
    obtain ⟨fd, F⟩ := c.def_ 37 (d := dC "BadNamed" "BadNamed.__init__" 27) rfl
    have F2 : L2.Fun K "__init__" "BadNamed.__init__" (inClass (topS 27) 0) (ma K (He.ga K "BadNamed") "__init__") fd := fun_of F
    exact ⟨fd, ["self", "value"], ok_BadNamed F2 D cK (E.t fm.de) E.nf, F2.binds fun _ _ _ _ _ _ us hl => match us, hl with | [_, _], _ => rfl⟩
  | 27, x, fs, e => by
    obtain ⟨rfl, rfl⟩ := Prod.mk.inj (Option.some.inj (show some (("BadCopy" : Str), (["what"] : List Str)) = some (x, fs) from e))
    have E := fm.ex (i := 27) rfl
    obtain ⟨fd, F⟩ := c.def_ 38 (d := dC "BadCopy" "BadCopy.__init__" 30) rfl
    have F2 : L2.Fun K "__init__" "BadCopy.__init__" (inClass (topS 30) 0) (ma K (He.ga K "BadCopy") "__init__") fd := fun_of F
    exact ⟨fd, ["self", "what"], ok_BadCopy F2 D cK (E.t fm.de) E.nf, F2.binds fun _ _ _ _ _ _ us hl => match us, hl with | [_, _], _ => rfl⟩
  | 28, x, fs, e => by
    obtain ⟨rfl, rfl⟩ := Prod.mk.inj (Option.some.inj (show some (("NotRight" : Str), (["demand"] : List Str)) = some (x, fs) from e))
    have E := fm.ex (i := 28) rfl
    obtain ⟨fd, F⟩ := c.def_ 39 (d := dC "NotRight" "NotRight.__init__" 31) rfl
    have F2 : L2.Fun K "__init__" "NotRight.__init__" (inClass (topS 31) 0) (ma K (He.ga K "NotRight") "__init__") fd := fun_of F
    exact ⟨fd, ["self", "demand"], ok_NotRight F2 D cK (E.t fm.de) E.nf, F2.binds fun _ _ _ _ _ _ us hl => match us, hl with | [_, _], _ => rfl⟩
  | 29, x, fs, e => by
    obtain ⟨rfl, rfl⟩ := Prod.mk.inj (Option.some.inj (show some (("BadRoom" : Str), (["room"] : List Str)) = some (x, fs) from e))
    have E := fm.ex (i := 29) rfl
    obtain ⟨fd, F⟩ := c.def_ 40 (d := dC "BadRoom" "BadRoom.__init__" 32) rfl
    have F2 : L2.Fun K "__init__" "BadRoom.__init__" (inClass (topS 32) 0) (ma K (He.ga K "BadRoom") "__init__") fd := fun_of F
    exact ⟨fd, ["self", "room"], ok_BadRoom F2 D cK (E.t fm.de) E.nf, F2.binds fun _ _ _ _ _ _ us hl => match us, hl with | [_, _], _ => rfl⟩
  | 30, x, fs, e => by
    obtain ⟨rfl, rfl⟩ := Prod.mk.inj (Option.some.inj (show some (("NoRound" : Str), (["index"] : List Str)) = some (x, fs) from e))
    have E := fm.ex (i := 30) rfl
    obtain ⟨fd, F⟩ := c.def_ 41 (d := dC "NoRound" "NoRound.__init__" 34) rfl
    have F2 : L2.Fun K "__init__" "NoRound.__init__" (inClass (topS 34) 0) (ma K (He.ga K "NoRound") "__init__") fd := fun_of F
    exact ⟨fd, ["self", "index"], ok_NoRound F2 D cK (E.t fm.de) E.nf, F2.binds fun _ _ _ _ _ _ us hl => match us, hl with | [_, _], _ => rfl⟩
  | 31, x, fs, e => by
    obtain ⟨rfl, rfl⟩ := Prod.mk.inj (Option.some.inj (show some (("NoPlainAnswer" : Str), (["plan"] : List Str)) = some (x, fs) from e))
    have E := fm.ex (i := 31) rfl
    obtain ⟨fd, F⟩ := c.def_ 42 (d := dC "NoPlainAnswer" "NoPlainAnswer.__init__" 35) rfl
    have F2 : L2.Fun K "__init__" "NoPlainAnswer.__init__" (inClass (topS 35) 0) (ma K (He.ga K "NoPlainAnswer") "__init__") fd := fun_of F
    exact ⟨fd, ["self", "plan"], ok_NoPlainAnswer F2 D cK (E.t fm.de) E.nf, F2.binds fun _ _ _ _ _ _ us hl => match us, hl with | [_, _], _ => rfl⟩
  | 32, x, fs, e => by
    obtain ⟨rfl, rfl⟩ := Prod.mk.inj (Option.some.inj (show some (("BadUnions" : Str), (["unions"] : List Str)) = some (x, fs) from e))
    have E := fm.ex (i := 32) rfl
    obtain ⟨fd, F⟩ := c.def_ 43 (d := dC "BadUnions" "BadUnions.__init__" 36) rfl
    have F2 : L2.Fun K "__init__" "BadUnions.__init__" (inClass (topS 36) 0) (ma K (He.ga K "BadUnions") "__init__") fd := fun_of F
    exact ⟨fd, ["self", "unions"], ok_BadUnions F2 D cK (E.t fm.de) E.nf, F2.binds fun _ _ _ _ _ _ us hl => match us, hl with | [_, _], _ => rfl⟩
  | 33, x, fs, e => by
    obtain ⟨rfl, rfl⟩ := Prod.mk.inj (Option.some.inj (show some (("EmptyRows" : Str), (["rows"] : List Str)) = some (x, fs) from e))
    have E := fm.ex (i := 33) rfl
    obtain ⟨fd, F⟩ := c.def_ 44 (d := dC "EmptyRows" "EmptyRows.__init__" 37) rfl
    have F2 : L2.Fun K "__init__" "EmptyRows.__init__" (inClass (topS 37) 0) (ma K (He.ga K "EmptyRows") "__init__") fd := fun_of F
    exact ⟨fd, ["self", "rows"], ok_EmptyRows F2 D cK (E.t fm.de) E.nf, F2.binds fun _ _ _ _ _ _ us hl => match us, hl with | [_, _], _ => rfl⟩
  | 34, x, fs, e => by
    obtain ⟨rfl, rfl⟩ := Prod.mk.inj (Option.some.inj (show some (("BadMost" : Str), (["most"] : List Str)) = some (x, fs) from e))
    have E := fm.ex (i := 34) rfl
    obtain ⟨fd, F⟩ := c.def_ 45 (d := dC "BadMost" "BadMost.__init__" 39) rfl
    have F2 : L2.Fun K "__init__" "BadMost.__init__" (inClass (topS 39) 0) (ma K (He.ga K "BadMost") "__init__") fd := fun_of F
    exact ⟨fd, ["self", "most"], ok_BadMost F2 D cK (E.t fm.de) E.nf, F2.binds fun _ _ _ _ _ _ us hl => match us, hl with | [_, _], _ => rfl⟩
  | 35, x, fs, e => by
    obtain ⟨rfl, rfl⟩ := Prod.mk.inj (Option.some.inj (show some (("BadStep" : Str), (["index"] : List Str)) = some (x, fs) from e))
    have E := fm.ex (i := 35) rfl
    obtain ⟨fd, F⟩ := c.def_ 46 (d := dC "BadStep" "BadStep.__init__" 40) rfl
    have F2 : L2.Fun K "__init__" "BadStep.__init__" (inClass (topS 40) 0) (ma K (He.ga K "BadStep") "__init__") fd := fun_of F
    exact ⟨fd, ["self", "index"], ok_BadStep F2 D cK (E.t fm.de) E.nf, F2.binds fun _ _ _ _ _ _ us hl => match us, hl with | [_, _], _ => rfl⟩
  | 36, x, fs, e => by
    obtain ⟨rfl, rfl⟩ := Prod.mk.inj (Option.some.inj (show some (("BadCopies" : Str), (["index"] : List Str)) = some (x, fs) from e))
    have E := fm.ex (i := 36) rfl
    obtain ⟨fd, F⟩ := c.def_ 47 (d := dC "BadCopies" "BadCopies.__init__" 41) rfl
    have F2 : L2.Fun K "__init__" "BadCopies.__init__" (inClass (topS 41) 0) (ma K (He.ga K "BadCopies") "__init__") fd := fun_of F
    exact ⟨fd, ["self", "index"], ok_BadCopies F2 D cK (E.t fm.de) E.nf, F2.binds fun _ _ _ _ _ _ us hl => match us, hl with | [_, _], _ => rfl⟩
  | 37, x, fs, e => by
    obtain ⟨rfl, rfl⟩ := Prod.mk.inj (Option.some.inj (show some (("BadHands" : Str), (["hands"] : List Str)) = some (x, fs) from e))
    have E := fm.ex (i := 37) rfl
    obtain ⟨fd, F⟩ := c.def_ 48 (d := dC "BadHands" "BadHands.__init__" 42) rfl
    have F2 : L2.Fun K "__init__" "BadHands.__init__" (inClass (topS 42) 0) (ma K (He.ga K "BadHands") "__init__") fd := fun_of F
    exact ⟨fd, ["self", "hands"], ok_BadHands F2 D cK (E.t fm.de) E.nf, F2.binds fun _ _ _ _ _ _ us hl => match us, hl with | [_, _], _ => rfl⟩
  | 38, x, fs, e => by
    obtain ⟨rfl, rfl⟩ := Prod.mk.inj (Option.some.inj (show some (("BadSeen" : Str), (["index"] : List Str)) = some (x, fs) from e))
    have E := fm.ex (i := 38) rfl
    obtain ⟨fd, F⟩ := c.def_ 49 (d := dC "BadSeen" "BadSeen.__init__" 43) rfl
    have F2 : L2.Fun K "__init__" "BadSeen.__init__" (inClass (topS 43) 0) (ma K (He.ga K "BadSeen") "__init__") fd := fun_of F
    exact ⟨fd, ["self", "index"], ok_BadSeen F2 D cK (E.t fm.de) E.nf, F2.binds fun _ _ _ _ _ _ us hl => match us, hl with | [_, _], _ => rfl⟩
  | 39, x, fs, e => by
    obtain ⟨rfl, rfl⟩ := Prod.mk.inj (Option.some.inj (show some (("Clash" : Str), (["index"] : List Str)) = some (x, fs) from e))
    have E := fm.ex (i := 39) rfl
    obtain ⟨fd, F⟩ := c.def_ 50 (d := dC "Clash" "Clash.__init__" 44) rfl
    have F2 : L2.Fun K "__init__" "Clash.__init__" (inClass (topS 44) 0) (ma K (He.ga K "Clash") "__init__") fd := fun_of F
    exact ⟨fd, ["self", "index"], ok_Clash F2 D cK (E.t fm.de) E.nf, F2.binds fun _ _ _ _ _ _ us hl => match us, hl with | [_, _], _ => rfl⟩
  | 40, x, fs, e => by
    obtain ⟨rfl, rfl⟩ := Prod.mk.inj (Option.some.inj (show some (("BadEdits" : Str), (["index"] : List Str)) = some (x, fs) from e))
    have E := fm.ex (i := 40) rfl
    obtain ⟨fd, F⟩ := c.def_ 51 (d := dC "BadEdits" "BadEdits.__init__" 45) rfl
    have F2 : L2.Fun K "__init__" "BadEdits.__init__" (inClass (topS 45) 0) (ma K (He.ga K "BadEdits") "__init__") fd := fun_of F
    exact ⟨fd, ["self", "index"], ok_BadEdits F2 D cK (E.t fm.de) E.nf, F2.binds fun _ _ _ _ _ _ us hl => match us, hl with | [_, _], _ => rfl⟩
  | 41, x, fs, e => by
    obtain ⟨rfl, rfl⟩ := Prod.mk.inj (Option.some.inj (show some (("BadGoal" : Str), (["what"] : List Str)) = some (x, fs) from e))
    have E := fm.ex (i := 41) rfl
    obtain ⟨fd, F⟩ := c.def_ 52 (d := dC "BadGoal" "BadGoal.__init__" 46) rfl
    have F2 : L2.Fun K "__init__" "BadGoal.__init__" (inClass (topS 46) 0) (ma K (He.ga K "BadGoal") "__init__") fd := fun_of F
    exact ⟨fd, ["self", "what"], ok_BadGoal F2 D cK (E.t fm.de) E.nf, F2.binds fun _ _ _ _ _ _ us hl => match us, hl with | [_, _], _ => rfl⟩
  | 42, x, fs, e => by
    obtain ⟨rfl, rfl⟩ := Prod.mk.inj (Option.some.inj (show some (("NoStep" : Str), (["what"] : List Str)) = some (x, fs) from e))
    have E := fm.ex (i := 42) rfl
    obtain ⟨fd, F⟩ := c.def_ 53 (d := dC "NoStep" "NoStep.__init__" 47) rfl
    have F2 : L2.Fun K "__init__" "NoStep.__init__" (inClass (topS 47) 0) (ma K (He.ga K "NoStep") "__init__") fd := fun_of F
    exact ⟨fd, ["self", "what"], ok_NoStep F2 D cK (E.t fm.de) E.nf, F2.binds fun _ _ _ _ _ _ us hl => match us, hl with | [_, _], _ => rfl⟩
  | 43, x, fs, e => by
    obtain ⟨rfl, rfl⟩ := Prod.mk.inj (Option.some.inj (show some (("Full" : Str), (["most"] : List Str)) = some (x, fs) from e))
    have E := fm.ex (i := 43) rfl
    obtain ⟨fd, F⟩ := c.def_ 54 (d := dC "Full" "Full.__init__" 48) rfl
    have F2 : L2.Fun K "__init__" "Full.__init__" (inClass (topS 48) 0) (ma K (He.ga K "Full") "__init__") fd := fun_of F
    exact ⟨fd, ["self", "most"], ok_Full F2 D cK (E.t fm.de) E.nf, F2.binds fun _ _ _ _ _ _ us hl => match us, hl with | [_, _], _ => rfl⟩
  | 44, x, fs, e => by
    obtain ⟨rfl, rfl⟩ := Prod.mk.inj (Option.some.inj (show some (("NoRow" : Str), (["row"] : List Str)) = some (x, fs) from e))
    have E := fm.ex (i := 44) rfl
    obtain ⟨fd, F⟩ := c.def_ 55 (d := dC "NoRow" "NoRow.__init__" 49) rfl
    have F2 : L2.Fun K "__init__" "NoRow.__init__" (inClass (topS 49) 0) (ma K (He.ga K "NoRow") "__init__") fd := fun_of F
    exact ⟨fd, ["self", "row"], ok_NoRow F2 D cK (E.t fm.de) E.nf, F2.binds fun _ _ _ _ _ _ us hl => match us, hl with | [_, _], _ => rfl⟩
  | 45, x, fs, e => by
    obtain ⟨rfl, rfl⟩ := Prod.mk.inj (Option.some.inj (show some (("NothingLeft" : Str), (["number"] : List Str)) = some (x, fs) from e))
    have E := fm.ex (i := 45) rfl
    obtain ⟨fd, F⟩ := c.def_ 56 (d := dC "NothingLeft" "NothingLeft.__init__" 50) rfl
    have F2 : L2.Fun K "__init__" "NothingLeft.__init__" (inClass (topS 50) 0) (ma K (He.ga K "NothingLeft") "__init__") fd := fun_of F
    exact ⟨fd, ["self", "number"], ok_NothingLeft F2 D cK (E.t fm.de) E.nf, F2.binds fun _ _ _ _ _ _ us hl => match us, hl with | [_, _], _ => rfl⟩
  | 46, x, fs, e => by
    obtain ⟨rfl, rfl⟩ := Prod.mk.inj (Option.some.inj (show some (("StillTrial" : Str), (["deeds"] : List Str)) = some (x, fs) from e))
    have E := fm.ex (i := 46) rfl
    obtain ⟨fd, F⟩ := c.def_ 57 (d := dC "StillTrial" "StillTrial.__init__" 51) rfl
    have F2 : L2.Fun K "__init__" "StillTrial.__init__" (inClass (topS 51) 0) (ma K (He.ga K "StillTrial") "__init__") fd := fun_of F
    exact ⟨fd, ["self", "deeds"], ok_StillTrial F2 D cK (E.t fm.de) E.nf, F2.binds fun _ _ _ _ _ _ us hl => match us, hl with | [_, _], _ => rfl⟩
  | k + 47, x, fs, e => by
    have := (List.getElem?_eq_some_iff.mp e).1
    rw [tab_len] at this
    omega
theorem law_ok (X : K.In h) (G : h.Ns mainGlobals mg) (c : SaysM facts fn K) : ∃ fd : FuncData, (∀ (s : Shared) (v : Value), BindsTo s fd ⟨[v], []⟩ [("_law_script", v)]) ∧ ∀ base : Heap, FnOk P w K mg base CX0 6 (He.ga K "law") fd ["_law_script"] (spLaw K) := by
  obtain ⟨fdL, FL⟩ := c.def_ 9 (d := dF "law" 60) rfl
  have EL : L2.Fun K "law" "law" (topS 60) (He.ga K "law") fdL := fun_of FL
  have FL2 : FunD K "law" "law" (defArgs (topS 60)) (defBody (topS 60)) (defScope (topS 60)) [] [] (He.ga K "law") fdL := FL
  have b := FunD.bindsA (ps := ["_law_script"]) FL2 fun _ _ _ _ _ _ us hl => match us, hl with | [_], _ => rfl
  refine ⟨fdL, fun s v => b s [v] rfl, fun base => ?_⟩
  obtain ⟨hf, hfa⟩ := ba (show (famAll K "DealError" tab && fas.all fun f => f.ok K) = true from c.fact)
  have fm := fam_ok hf
  have fa : ∀ (i : Nat) {f : Fa}, fas[i]? = some f → f.ok K = true := fun i f e => List.all_eq_true.mp hfa f (List.mem_of_getElem? e)
  have mint : mg "int" = none := free_ok X G (fa 0 (f := .free "int") rfl)
  have mlen : mg "len" = none := free_ok X G (fa 1 (f := .free "len") rfl)
  have mabs : mg "abs" = none := free_ok X G (fa 2 (f := .free "abs") rfl)
  have misinstance : mg "isinstance" = none := free_ok X G (fa 3 (f := .free "isinstance") rfl)
  have mlist : mg "list" = none := free_ok X G (fa 4 (f := .free "list") rfl)
  have mtuple : mg "tuple" = none := free_ok X G (fa 5 (f := .free "tuple") rfl)
  have mrange : mg "range" = none := free_ok X G (fa 6 (f := .free "range") rfl)
  have mValueError : mg "ValueError" = none := free_ok X G (fa 7 (f := .free "ValueError") rfl)
  obtain ⟨tk, mDeep⟩ := int_ok X G (fa 8 (f := .int "DEEPEST" 6) rfl)
  have gDE : mg "DealError" = some (.ref (He.ga K "DealError")) := PySem.W.mg_of X G fm.de.glo
  obtain ⟨fdD, FD⟩ := c.def_ 10 (d := ⟨("DealError", some "__init__"), "__init__", "DealError.__init__", defArgs (inClass (topS 4) 0), defBody (inClass (topS 4) 0), defScope (inClass (topS 4) 0), [.str ""], []⟩) rfl
  have FD2 : FunD K "__init__" "DealError.__init__" (defArgs sDE) (defBody sDE) (defScope sDE) [.str ""] [] (ma K (He.ga K "DealError") "__init__") fdD := FD
  obtain ⟨ds, vds, bD⟩ := FD2.binds1 (ps := ["self", "message"]) 2 1 (by simp) rfl (fun T kV doc pm an cdv ct us its hl hi => match us, its, hl, hi with | [_, _], [_], _, _ => ⟨_, rfl, rfl⟩)
  have eds : ds = [] := by
    cases vds
    rfl
  subst eds
  have D : DEf P w K mg base := ⟨⟨He.ga K "DealError", _, fdD, _, .type "type", fm.de.rd, fm.de.fc, ok_DE FD2 mValueError fm.de.vV, FD2.kp, bD, gDE⟩⟩
  obtain ⟨fdIn, FIn⟩ := c.def_ 0 (d := dF "_in_tuples" 2) rfl
  have EIn : L2.Fun K "_in_tuples" "_in_tuples" (topS 2) (He.ga K "_in_tuples") fdIn := fun_of FIn
  have cIn : Cal P w K mg base 1 "_in_tuples" spInI := ⟨⟨_, _, _, ok_in EIn misinstance mlist mtuple, glo_ok X G (fa 9 (f := .glo "_in_tuples") rfl), EIn.kp, EIn.binds fun _ _ _ _ _ _ us hl => match us, hl with | [_, _], _ => rfl⟩⟩
  obtain ⟨fdKept, FKept⟩ := c.def_ 1 (d := dF "_kept" 3) rfl
  have EKept : L2.Fun K "_kept" "_kept" (topS 3) (He.ga K "_kept") fdKept := fun_of FKept
  have cKept : Cal P w K mg base 2 "_kept" spKeptI := ⟨⟨_, _, _, ok_kept EKept cIn mDeep, glo_ok X G (fa 10 (f := .glo "_kept") rfl), EKept.kp, EKept.binds fun _ _ _ _ _ _ us hl => match us, hl with | [_], _ => rfl⟩⟩
  have I := inits (P := P) (w := w) (base := base) X G c fm D cKept
  have T : ∀ i, i < 47 → ExT K (cs K i) := fun i hi => by
    have e : tab[i]? = some tab[i] := List.getElem?_eq_getElem (by rw [tab_len]; exact hi)
    rw [cs_at e]
    exact (fm.ex e).t fm.de
  have M : ∀ k x fs, tab[k]? = some (x, fs) → Mke P w K mg base x (cs K k) fs := fun k x fs e => by
    obtain ⟨fd, ps, F, b⟩ := I k x fs e
    have E := fm.ex e
    rw [cs_at e]
    exact ⟨E.t fm.de, E.nf, PySem.W.mg_of X G E.glo, _, fd, ps, F, E.i, E.ti, b⟩
  have kit : ∀ i j, i < 47 → j < 47 → PySem.W.kitOne K (.ref (cs K i)) (.ref (cs K j)) = some (decide (i = j)) := fun i j hi hj => by
    have e1 : tab[i]? = some tab[i] := List.getElem?_eq_getElem (by rw [tab_len]; exact hi)
    have e2 : tab[j]? = some tab[j] := List.getElem?_eq_getElem (by rw [tab_len]; exact hj)
    rw [cs_at e1, cs_at e2, (fm.ex e1).kit (fm.ex e2) (fm.nD e2)]
    congr 1
    by_cases hij : i = j
    · rw [decide_eq_true hij, decide_eq_true ((fm.nd e1 e2).mpr hij)]
    · rw [decide_eq_false hij, decide_eq_false (fun z => hij ((fm.nd e1 e2).mp z))]
  have kD : ∀ i, i < 47 → PySem.W.kitOne K (.ref (cs K i)) (.ref (He.ga K "DealError")) = some true := fun i hi => by
    have e1 : tab[i]? = some tab[i] := List.getElem?_eq_getElem (by rw [tab_len]; exact hi)
    rw [cs_at e1]
    exact (fm.ex e1).kitD (fm.nD e1) fm.de.ic fm.de.ty
  have kV : ∀ i, i < 47 → PySem.W.kitOne K (.ref (cs K i)) (.type "ValueError") = some true := fun i hi => by
    have e1 : tab[i]? = some tab[i] := List.getElem?_eq_getElem (by rw [tab_len]; exact hi)
    rw [cs_at e1]
    exact (fm.ex e1).ve
  obtain ⟨fdHand, FHand⟩ := c.def_ 2 (d := dF "_law_hand" 53) rfl
  have EHand : L2.Fun K "_law_hand" "_law_hand" (topS 53) (He.ga K "_law_hand") fdHand := fun_of FHand
  have cHand : Cal P w K mg base 1 "_law_hand" (spHand K) := ⟨⟨_, _, _, ok_hand EHand mint mlen mabs, glo_ok X G (fa 11 (f := .glo "_law_hand") rfl), EHand.kp, EHand.binds fun _ _ _ _ _ _ us hl => match us, hl with | [_], _ => rfl⟩⟩
  obtain ⟨fdMixed, FMixed⟩ := c.def_ 3 (d := dF "_law_mixed" 54) rfl
  have EMixed : L2.Fun K "_law_mixed" "_law_mixed" (topS 54) (He.ga K "_law_mixed") fdMixed := fun_of FMixed
  have cMixed : Cal P w K mg base 1 "_law_mixed" spMixed := ⟨⟨_, _, _, ok_mixed EMixed mint, glo_ok X G (fa 12 (f := .glo "_law_mixed") rfl), EMixed.kp, EMixed.binds fun _ _ _ _ _ _ us hl => match us, hl with | [_, _], _ => rfl⟩⟩
  obtain ⟨fdTake, FTake⟩ := c.def_ 4 (d := dF "_law_take" 55) rfl
  have ETake : L2.Fun K "_law_take" "_law_take" (topS 55) (He.ga K "_law_take") fdTake := fun_of FTake
  have cTake : Cal P w K mg base 2 "_law_take" spTake := ⟨⟨_, _, _, ok_take ETake mint mlen cMixed, glo_ok X G (fa 13 (f := .glo "_law_take") rfl), ETake.kp, ETake.binds fun _ _ _ _ _ _ us hl => match us, hl with | [_, _], _ => rfl⟩⟩
  obtain ⟨fdPairs, FPairs⟩ := c.def_ 5 (d := dF "_law_pairs" 56) rfl
  have EPairs : L2.Fun K "_law_pairs" "_law_pairs" (topS 56) (He.ga K "_law_pairs") fdPairs := fun_of FPairs
  have cPairs : Cal P w K mg base 5 "_law_pairs" (sp_pairs (cs K)) := ⟨⟨_, _, _, ok_law_pairs EPairs M, glo_ok X G (fa 14 (f := .glo "_law_pairs") rfl), EPairs.kp, EPairs.binds fun _ _ _ _ _ _ us hl => match us, hl with | [_, _], _ => rfl⟩⟩
  obtain ⟨fdSingles, FSingles⟩ := c.def_ 6 (d := dF "_law_singles" 57) rfl
  have ESingles : L2.Fun K "_law_singles" "_law_singles" (topS 57) (He.ga K "_law_singles") fdSingles := fun_of FSingles
  have cSingles : Cal P w K mg base 5 "_law_singles" (sp_singles (cs K)) := ⟨⟨_, _, _, ok_law_singles ESingles M, glo_ok X G (fa 15 (f := .glo "_law_singles") rfl), ESingles.kp, ESingles.binds fun _ _ _ _ _ _ us hl => match us, hl with | [_], _ => rfl⟩⟩
  obtain ⟨fdOthers, FOthers⟩ := c.def_ 7 (d := dF "_law_others" 58) rfl
  have EOthers : L2.Fun K "_law_others" "_law_others" (topS 58) (He.ga K "_law_others") fdOthers := fun_of FOthers
  have cOthers : Cal P w K mg base 5 "_law_others" (sp_others (cs K)) := ⟨⟨_, _, _, ok_law_others EOthers M, glo_ok X G (fa 16 (f := .glo "_law_others") rfl), EOthers.kp, EOthers.binds fun _ _ _ _ _ _ us hl => match us, hl with | [_], _ => rfl⟩⟩
  obtain ⟨fdClasses, FClasses⟩ := c.def_ 8 (d := dF "_law_classes" 59) rfl
  have EClasses : L2.Fun K "_law_classes" "_law_classes" (topS 59) (He.ga K "_law_classes") fdClasses := fun_of FClasses
  have cClasses : Cal P w K mg base 1 "_law_classes" (spClasses (cs K)) := ⟨⟨_, _, _, ok_law_classes EClasses misinstance M T kit, glo_ok X G (fa 17 (f := .glo "_law_classes") rfl), EClasses.kp, EClasses.binds fun _ _ _ _ _ _ us hl => match us, hl with | [_], _ => rfl⟩⟩
  exact ok_law EL misinstance mlen mrange mValueError gDE T kD kV cHand cTake cPairs cSingles cOthers cClasses
end
end My
open PySem PySem.W PySem.Calls PyProof.Rows
theorem PySem.Challenge.cw_meetwhere_k00_errors_side_by_side_holds : PySem.Challenge.rw_meetwhere_k00_errors_side_by_side.Holds := by
  w_on; o_law
  refine HandSHeadRun.head_any (r := OpenLaw.row PySem.Challenge.rw_meetwhere_k00_errors_side_by_side) (q := view (OpenLaw.row PySem.Challenge.rw_meetwhere_k00_errors_side_by_side).prog [60]) (H := My.hk) (ob := My.ob) (M := 14000) (loose := My.names) (d := HandSHeadRun.topDef (OpenLaw.row PySem.Challenge.rw_meetwhere_k00_errors_side_by_side).prog 60) (kwd := []) My.ob_eq
    (by kernel_rfl) (fun s => by kernel_rfl) My.run (by kernel_rfl) (by kernel_rfl) (by kernel_rfl) (by rfl) (by first | assumption | decide +kernel) (by decide +kernel) ⟨rfl, rfl, rfl, rfl, rfl, by decide +kernel⟩ ?hw ?hc
  case hw => w_witness2
  case hc =>
    refine L2.walk_ofE (l := PySem.Challenge.rw_meetwhere_k00_errors_side_by_side) (n := 63) (k := 6) (x := "_law_script") (CX := L2.CX0) rfl (by decide) (by kernel_rfl) ⟨rfl, by decide, by decide⟩ ?F (fun _ _ _ _ z => z)
    intro w mg fa h Y G hmg0
    obtain ⟨K, KX, c⟩ := Y
    have hmg : mg ("law" : PySem.Str) = some (.ref fa) := by
      have e : (HandSHeadRun.topDef (OpenLaw.row PySem.Challenge.rw_meetwhere_k00_errors_side_by_side).prog 60).name = ("law" : PySem.Str) := by kernel_rfl
      rw [← e]
      exact hmg0
    have hga : mg ("law" : PySem.Str) = some (.ref (He.ga K "law")) := He.glo_ok KX G (List.all_eq_true.mp (He.ba (show (MyH.famAll K "DealError" My.tab && My.fas.all fun f => f.ok K) = true from c.fact)).2 (.glo "law") (List.mem_of_getElem? (i := 18) rfl))
    have efa : He.ga K "law" = fa := Value.ref.inj (Option.some.inj (hga.symm.trans hmg))
    obtain ⟨fd, hb, hF⟩ := My.law_ok (P := (PySem.Challenge.rw_meetwhere_k00_errors_side_by_side).prog) (w := w) KX G c
    rw [efa] at hF
    exact ⟨K, fd, My.spLaw K, KX, hb, fun H a ns hl _ hS => ⟨a, ns, rfl, hS, hl, fun _ => rfl⟩, fun base _ _ => hF base⟩
