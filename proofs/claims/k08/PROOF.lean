import PyProof.Rows.All
import Wide.All
import OpenK.AllK
import Wide.FinOn
import KE.KExcIs
import HandS.ForMost
import HandS.Exc
import HandS.ExcInit
import HandS.IsInst
import HandS.ClsMeth
import HandS.Defaults
import KE.KStateDown
import HandS.Head0
import HandS.Head1
import HandS.Head2
import HandS.HeadEnd
import HandS.HeadHook1
import HandS.HeadHook2
import HandS.Property
import PyProof.ReprRoads
import HandS.SetFor
import HandS.Strs
import HandS.Rev
import PyProof.Rows.SetFrom
import HandS.Conv
import HandS.OwnEq
import HandS.ExcCtx
import HandS.HotCalls
import HandS.ExcOwn
import HandS.Wide
import HandS.Codes
import HandS.WordsExc
import HandS.TupAny
import HandS.Zip
import HandS.Walk
import KE.GoesMore
import HandS.DictComp
import HandS.Flow
import HandS.ExcField
import HandS.ExcIs
import HandS.Style
import PySem.Challenge.RW_meetwhere_k08_sorts_made_and_values_numb
set_option Elab.async false
set_option linter.all false
set_option maxRecDepth 100000
namespace My
open PySem
/-- the text, by places -/
def topS (i : Nat) : Stmt := PySem.Challenge.pw_meetwhere_k08_sorts_made_and_values_numb.main.body.getD i (.Pass ⟨0, 0, 0, 0⟩)
end My
set_option Elab.async false
set_option linter.all false
set_option maxRecDepth 100000
set_option maxHeartbeats 4000000
namespace My
open PySem PySem.Spec PyProof.Rows L2
/-! ### exceptions of the program's own, made and kept as values -/
/-- what the walk asks of such a class, beside OexC -/
structure ExT (K : PySem.W.Frag) (C : Addr) : Prop where
  o : OexC K C
  atr : PySem.W.findIn K (.ref C) "__getattribute__" = some (some (.builtin "BaseException.__getattribute__"))
  atg : PySem.W.findIn K (.ref C) "__getattr__" = some none
  isc : PySem.W.isClsIn K C = true
  dct : PySem.W.hasDictIn K C = true
  cl : PySem.W.findIn K (.ref C) "__class__" = some (some (.builtin "object.__class__"))
  gt : PySem.W.specialIn K (.builtin "object.__class__") "__get__" = some (some (.builtin "getset_descriptor.__get__"))
  tk : PySem.W.takesIn K (.builtin "object.__class__") = some true
  ob : PySem.W.mroIn K C (.type "object") = some true
/-- at a: an exception of the class at C with these attributes -/
def ExAt (H : Hp) (a C : Addr) (fs : List (Str × V)) : Prop := ∃ dx, H a = some (exo a C (some dx)) ∧ H dx = some (exd dx fs)
theorem ExAt.keep {H H' : Hp} {a C : Addr} {fs : List (Str × V)} (h : ExAt H a C fs) (s : Same H H') : ExAt H' a C fs := by
  obtain ⟨dx, h1, h2⟩ := h
  exact ⟨dx, s _ _ h1, s _ _ h2⟩
section
variable {X : Cx} {pins : List (Addr × Obj)} {σ : L2.St} {H : Hp} {s : Shared} {a C : Addr} {fs : List (Str × V)}
theorem exAt_inst (I : Inv X pins σ H s) (h : ExAt H a C fs) : ∃ (oe od : Obj), PySem.W.InstAt s.heap a oe C (some od) ∧ ∃ mA : Str → Option Value, (∀ f, PySem.W.lookIn f od = some (mA f)) ∧ ∀ f, RelO (fs.lookup f) (mA f) := by
  obtain ⟨dx, h1, h2⟩ := h
  obtain ⟨t1, e1⟩ := exo_at I.hok h1
  obtain ⟨mA, hns, hr⟩ := exd_at I.hok h2
  obtain ⟨od, ho, hl⟩ := lookIn_ns hns
  exact ⟨_, od, ⟨e1, rfl, rfl, ho⟩, mA, hl, hr⟩
/-- e.f of such an exception -/
def tExF (K : PySem.W.Frag) (ta : TE) (f : Str) : TE := fun σ H Q => ta σ H fun x H1 => ∃ a C fs v, x = .ref a ∧ ExAt H1 a C fs ∧ ExT K C ∧ PySem.W.findIn K (.ref C) f = some none ∧ fs.lookup f = some v ∧ Q v H1
theorem pe_exf {e : Expr} {f : Str} {ta : TE} {pos : Pos} (he : PE X e ta) (hb : attributeBase e f X.env (eval e X.env) = eval e X.env := by rfl) : PE X (.Attribute e f pos) (tExF X.K ta f) := by
  refine ⟨fun pins s σ H Q I h => ?_⟩
  refine attr_of hb (thn (he.run pins s σ H _ I h) fun u s1 ⟨x, H1, I1, rx, a, C, fs, v, ex, ea, T, hno, hl, q⟩ => ?_)
  subst ex
  obtain rfl : u = Value.ref a := rx
  obtain ⟨oe, od, J, mA, hm, hr⟩ := exAt_inst I1 ea
  have hrf := hr f
  rw [hl] at hrf
  obtain ⟨u, hu, ru⟩ := RelO.some_of hrf
  exact HandSPX.exc_get I1.kIn J T.atr T.atg T.o.exC (PySem.W.findObj_own T.dct hno rfl (by rw [hm, hu])) (handed_of ru) ⟨v, H1, I1.tok _, ru, q⟩
/-- isinstance(e, c) -/
def rIsV (K : PySem.W.Frag) : List V → Hp → VK → Prop := fun xs H Q => ∃ (a C : Addr) (fs : List (Str × V)) (c : V) (u : Value) (b : Bool), xs = [.ref a, c] ∧ ExAt H a C fs ∧ ExT K C ∧ ClsV c u ∧ PySem.W.kitOne K (.ref C) u = some b ∧ Q (.bl b) H
theorem call_isV : CallR X (.builtin "isinstance") (rIsV X.K) := by
  intro pins s σ H xs us Q I r h
  obtain ⟨a, C, fs, c, u, b, rfl, ea, T, k, e, q⟩ := h
  obtain ⟨u1, u2, rfl, r1, r2⟩ := vals2 r
  have e2 := k.eq r2
  subst e2
  obtain rfl : u1 = Value.ref a := r1
  obtain ⟨oe, od, J, _⟩ := exAt_inst I ea
  exact PySem.W.kia_one (PySem.W.kitx_exc T.isc T.atr T.atg T.o.exC T.cl T.gt T.tk T.ob) I.kIn J e (fun z => nomatch z) fun tk => ⟨.bl b, H, I.tok tk, rfl, q⟩
end
/-! ### D.m(..), D a class of the program, m a def of it -/
section
variable {X : Cx} {k j : Nat} {x m : Str} {sp : Sp} {p p1 p2 pos : Pos} {e : Expr} {es : List Expr} {t : TA} {D f : Addr} {fd : FuncData} {ps : List Str} {mc : Value}
theorem pe_clsfn {pl : Sem Bool} (r : ClX.CRead X.K D mc) (e0 : PySem.W.findCls X.K (.ref D) mc m = some (.val (.ref f))) (F : FnOk X.prog X.w X.K X.mg X.base CX0 k f fd ps sp) (hr : Room j X.A) (hk : k ≤ j) (kp : PySem.W.keepIn X.K (.ref f) = true) (hb : Binds X.K fd ps []) (hg : Gl X x) (hm : X.mg x = some (.ref D)) (ha : PA X (e :: es) t)
    (hc : eval (.Call (.Attribute (.Name x p1) m p2) (e :: es) [] pos) X.env = (do
      let ov ← eval (.Name x p1) X.env
      standAt p2.atName
      let (f, first) ← holding [ov] (getMethod ov m pl)
      callWith pos f first (backTo pos (starEach (e :: es) X.env)) (backToKw pos (keywordEach [] X.env))) := by rfl)
    (hdg : (x == ("__debug__" : Str)) = false := by decide)
    (hst : starEach (e :: es) X.env = (false, eval e X.env) :: starEach es X.env := by rfl) (hpn : (backTo pos (starEach es X.env)).any (·.1) = false := by rfl) :
    PE X (.Call (.Attribute (.Name x p1) m p2) (e :: es) [] pos) (tCall sp [] E0 t) := by
  refine ⟨fun pins s σ H Q I h => ?_⟩
  refine PySem.W.methodCall_KW (ld_glob I hg hm ?_ hdg) hc
  refine PySem.W.method_cls I.kIn r.ga (PySem.W.cls_value I.kIn r.rd e0 rfl ?_)
  show wpAny _ _ (callWith pos (Value.ref f) [] (backTo pos (starEach (e :: es) X.env)) []) _ _ _
  refine PySem.W.callWith_K (h₀ := X.base) I.ok.mod.kin kp (thn (ha.run pos pins _ σ H _ (I.tok _) h) fun us s1 ⟨vs, H1, I1, r, q⟩ => ⟨I1.kIn, ?_⟩) hst hpn
  exact run_fn F (hr.mono hk) hb .nil pass0 I1 r q
end
/-! ### C(e, ..) as a value -/
def tMkV (C : Addr) (sp : Sp) (vs : List V) (H1 : Hp) (Q : VK) : Prop := vs.length ≤ 1000 ∧ ∀ a, H1 a = none → sp (.ref a :: vs) (upd H1 a (exo a C none)) (fun v H2 => v = .non ∧ Q (.ref a) H2) E0
section
variable {X : Cx} {k j : Nat} {x : Str} {sp : Sp} {p pos : Pos} {e : Expr} {es : List Expr} {ta : TA} {C fI : Addr} {fd : FuncData} {ps : List Str}
theorem pe_mkv (T : OexC X.K C) (iC : PySem.W.findIn X.K (.ref C) "__init__" = some (some (.ref fI))) (tI : PySem.W.typeIn X.K (.ref fI) = some (.type "function"))
    (F1 : FnOk X.prog X.w X.K X.mg X.base CX0 k fI fd ps sp) (hr : Room j X.A) (hk : k + 1 ≤ j) (hb : Binds X.K fd ps []) (hg : Gl X x) (hm : X.mg x = some (.ref C)) {R : List V → Hp → VK → Prop} (cv : ∀ vs H1 Q, R vs H1 Q → tMkV C sp vs H1 Q) (ha : PA X (e :: es) ta)
    (hdg : (x == ("__debug__" : Str)) = false := by decide) (hst : starEach (e :: es) X.env = (false, eval e X.env) :: starEach es X.env := by rfl) (hpn : (backTo pos (starEach es X.env)).any (·.1) = false := by rfl) :
    PE X (.Call (.Name x p) (e :: es) [] pos) (tCB R ta) := by
  obtain ⟨nm, qn, N, bs, bm, sn, sub, ab, col, dd, k0, k1, k2, k3, k5, hC, hbm⟩ := T.cls
  refine ⟨fun pins s σ H Q I hRead => wpAny_Call_Name_kw (ld_glob I hg hm (PySem.W.callWith_K (h₀ := X.base) I.ok.mod.kin T.kC (thn (ha.run pos pins s σ H _ I hRead) fun us s1 ⟨vs, H1, I1, rvs, q0⟩ => ⟨I1.kIn, ?_⟩) hst hpn) hdg)⟩
  obtain ⟨few, wish⟩ := cv _ _ _ q0
  obtain ⟨heap, gens, drawn, toks, world⟩ := s1
  -- the tuple of the arguments lies at the heap's end, the exception behind it
  obtain ⟨top, htop⟩ : ∃ top, top = heap.objs.size := ⟨_, rfl⟩
  have fresh : H1 (top + 1) = none := I1.hok.fresh (by show heap.objs.size ≤ _; omega)
  have promised := wish (top + 1) fresh
  have lies : ((heap.push (PySem.W.kdv_tup us)).push (PySem.HandSPX.excO C top)).get? (top + 1) = some (PySem.HandSPX.excO C top) := by
    subst htop
    heap_get
  have J : Inv X pins σ (upd H1 (top + 1) (exo (top + 1) C none)) ⟨(heap.push (PySem.W.kdv_tup us)).push (PySem.HandSPX.excO C top), gens, drawn, toks, world⟩ :=
    Inv.laid (t' := toks) I1 (fun b o z => Heap.get?_push_of_some _ (Heap.get?_push_of_some _ z)) (by show heap.objs.size ≤ _; omega) (exo_ok lies)
  have rAll : Vals (V.ref (top + 1) :: vs) (Value.ref (top + 1) :: us) := .cons rfl rvs
  have lens : (Value.ref (top + 1) :: us).length = ps.length := rAll.length.symm.trans (F1.len _ _ _ _ promised)
  have fits : us.length ≤ sizeLine := Nat.le_trans (Nat.le_of_eq rvs.length.symm) (Nat.le_trans few (by decide))
  have bound := hb _ (Value.ref (top + 1) :: us) J.kIn (by rw [List.append_nil]; exact lens)
  rw [List.append_nil] at bound
  have ran := F1.run _ X.stack _ _ ⟨Value.ref (top + 1) :: us, []⟩ (Value.ref (top + 1) :: us) _ _ E0 ((hr.mono hk).make C us []) (J.env0.make C us []) bound rAll promised
  show wpAny _ _ (call (.ref C) us) _ _ _
  subst htop
  refine wpAny_call (PySem.HandSPX.call_own F.excBase_ValueError (fun Y => PySem.HandSPX.refsVE_contains Y bm hbm) (I1.kIn _ _ hC) (PySem.W.looks_findIn I1.kIn iC) (fun self => PySem.W.bind_fn I1.kIn self tI) fits (codeAny_mono ran fun r s' ended => ?_))
  match r, ended with
  | .error _, z => exact z.elim
  | .ok .next, z => exact False.elim z
  | .ok .brk, z => exact False.elim z
  | .ok .cont, z => exact False.elim z
  | .ok (.ret u), ⟨v, H2, os2, bare2, un2, hok2, rv, ev, q2⟩ =>
    subst ev
    exact ⟨rv, .ref _, H2, J.call' (ch := []) os2 un2 hok2 bare2 (fun b z => absurd z (by simp)), rfl, q2⟩
end
end My
set_option Elab.async false
set_option linter.all false
set_option maxRecDepth 100000
set_option maxHeartbeats 4000000
namespace MyH
open PySem PySem.Spec PyProof.Rows L2 He
/-! ### a Hook of any look at the written part -/
abbrev Al : Type := Bool × AlD
/-- what the facts want of the heap, by paths: the module's names, their functions' code and defaults, the classes' own names, these names' functions' code and defaults -/
def refsN (g : Addr → Option Obj) (a : Addr) : List Addr := match g a with
  | some ⟨_, _, .dict es _, _⟩ => es.toList.flatMap fun e => refV e.val
  | _ => []
def refsF (g : Addr → Option Obj) (a : Addr) : List Addr := match g a with
  | some ⟨_, _, .func fd, _⟩ => refV fd.code ++ refV fd.defaults
  | some ⟨_, _, .cls cd, _⟩ => [cd.ns]
  | _ => []
def asM (g : Addr → Option Obj) : List Addr :=
  let names := refsN g mainGlobals
  let parts := names.flatMap (refsF g)
  let own := parts.flatMap (refsN g)
  names ++ parts ++ own ++ own.flatMap (refsF g) ++ [mainGlobals, PySem.cStatics]
def obsM (F : PySem.W.Frag → Bool) (fn : List DefD) (K : PySem.W.Frag) : Al := (F K, obsD [] fn K)
def valM (fn : List DefD) : Al := (true, valD fn)
def SaysM (F : PySem.W.Frag → Bool) (fn : List DefD) (K : PySem.W.Frag) : Prop := obsM F fn K = valM fn
def obsMG (F : PySem.W.Frag → Bool) (fn : List DefD) (g : Addr → Option Obj) : Al := obsM F fn (frG g (asM g))
def hookM (F : PySem.W.Frag → Bool) (fn : List DefD) : PySem.W.Hook where
  α := Al
  obs := fun s => obsMG F fn s.heap.get?
  val := fun _ => valM fn
  says := fun _ h => ∃ K : PySem.W.Frag, K.In h ∧ SaysM F fn K
  of := fun _ _ z => Exists.intro _ (And.intro frG_in z)
  keeps := fun _ _ _ z k => Exists.elim z fun K y => ⟨K, PySem.W.Frag.In.keeps y.1 k, y.2⟩
theorem obsMG_eq {F : PySem.W.Frag → Bool} {fn : List DefD} {g : Addr → Option Obj} {s : Shared} (h : ∀ a, g a = s.heap.get? a) : obsMG F fn g = (hookM F fn).obs s := by
  obtain rfl : g = s.heap.get? := funext h
  rfl
section
variable {F : PySem.W.Frag → Bool} {fn : List DefD} {K : PySem.W.Frag}
theorem SaysM.fact (c : SaysM F fn K) : F K = true := congrArg (fun z : Al => z.1) c
theorem SaysM.def_ (c : SaysM F fn K) (i : Nat) {d : DefD} (h : fn[i]? = some d := by rfl) : ∃ fd, FunD K d.name d.qual d.params d.body d.scope (d.dvs K) (d.kws K) (fAd K d.at_) fd :=
  He.SaysD.def_ (fa := []) (show SaysD [] fn K from congrArg (fun z : Al => z.2) c) i h
end
/-- without defaults it is a def of the short words -/
theorem fun_of {K : PySem.W.Frag} {x qual : Str} {st : Stmt} {f : Addr} {fd : FuncData} {kws : List (Str × V)} (F : FunD K x qual (defArgs st) (defBody st) (defScope st) [] kws f fd) : L2.Fun K x qual st f fd := by
  obtain ⟨c1, c2, dv, kv, c3, c4, c5, c6, c7, c8, rfl, stands, coded, dfl, _⟩ := F.ex
  have nodfl : dv = .none := dfl.elim (fun z => z.2) fun z => absurd rfl z.1
  subst nodfl
  exact ⟨⟨c1, c2, kv, c3, c4, c5, c6, c7, c8, rfl, stands, coded⟩, F.kp⟩
/-! ### a list of numbers, reckoned once -/
def natsF : List Nat → (List Nat → Bool) → Bool
  | [], k => k []
  | a :: r, k => HandSHeadRun.frNat a fun a' => natsF r fun r' => k (a' :: r')
theorem natsF_eq : ∀ (l : List Nat) (k : List Nat → Bool), natsF l k = k l
  | [], _ => rfl
  | a :: r, k => by
    show HandSHeadRun.frNat a (fun a' => natsF r fun r' => k (a' :: r')) = k (a :: r)
    rw [HandSHeadRun.frNat_eq, natsF_eq r]
/-! ### an exception class of the program's own, D the address of its base class of the program's own -/
def slB (sl : List (Option Value)) : Bool := match sl with
  | [_, _, _, _, some (.builtin z), _] => decide (z = "ValueError.__new__")
  | _ => false
theorem slB_ok {sl : List (Option Value)} (h : slB sl = true) : ∃ k0 k1 k2 k3 k5, sl = [k0, k1, k2, k3, some (.builtin "ValueError.__new__"), k5] := by
  unfold slB at h
  split at h
  · rename_i k0 k1 k2 k3 z k5
    exact ⟨k0, k1, k2, k3, k5, by rw [of_decide_eq_true h]⟩
  · cases h
def fourC (K : PySem.W.Frag) (C : Addr) (bm : List Value) : Bool := match K.lookup C with
  | some ⟨.type t, dd, .cls ⟨nm, bs, mro, N, q, hd, sn, sub, ab, col, del⟩, sl⟩ => decide (t = "type") && (decide (mro = .ref C :: bm) && (hd && (!del && slB sl.toList)))
  | _ => false
theorem fourC_ok {K : PySem.W.Frag} {C : Addr} {bm : List Value} (h : fourC K C bm = true) : ∃ nm q N bs sn sub ab col dd k0 k1 k2 k3 k5, K.lookup C = some (excClassObj nm q C N bs bm true sn sub ab col dd k0 k1 k2 k3 k5 "ValueError.__new__") := by
  unfold fourC at h
  cases q : K.lookup C with
  | none =>
    rw [q] at h
    cases h
  | some o =>
    rw [q] at h
    obtain ⟨oc, od, dt, sl⟩ := o
    cases oc with
    | type t =>
      cases dt with
      | cls cd =>
        obtain ⟨nm, bs, mro, N, qn, hd, sn, sub, ab, col, del⟩ := cd
        obtain ⟨h1, h⟩ := ba (show (decide (t = "type") && (decide (mro = .ref C :: bm) && (hd && (!del && slB sl.toList)))) = true from h)
        obtain ⟨h2, h⟩ := ba h
        obtain ⟨h3, h⟩ := ba h
        obtain ⟨h4, h5⟩ := ba h
        have e1 := of_decide_eq_true h1
        have e2 := of_decide_eq_true h2
        have e4 : del = false := by
          cases del with
          | false => rfl
          | true => cases h4
        subst e1 e2 h3 e4
        obtain ⟨l⟩ := sl
        obtain ⟨k0, k1, k2, k3, k5, rfl⟩ := slB_ok h5
        exact ⟨nm, qn, N, bs, sn, sub, ab, col, od, k0, k1, k2, k3, k5, rfl⟩
      | _ => cases h
    | _ => cases dt <;> cases h
def veTl : List Value := [.type "ValueError", .type "Exception", .type "BaseException", .type "object"]
def isS (a b : Option Value) : Bool := decide (a = b)
/-- what stands of the class at C, named x, under D (its own names fs are no attributes of the class) -/
def exB (K : PySem.W.Frag) (D C : Addr) (x : Str) (fs : List Str) : Bool :=
  eqO (PySem.W.nsIn K mainGlobals x) (some (some (.ref C))) && (fourC K C (.ref D :: veTl) && (eqO (PySem.W.findIn K (.ref C) "__setattr__") (some (some (.builtin "object.__setattr__"))) && (decide (PySem.W.subIn K (.ref C) (.type "BaseException") = some true) &&
  (isS (PySem.W.typeIn K (.ref C)) (some (.type "type")) && (PySem.W.keepIn K (.ref C) && (eqO (PySem.W.findIn K (.ref C) "__getattribute__") (some (some (.builtin "BaseException.__getattribute__"))) && (eqO (PySem.W.findIn K (.ref C) "__getattr__") (some none) &&
  (eqO (PySem.W.findIn K (.ref C) "__class__") (some (some (.builtin "object.__class__"))) && (decide (PySem.W.mroIn K C (.type "object") = some true) && (fs.all (fun f => eqO (PySem.W.findIn K (.ref C) f) (some none)) &&
  (eqO (PySem.W.findIn K (.ref C) "__init__") (some (some (.ref (ma K C "__init__")))) && (isS (PySem.W.typeIn K (.ref (ma K C "__init__"))) (some (.type "function")) && decide (PySem.W.kitOne K (.ref C) (.type "ValueError") = some true)))))))))))))
structure ExBo (K : PySem.W.Frag) (D C : Addr) (x : Str) (fs : List Str) : Prop where
  glo : PySem.W.nsIn K mainGlobals x = some (some (.ref C))
  o : OexC K C
  mro : ∃ cd, PySem.W.clsIn K C = some cd ∧ cd.mro = .ref C :: .ref D :: veTl ∧ cd.hasDict = true
  atr : PySem.W.findIn K (.ref C) "__getattribute__" = some (some (.builtin "BaseException.__getattribute__"))
  atg : PySem.W.findIn K (.ref C) "__getattr__" = some none
  cl : PySem.W.findIn K (.ref C) "__class__" = some (some (.builtin "object.__class__"))
  ob : PySem.W.mroIn K C (.type "object") = some true
  nf : ∀ f ∈ fs, PySem.W.findIn K (.ref C) f = some none
  i : PySem.W.findIn K (.ref C) "__init__" = some (some (.ref (ma K C "__init__")))
  ti : PySem.W.typeIn K (.ref (ma K C "__init__")) = some (.type "function")
  ve : PySem.W.kitOne K (.ref C) (.type "ValueError") = some true
theorem exB_ok {K : PySem.W.Frag} {D C : Addr} {x : Str} {fs : List Str} (h : exB K D C x fs = true) : ExBo K D C x fs := by
  obtain ⟨h1, h⟩ := ba h
  obtain ⟨h2, h⟩ := ba h
  obtain ⟨h3, h⟩ := ba h
  obtain ⟨h4, h⟩ := ba h
  obtain ⟨h5, h⟩ := ba h
  obtain ⟨h6, h⟩ := ba h
  obtain ⟨h7, h⟩ := ba h
  obtain ⟨h8, h⟩ := ba h
  obtain ⟨h9, h⟩ := ba h
  obtain ⟨h10, h⟩ := ba h
  obtain ⟨h11, h⟩ := ba h
  obtain ⟨h12, h⟩ := ba h
  obtain ⟨h13, h14⟩ := ba h
  obtain ⟨nm, q, N, bs, sn, sub, ab, col, dd, k0, k1, k2, k3, k5, e⟩ := fourC_ok h2
  have hc : PySem.W.clsIn K C = some { name := nm, bases := bs, mro := .ref C :: .ref D :: veTl, ns := N, qualname := q, hasDict := true, slotNames := sn, subclasses := sub, abstract := ab, collection := col, hasDel := false } := by
    unfold PySem.W.clsIn
    rw [e]
  exact ⟨eqO_ok h1, ⟨⟨nm, q, N, bs, _, sn, sub, ab, col, dd, k0, k1, k2, k3, k5, e, (show PySem.HandSPX.refsVE veTl = true by decide +kernel)⟩, eqO_ok h3, of_decide_eq_true h4, of_decide_eq_true h5, h6⟩, ⟨_, hc, rfl, rfl⟩, eqO_ok h7, eqO_ok h8, eqO_ok h9, of_decide_eq_true h10,
    fun f hf => eqO_ok (List.all_eq_true.mp h11 f hf), eqO_ok h12, of_decide_eq_true h13, of_decide_eq_true h14⟩
/-- isinstance between two of these -/
theorem ExBo.kit {K : PySem.W.Frag} {D C C' : Addr} {x x' : Str} {fs fs' : List Str} (h : ExBo K D C x fs) (h' : ExBo K D C' x' fs') (hD : C' ≠ D) : PySem.W.kitOne K (.ref C) (.ref C') = some (decide (C = C')) := by
  by_cases e : C = C'
  · subst e
    rw [decide_eq_true rfl]
    exact if_pos (beq_self_eq_true (Value.ref C))
  · rw [decide_eq_false e]
    obtain ⟨cd, hc, hm, _⟩ := h.mro
    obtain ⟨cd', hc', _⟩ := h'.mro
    have n1 : ((Value.ref C == Value.ref C') = true) ↔ False := by
      constructor
      · intro z
        exact e (Value.ref.inj (beq_iff_eq.mp z))
      · exact False.elim
    unfold PySem.W.kitOne PySem.W.kitCls
    rw [if_neg (fun z => n1.mp z)]
    dsimp only
    rw [if_pos (by rw [hc', h'.o.tyC]; rfl)]
    show ((PySem.W.clsIn K C).bind fun cd => if cd.mro.isEmpty then none else some (cd.mro.contains (Value.ref C'))) = _
    rw [hc, Option.bind_some, hm]
    have n2 : (Value.ref C' == Value.ref C) = false := by
      apply Bool.eq_false_iff.mpr
      intro z
      exact e (Value.ref.inj (beq_iff_eq.mp z)).symm
    have n3 : (Value.ref C' == Value.ref D) = false := by
      apply Bool.eq_false_iff.mpr
      intro z
      exact hD (Value.ref.inj (beq_iff_eq.mp z))
    have n4 : veTl.contains (Value.ref C') = false := rfl
    have n5 : (Value.ref C :: Value.ref D :: veTl).contains (Value.ref C') = false := by
      rw [List.contains_cons, List.contains_cons, n2, n3, n4]
      rfl
    rw [n5]
    rfl
/-- .. and the base -/
theorem ExBo.kitD {K : PySem.W.Frag} {D C : Addr} {x : Str} {fs : List Str} (h : ExBo K D C x fs) (hD : C ≠ D) (hc' : PySem.W.isClsIn K D = true) (ht : PySem.W.typeIn K (.ref D) = some (.type "type")) : PySem.W.kitOne K (.ref C) (.ref D) = some true := by
  obtain ⟨cd, hc, hm, _⟩ := h.mro
  unfold PySem.W.kitOne PySem.W.kitCls
  rw [if_neg (fun z => hD (Value.ref.inj (beq_iff_eq.mp z)))]
  dsimp only
  have hc2 : (PySem.W.clsIn K D).isSome = true := hc'
  rw [if_pos (by rw [hc2, ht]; rfl)]
  show ((PySem.W.clsIn K C).bind fun cd => if cd.mro.isEmpty then none else some (cd.mro.contains (Value.ref D))) = _
  rw [hc, Option.bind_some, hm]
  have n5 : (Value.ref C :: Value.ref D :: veTl).contains (Value.ref D) = true := by
    rw [List.contains_cons, List.contains_cons, beq_self_eq_true (Value.ref D)]
    simp
  rw [n5]
  rfl
/-! ### the base class D itself -/
def deB (K : PySem.W.Frag) (D : Addr) (x : Str) : Bool :=
  eqO (PySem.W.nsIn K mainGlobals x) (some (some (.ref D))) && (PySem.W.readsIn K D (.type "type") && (eqO (PySem.W.specialIn K (.ref D) "__getattribute__") (some (some (.builtin "type.__getattribute__"))) && ((match PySem.W.findCls K (.ref D) (.type "type") "__init__" with
    | some (.val (.ref a)) => decide (a = ma K D "__init__")
    | _ => false) && (PySem.W.isClsIn K D && (isS (PySem.W.typeIn K (.ref D)) (some (.type "type")) && ((match PySem.W.findCls K (.type "ValueError") (.type "type") "__init__" with
    | some (.val (.builtin z)) => decide (z = "ValueError.__init__")
    | _ => false) && (eqO (PySem.W.specialIn K (.builtin "object.__class__") "__get__") (some (some (.builtin "getset_descriptor.__get__"))) && decide (PySem.W.takesIn K (.builtin "object.__class__") = some true))))))))
structure DeBo (K : PySem.W.Frag) (D : Addr) (x : Str) : Prop where
  glo : PySem.W.nsIn K mainGlobals x = some (some (.ref D))
  rd : ClX.CRead K D (.type "type")
  fc : PySem.W.findCls K (.ref D) (.type "type") "__init__" = some (.val (.ref (ma K D "__init__")))
  ic : PySem.W.isClsIn K D = true
  ty : PySem.W.typeIn K (.ref D) = some (.type "type")
  vV : PySem.W.findCls K (.type "ValueError") (.type "type") "__init__" = some (.val (.builtin "ValueError.__init__"))
  gt : PySem.W.specialIn K (.builtin "object.__class__") "__get__" = some (some (.builtin "getset_descriptor.__get__"))
  tk : PySem.W.takesIn K (.builtin "object.__class__") = some true
theorem deB_ok {K : PySem.W.Frag} {D : Addr} {x : Str} (h : deB K D x = true) : DeBo K D x := by
  obtain ⟨h1, h⟩ := ba h
  obtain ⟨h2, h⟩ := ba h
  obtain ⟨h3, h⟩ := ba h
  obtain ⟨h4, h⟩ := ba h
  obtain ⟨h5, h⟩ := ba h
  obtain ⟨h6, h⟩ := ba h
  obtain ⟨h7, h⟩ := ba h
  obtain ⟨h8, h9⟩ := ba h
  refine ⟨eqO_ok h1, ⟨h2, eqO_ok h3⟩, ?_, h5, of_decide_eq_true h6, ?_, eqO_ok h8, of_decide_eq_true h9⟩
  · split at h4
    · rename_i a e
      rw [e, of_decide_eq_true h4]
    · cases h4
  · split at h7
    · rename_i z e
      rw [e, of_decide_eq_true h7]
    · cases h7
theorem ExBo.t {K : PySem.W.Frag} {D C : Addr} {x y : Str} {fs : List Str} (h : ExBo K D C x fs) (d : DeBo K D y) : My.ExT K C := by
  obtain ⟨cd, hc, _, hh⟩ := h.mro
  exact ⟨h.o, h.atr, h.atg, by unfold PySem.W.isClsIn; rw [hc]; rfl, by unfold PySem.W.hasDictIn; rw [hc]; exact hh, h.cl, d.gt, d.tk, h.ob⟩
/-! ### a whole family of them -/
def nodB : List Nat → Bool
  | [] => true
  | a :: r => r.all (fun b => !Nat.beq a b) && nodB r
def famB (K : PySem.W.Frag) (D : Addr) : List Addr → List (Str × List Str) → Bool
  | [], [] => true
  | C :: Cs, p :: ps => exB K D C p.1 p.2 && famB K D Cs ps
  | _, _ => false
def famAll (K : PySem.W.Frag) (y : Str) (tab : List (Str × List Str)) : Bool := natsF ((y :: tab.map (·.1)).map (ga K)) fun As => match As with
  | D :: Cs => nodB (D :: Cs) && (deB K D y && famB K D Cs tab)
  | [] => false
theorem nodB_at : ∀ {l : List Nat}, nodB l = true → ∀ {i j : Nat} {a b : Nat}, l[i]? = some a → l[j]? = some b → i < j → a ≠ b
  | [], _, i, j, a, b, e, _, _ => by simp at e
  | x :: r, h, 0, j + 1, a, b, e1, e2, _ => by
    obtain ⟨h1, h2⟩ := ba (show (r.all (fun b => !Nat.beq x b) && nodB r) = true from h)
    have ea : x = a := Option.some.inj e1
    subst ea
    have hb := List.all_eq_true.mp h1 b (List.mem_of_getElem? e2)
    intro z
    subst z
    simp at hb
  | x :: r, h, i + 1, j + 1, a, b, e1, e2, l => by
    obtain ⟨h1, h2⟩ := ba (show (r.all (fun b => !Nat.beq x b) && nodB r) = true from h)
    exact nodB_at h2 (i := i) (j := j) e1 e2 (by omega)
  | x :: r, h, i, 0, a, b, e1, e2, l => by omega
theorem famB_at {K : PySem.W.Frag} {D : Addr} : ∀ {Cs : List Addr} {ps : List (Str × List Str)}, famB K D Cs ps = true → ∀ {i : Nat} {p : Str × List Str} {C : Addr}, ps[i]? = some p → Cs[i]? = some C → ExBo K D C p.1 p.2
  | [], [], _, i, p, C, e, _ => by simp at e
  | C :: Cs, p :: ps, h, 0, q, C', e1, e2 => by
    obtain ⟨h1, h2⟩ := ba (show (exB K D C p.1 p.2 && famB K D Cs ps) = true from h)
    have e3 : p = q := Option.some.inj e1
    have e4 : C = C' := Option.some.inj e2
    rw [← e3, ← e4]
    exact exB_ok h1
  | C :: Cs, p :: ps, h, i + 1, q, C', e1, e2 => by
    obtain ⟨h1, h2⟩ := ba (show (exB K D C p.1 p.2 && famB K D Cs ps) = true from h)
    exact famB_at h2 (i := i) e1 e2
  | [], _ :: _, h, _, _, _, _, _ => by cases h
  | _ :: _, [], h, _, _, _, _, _ => by cases h
structure Fam (K : PySem.W.Frag) (y : Str) (tab : List (Str × List Str)) : Prop where
  de : DeBo K (ga K y) y
  ex : ∀ {i : Nat} {p : Str × List Str}, tab[i]? = some p → ExBo K (ga K y) (ga K p.1) p.1 p.2
  nd : ∀ {i j : Nat} {p q : Str × List Str}, tab[i]? = some p → tab[j]? = some q → (ga K p.1 = ga K q.1 ↔ i = j)
  nD : ∀ {i : Nat} {p : Str × List Str}, tab[i]? = some p → ga K p.1 ≠ ga K y
theorem fam_ok {K : PySem.W.Frag} {y : Str} {tab : List (Str × List Str)} (h : famAll K y tab = true) : Fam K y tab := by
  unfold famAll at h
  rw [natsF_eq] at h
  have h' : (nodB (ga K y :: (tab.map (·.1)).map (ga K)) && (deB K (ga K y) y && famB K (ga K y) ((tab.map (·.1)).map (ga K)) tab)) = true := h
  obtain ⟨h1, h2⟩ := ba h'
  obtain ⟨h3, h4⟩ := ba h2
  have at1 : ∀ {i : Nat} {p : Str × List Str}, tab[i]? = some p → ((tab.map (·.1)).map (ga K))[i]? = some (ga K p.1) := fun {i p} e => by
    rw [List.getElem?_map, List.getElem?_map, e]
    rfl
  refine ⟨deB_ok h3, fun e => famB_at h4 e (at1 e), fun {i j p q} e1 e2 => ⟨fun z => ?_, fun z => ?_⟩, fun {i p} e => ?_⟩
  · rcases Nat.lt_trichotomy i j with l | l | l
    · exact absurd z (nodB_at h1 (i := i + 1) (j := j + 1) (at1 e1) (at1 e2) (by omega))
    · exact l
    · exact absurd z.symm (nodB_at h1 (i := j + 1) (j := i + 1) (at1 e2) (at1 e1) (by omega))
  · subst z
    rw [e1] at e2
    rw [Option.some.inj e2]
  · exact Ne.symm (nodB_at h1 (i := 0) (j := i + 1) rfl (at1 e) (by omega))
end MyH
set_option Elab.async false
set_option linter.all false
set_option maxRecDepth 100000
set_option maxHeartbeats 4000000
namespace MyN
open PySem PySem.Spec PyProof.Rows L2 He MyH
/-! ### a wider look: a property's def, what a def's defaults hold -/
def kidsP (look : Addr → Option Obj) (at0 : Addr) : List Addr := ((look at0).map fun ob => match ob.data with
  | .fields fs => fs.toList.flatMap refV
  | _ => []).getD []
def kidsS (look : Addr → Option Obj) (at0 : Addr) : List Addr := ((look at0).map fun ob => match ob.data with
  | .seq xs _ => xs.toList.flatMap refV
  | _ => []).getD []
def seenN (look : Addr → Option Obj) : List Addr :=
  let top := refsN look mainGlobals
  let half := top.flatMap (refsF look)
  let mine := half.flatMap (refsN look)
  let gets := mine.flatMap (kidsP look)
  let deep := (mine ++ gets).flatMap (refsF look)
  top ++ (half ++ (mine ++ (gets ++ (deep ++ ((half ++ deep).flatMap (kidsS look) ++ [mainGlobals, PySem.cStatics])))))
/-- the getter of the property y of the class x -/
def getter (K : PySem.W.Frag) (x y : Str) : Addr := match PySem.W.recIn K (ma K (ga K x) y) "property" with
  | some (.ref z :: _) => z
  | _ => 0
def fnA (K : PySem.W.Frag) (z : Addr) : FnW := (K.lookup z).bind fun ob => match ob.data with
  | .func d => some (d.name, d.qualname, d.params, d.body, d.scope, d.globals, d.closure, d.builtins)
  | _ => none
def okA (K : PySem.W.Frag) (z : Addr) (q : Str) : Bool := PySem.W.keepIn K (.ref z) && (((K.lookup z).map fun ob => match ob.data with
  | .func d => PySem.W.codeIn K d.code q && dflB K d.defaults []
  | _ => false).getD false)
def valA (n q : Str) (st : Stmt) : FnW := some (n, q, defArgs st, .stmts (defBody st), defScope st, mainGlobals, [], builtinsNs)
theorem fnA_ok {K : PySem.W.Frag} {z : Addr} {n q : Str} {st : Stmt} (e : fnA K z = valA n q st) (c : okA K z q = true) : ∃ fd, FunD K n q (defArgs st) (defBody st) (defScope st) [] [] z fd := by
  obtain ⟨kp, c2⟩ := ba c
  unfold fnA at e
  cases lk : K.lookup z with
  | none =>
    rw [lk] at e
    cases e
  | some ob =>
    obtain ⟨b1, b2, dt, b4⟩ := ob
    rw [lk] at e c2
    cases dt with
    | func d =>
      obtain ⟨d1, d2, d3, d4, d5, d6, d7, d8, d9, d10, d11, d12, d13, d14, d15⟩ := d
      have e1 : (some (d1, d2, d3, d4, d5, d6, d7, d15) : FnW) = some (n, q, defArgs st, .stmts (defBody st), defScope st, mainGlobals, [], builtinsNs) := e
      simp only [Option.some.injEq, Prod.mk.injEq] at e1
      obtain ⟨g1, g2, g3, g4, g5, g6, g7, g8⟩ := e1
      subst g1 g2 g3 g4 g5 g6 g7 g8
      obtain ⟨c3, c4⟩ := ba (show (PySem.W.codeIn K d13 d2 && dflB K d8 []) = true from c2)
      exact ⟨_, ⟨b1, b2, d8, d9, d10, d11, d12, d13, d14, b4, rfl, lk, c3, dflB_ok c4, .inl rfl⟩, kp⟩
    | _ => cases e
def voidT (K : PySem.W.Frag) (z : Addr) : Bool := match K.lookup z with
  | some ⟨.type y, _, .seq xs _, _⟩ => decide (y = "tuple") && xs.toList.isEmpty
  | _ => false
theorem voidT_ok {K : PySem.W.Frag} {z : Addr} (h : voidT K z = true) (H : Hp) : SqT K H z [] := by
  unfold voidT at h
  cases lk : K.lookup z with
  | none =>
    rw [lk] at h
    cases h
  | some ob =>
    obtain ⟨b1, b2, dt, b4⟩ := ob
    rw [lk] at h
    cases b1 with
    | type y =>
      cases dt with
      | seq xs n =>
        obtain ⟨g1, g2⟩ := ba (show (decide (y = "tuple") && xs.toList.isEmpty) = true from h)
        have nil : xs.toList = [] := List.isEmpty_iff.mp g2
        refine .inr ⟨_, xs, n, lk, congrArg Value.type (of_decide_eq_true g1), rfl, ?_, by rw [nil]; exact .nil⟩
        have : xs.size = 0 := by rw [← Array.length_toList, nil]; rfl
        omega
      | _ => cases h
    | _ => cases dt <;> cases h
/-! ### the Hook -/
abbrev AlN : Type := MyH.Al × FnW
def obsN (F : PySem.W.Frag → Bool) (fn : List DefD) (p : PySem.W.Frag → Addr) (K : PySem.W.Frag) : AlN := (obsM F fn K, fnA K (p K))
def SaysN (F : PySem.W.Frag → Bool) (fn : List DefD) (p : PySem.W.Frag → Addr) (fv : FnW) (K : PySem.W.Frag) : Prop := obsN F fn p K = (valM fn, fv)
def obsNG (F : PySem.W.Frag → Bool) (fn : List DefD) (p : PySem.W.Frag → Addr) (look : Addr → Option Obj) : AlN := obsN F fn p (frG look (seenN look))
def hookN (F : PySem.W.Frag → Bool) (fn : List DefD) (p : PySem.W.Frag → Addr) (fv : FnW) : PySem.W.Hook where
  α := AlN
  obs := fun st => obsNG F fn p st.heap.get?
  val := fun _ => (valM fn, fv)
  says := fun _ hp => ∃ K : PySem.W.Frag, K.In hp ∧ SaysN F fn p fv K
  of := fun _ _ said => Exists.intro _ (And.intro frG_in said)
  keeps := fun _ _ _ said kept => Exists.elim said fun K both => Exists.intro K (And.intro (PySem.W.Frag.In.keeps both.1 kept) both.2)
theorem obsNG_eq {F : PySem.W.Frag → Bool} {fn : List DefD} {p : PySem.W.Frag → Addr} {fv : FnW} {look : Addr → Option Obj} {st : Shared} (h : ∀ z, look z = st.heap.get? z) : obsNG F fn p look = (hookN F fn p fv).obs st := by
  obtain rfl : look = st.heap.get? := funext h
  rfl
theorem SaysN.m {F : PySem.W.Frag → Bool} {fn : List DefD} {p : PySem.W.Frag → Addr} {fv : FnW} {K : PySem.W.Frag} (c : SaysN F fn p fv K) : SaysM F fn K := congrArg (fun y : AlN => y.1) c
theorem SaysN.g {F : PySem.W.Frag → Bool} {fn : List DefD} {p : PySem.W.Frag → Addr} {fv : FnW} {K : PySem.W.Frag} (c : SaysN F fn p fv K) : fnA K (p K) = fv := congrArg (fun y : AlN => y.2) c
/-! ### what stands of the class x beside -/
def soB (K : PySem.W.Frag) (C : Addr) (vo : Str × Option Str) : Bool :=
  eqO (PySem.W.findIn K (.ref C) "__class__") (some (some (.builtin "object.__class__"))) && (decide (PySem.W.mroIn K C (.type "object") = some true) && (PySem.W.notFirst K C (.type "tuple") && (PySem.W.notFirst K C (.type "NoneType") &&
  (decide (PySem.W.kitOne K (.type "tuple") (.ref C) = some false) && (decide (PySem.W.kitOne K (.type "NoneType") (.ref C) = some false) && (voidT K (dflAt vo 0 K)))))))
structure SoBo (K : PySem.W.Frag) (C : Addr) (vo : Str × Option Str) : Prop where
  cl : PySem.W.findIn K (.ref C) "__class__" = some (some (.builtin "object.__class__"))
  ob : PySem.W.mroIn K C (.type "object") = some true
  nT : PySem.W.notFirst K C (.type "tuple") = true
  nN : PySem.W.notFirst K C (.type "NoneType") = true
  kT : PySem.W.kitOne K (.type "tuple") (.ref C) = some false
  kN : PySem.W.kitOne K (.type "NoneType") (.ref C) = some false
  e0 : ∀ H : Hp, SqT K H (dflAt vo 0 K) []
theorem soB_ok {K : PySem.W.Frag} {C : Addr} {vo : Str × Option Str} (h : soB K C vo = true) : SoBo K C vo := by
  obtain ⟨h1, h⟩ := ba h
  obtain ⟨h2, h⟩ := ba h
  obtain ⟨h3, h⟩ := ba h
  obtain ⟨h4, h⟩ := ba h
  obtain ⟨h5, h⟩ := ba h
  obtain ⟨h6, h7⟩ := ba h
  exact ⟨eqO_ok h1, of_decide_eq_true h2, h3, h4, of_decide_eq_true h5, of_decide_eq_true h6, voidT_ok h7⟩
/-- the property y of the class at C, its getter at z -/
def prB (K : PySem.W.Frag) (C p z : Addr) (y : Str) : Bool :=
  eqO (PySem.W.findIn K (.ref C) y) (some (some (.ref p))) && (eqO (PySem.W.specialIn K (.ref p) "__get__") (some (some (.builtin "property.__get__"))) && (decide (PySem.W.takesIn K (.ref p) = some true) && ((match PySem.W.recIn K p "property" with
    | some (.ref b :: _) => decide (b = z)
    | _ => false))))
theorem prB_ok {K : PySem.W.Frag} {C p z : Addr} {y : Str} (h : prB K C p z y = true) : PropOf K C y p z := by
  obtain ⟨h1, h⟩ := ba h
  obtain ⟨h2, h⟩ := ba h
  obtain ⟨h3, h4⟩ := ba h
  refine ⟨eqO_ok h1, eqO_ok h2, of_decide_eq_true h3, ?_⟩
  split at h4
  · rename_i b rest e
    exact ⟨rest, by rw [e, of_decide_eq_true h4]⟩
  · cases h4
end MyN
set_option Elab.async false
set_option linter.all false
set_option maxRecDepth 100000
set_option maxHeartbeats 0
namespace My
open PySem PySem.Spec PyProof.Rows L2 He MyH MyN
/-! ### the head: what the top leaves, by names -/
def dF (x : Str) (i : Nat) : DefD := ⟨(x, none), x, x, defArgs (topS i), defBody (topS i), defScope (topS i), [], []⟩
def dW (x : Str) (i : Nat) : DefD := ⟨(x, none), x, x, defArgs (topS i), defBody (topS i), defScope (topS i), [.non, .non], []⟩
def dC (x q m : Str) (i j : Nat) (ds : List Dv) : DefD := ⟨(x, some m), m, q, defArgs (inClass (topS i) j), defBody (inClass (topS i) j), defScope (inClass (topS i) j), ds, []⟩
def voAt : Str × Option Str := ("Sorts", some "value_of")
def fn : List DefD := ([dF "_in_tuples" 2, dF "_kept" 3, dF "is_sequence" 11, dF "is_value" 14, dF "is_ascending" 18, dF "_law_mix" 21, dF "_law_hand" 22, dF "_law_draw" 23, dF "_law_exact" 24, dF "_law_take" 25, dF "_law_value" 26, dF "_law_named" 27, dF "_law_sort" 28, dF "_law_kind" 29, dF "_law_made" 30] : List DefD) ++ ([dF "_law_odd_named" 31, dF "_law_refused" 32, dF "_law_sort_asked" 33, dF "_law_some_value" 34, dF "_law_values_sorted" 35, dF "_law_due_value" 36, dF "_law_numbered" 37, dF "_law_equal" 38, dF "law" 39, dW "is_whole" 10, dC "DealError" "DealError.__init__" "__init__" 4 0 [.str ""], dC "BadSorts" "BadSorts.__init__" "__init__" 5 0 [], dC "BadValue" "BadValue.__init__" "__init__" 6 0 [], dC "NoSort" "NoSort.__init__" "__init__" 7 0 [], dC "Sorts" "Sorts.__init__" "__init__" 19 0 []] : List DefD) ++ ([dC "Sorts" "Sorts.__eq__" "__eq__" 19 2 [], dC "Sorts" "Sorts._place_of" "_place_of" 19 3 [], dC "Sorts" "Sorts.sort_of" "sort_of" 19 4 [], dC "Sorts" "Sorts.kind_of" "kind_of" 19 5 [], dC "Sorts" "Sorts.value_of" "value_of" 19 6 [.adr (dflAt voAt 0)], dC "Sorts" "Sorts._remaining" "_remaining" 19 7 []] : List DefD)
def fas : List Fa := ([.free "int", .free "len", .free "abs", .free "isinstance", .free "list", .free "tuple", .free "range", .free "ValueError", .free "all", .free "zip", .free "enumerate", .free "bool", .free "str", .free "sorted", .free "set", .free "reversed", .free "repr", .int "DEEPEST" 6, .int "GREATEST_VALUE" 1000000000, .int "MOST_NAMED" 8] : List Fa) ++ ([.int "MOST_MODULUS" 6, .glo "_in_tuples", .glo "_kept", .glo "is_sequence", .glo "is_value", .glo "is_ascending", .glo "_law_mix", .glo "_law_hand", .glo "_law_draw", .glo "_law_exact", .glo "_law_take", .glo "_law_value", .glo "_law_named", .glo "_law_sort", .glo "_law_kind", .glo "_law_made", .glo "_law_odd_named", .glo "_law_refused", .glo "_law_sort_asked", .glo "_law_some_value"] : List Fa) ++ ([.glo "_law_values_sorted", .glo "_law_due_value", .glo "_law_numbered", .glo "_law_equal", .glo "law", .glo "is_whole", .glo "Sorts", .cls "Sorts", .noat "Sorts" "named", .noat "Sorts" "modulus", .mkr "Sorts", .meth "Sorts" "sort_of", .meth "Sorts" "kind_of", .meth "Sorts" "value_of", .meth "Sorts" "_place_of", .meth "Sorts" "_remaining", .meth "Sorts" "__eq__", .exm "BadSorts" "BadSorts" true, .exm "BadValue" "BadValue" true, .exm "NoSort" "NoSort" true] : List Fa) ++ ([.exm "BadSorts" "DealError" true] : List Fa)
def tab : List (Str × List Str) := [("BadSorts", ["what"]), ("BadValue", ["value"]), ("NoSort", ["number"]), ("BadTold", ["told"])]
def manyAt (K : PySem.W.Frag) : Addr := getter K "Sorts" "many"
def manyV : FnW := valA "many" "Sorts.many" (inClass (topS 19) 1)
def facts (K : PySem.W.Frag) : Bool := famAll K "DealError" tab && ((fas.all fun f => f.ok K) && (soB K (He.ga K "Sorts") voAt && (prB K (He.ga K "Sorts") (ma K (He.ga K "Sorts") "many") (manyAt K) "many" && okA K (manyAt K) "Sorts.many")))
abbrev R : PySem.W.OpenRow := PySem.W.OpenLaw.row PySem.Challenge.rw_meetwhere_k08_sorts_made_and_values_numb
def names : List Str := (["DEEPEST", "_in_tuples", "_kept", "DealError", "BadSorts", "BadValue", "NoSort", "BadTold", "is_whole", "is_sequence", "GREATEST_VALUE", "is_value", "MOST_NAMED", "MOST_MODULUS", "is_ascending", "Sorts", "_law_mix", "_law_hand", "_law_draw", "_law_exact"] : List Str) ++ (["_law_take", "_law_value", "_law_named", "_law_sort", "_law_kind", "_law_made", "_law_odd_named", "_law_refused", "_law_sort_asked", "_law_some_value", "_law_values_sorted", "_law_due_value", "_law_numbered", "_law_equal"] : List Str)
abbrev hk : PySem.W.Hook := hookN facts fn manyAt manyV
def ob (s : PySem.W.SharedT) : MyN.AlN := obsNG facts fn manyAt (HandSHeadRun.getT s)
theorem ob_eq (s : PySem.W.SharedT) : ob s = hk.obs s.abs := obsNG_eq (HandSHeadRun.getT_eq s)
end My
set_option Elab.async false
set_option linter.all false
set_option maxRecDepth 100000
set_option maxHeartbeats 0
namespace My
open PySem PySem.Spec PyProof.Rows L2 He MyH MyN
theorem run (w : World) : HandSHeadRun.RunEq R (PySem.W.view R.prog [39]) hk ob 14000 names w := by
  intro os
  kernel_rfl
end My
set_option Elab.async false
set_option linter.all false
set_option maxRecDepth 100000
set_option maxHeartbeats 4000000
namespace My
open PySem PySem.Spec PyProof.Rows L2
/-! ### a law whose own frame knows that no repr is under way -/
/-- the promise of the law's def, called where no guard stands -/
structure FnG (P : Program) (w : World) (K : PySem.W.Frag) (mg : Str → Option Value) (base : Heap) (k : Nat) (f : Addr) (fd : FuncData) (ps : List Str) (sp : Sp) : Prop where
  len : ∀ vs H Q E, sp vs H Q E → vs.length = ps.length
  run : ∀ (A : Around) (outer : List Env) (s : Shared) (H : Hp) (args : Args) (us : List Value) (vs : List V) (Q : VK), A.guards = some [] → Room k A → Env0 P w K mg base A outer s H → BindsTo s fd args (ps.zip us) → Vals vs us → sp vs H Q E0 →
    codeAny (model P w) A (.call (.ref f) args) (CR CX0 outer P w H s Q E0) s
theorem fnG_of {P : Program} {w : World} {K : PySem.W.Frag} {mg : Str → Option Value} {base : Heap} {k : Nat} {f : Addr} {fd : FuncData} {x qual : Str} {st : Stmt} {N ps : List Str} {sp : Sp} (F : L2.Fun K x qual st f fd) (S : FnScope N ps (defScope st))
    (len : ∀ vs H Q E, sp vs H Q E → vs.length = ps.length)
    (hbody : ∀ (cdv : Value) (A : Around) (outer : List Env) (s : Shared) (H : Hp) (vs : List V) (Q : VK), A.guards = some [] → Room k (A.deeper (envOfC qual (defScope st) s.heap.objs.size f cdv)) → sp vs H Q E0 →
      ∃ t, PSs (cxOf CX0 P w K mg base N qual (defScope st) f cdv A outer s H E0).nox (defBody st) t ∧ t { nx := fun _ H' => Q .non H', rt := Q } (start N vs) H) :
    FnG P w K mg base (k + 1) f fd ps sp := by
  obtain ⟨oc, od, kV, doc, pm, an, cdv, ct, osl, rfl, lk, hcd⟩ := F.ex
  constructor
  · exact len
  intro A outer s0 H0 args ws xs Q hg room env binds rel prom
  have sameLen := len xs H0 Q E0 prom
  have old : ∀ b o, base.get? b = some o → s0.heap.get? b = some o := fun b o e => (env.bs b o e).1
  have inK : K.In s0.heap := env.mod.kin.keeps old
  have nolim : s0.heap.NoLimit := env.mod.nolimit.keeps old
  have kinds : ∀ y ∈ ps.zip ws, (defScope st).names.lookup y.1 = some .local ∨ ((defScope st).names.lookup y.1 = some .cell ∧ ((cellsFrom (s0.heap.objs.size + 1) (defScope st).names []).lookup y.1).isSome = true) := by
    rintro ⟨n, v⟩ hy
    have hn := (List.of_mem_zip hy).1
    exact (S.par n hn).elim .inl fun q => .inr ⟨q, PySem.W.cellsFrom_some _ _ _ (.inl q)⟩
  apply codeAny_call_function room.depth (inK _ _ lk) rfl S.co S.gen rfl (PySem.W.codeRec_of inK hcd)
  apply binds
  apply wpAny_newFunctionEnv_cells S.kind kinds
  intro e1 he1 s1 x
  subst he1
  refine ⟨nolim.keeps x.toInCall.keep, codeAny_func ?_⟩
  obtain ⟨t, ht0, hq⟩ := hbody cdv A outer s0 H0 xs Q hg (room.deeper _) prom
  have ht := ht0.nox
  have I := inv_start (CX := CX0) (E := E0) S room.hd env sameLen rel x
  refine wpAny_mono (ht.run [] s1 (start N xs) H0 _ I hq) ?_ fun e s' bad => bad
  rintro fl s' ended
  match fl, ended with
  | .ret u, ⟨v, σ', H', J, rv, q⟩ => exact ⟨v, H', J.os, J.bare, J.base, J.hok, rv, q⟩
  | .next, ⟨σ', H', J, q⟩ => exact ⟨V.non, H', J.os, J.bare, J.base, J.hok, rfl, q⟩
  | .brk, ⟨_, _, _, q⟩ => exact q.elim
  | .cont, ⟨_, _, _, q⟩ => exact q.elim
/-- the head's goal, from such a promise -/
theorem law_callG {P : Program} {w : World} {K : PySem.W.Frag} {mg mb : Str → Option Value} {k : Nat} {fa a : Addr} {fd : FuncData} {x : Str} {sp : Sp} {s : Shared} {us : List Value} {ns : List Int}
    (inK : K.In s.heap) (hns : s.heap.Ns mainGlobals mg) (hb : s.heap.Ns builtinsNs mb) (hbb : ∀ y : Str, y ≠ "__name__" → mb y = bootBuiltins y) (nolim : s.heap.NoLimit) (nogen : s.gens = #[])
    (ha : s.heap.get? a = some { cls := .type "list", data := .seq us.toArray }) (hi : IntsAre us ns) (few : ns.length ≤ sizeLine) (room : Room k callerA)
    (F : ∀ base : Heap, K.In base → base.Ns mainGlobals mg → FnG P w K mg base k fa fd [x] sp) (hbind : ∀ (s : Shared) (u : Value), BindsTo s fd ⟨[u], []⟩ [(x, u)])
    (hsp : ∀ H : Hp, Only H → SqL K H a (ns.map V.int) → sp [.ref a] H (fun v _ => v = .bl true) E0) :
    codeAny (model P w) callerA (.call (.ref fa) ⟨[.ref a], []⟩) (fun r s' => r = .ok (.ret (.bool true)) ∧ OldK s.heap s'.heap ∧ s'.os = s.os ∧ AllBare s'.gens) s := by
  have rel := vals_ints hi
  have lens := hi.length
  have main : ∀ H : Hp, Only H → SqL K H a (ns.map V.int) → HOk P w H s.heap → (∀ b, H b ≠ none → b = a) → (H a ≠ none → K.lookup a = none) →
      codeAny (model P w) callerA (.call (.ref fa) ⟨[.ref a], []⟩) (fun r s' => r = .ok (.ret (.bool true)) ∧ OldK s.heap s'.heap ∧ s'.os = s.os ∧ AllBare s'.gens) s := by
    intro H only scr hok alone apart
    have dictFree : ∀ {b : Addr} {o : Obj} {es : Array DictEntry} {ep : Nat}, s.heap.get? b = some o → o.data = .dict es ep → H b = none := by
      intro b o es ep e d
      apply Classical.byContradiction
      intro n
      have eb := alone b n
      rw [eb, ha] at e
      cases e
      cases d
    have nsT : ∀ {b : Addr} {m : Str → Option Value}, s.heap.Ns b m → (hidT s.heap H).Ns b m := by
      rintro b m ⟨o, es, ep, e, d, r⟩
      exact ⟨o, es, ep, hidT_get e (dictFree e d), d, r⟩
    have inT : K.In (hidT s.heap H) := by
      intro b o e
      apply hidT_get (inK b o e)
      apply Classical.byContradiction
      intro n
      have eb := alone b n
      subst eb
      rw [apart n] at e
      cases e
    obtain ⟨mc, lim1, lim2⟩ := nolim
    have modT : Mod K mg (hidT s.heap H) := ⟨inT, nsT hns, ⟨mb, nsT hb, hbb⟩, ⟨mc, nsT lim1, lim2⟩⟩
    have env : Env0 P w K mg (hidT s.heap H) callerA [] s H := ⟨rfl, modT, fun b o e => of_hidT e, Nat.le_of_eq (hidT_size _ _), trivial, fun b hb => (by cases hb), hok, .of_eq nogen⟩
    refine codeAny_mono ((F _ inT (nsT hns)).run callerA [] s H ⟨[.ref a], []⟩ [.ref a] [.ref a] _ rfl room env (hbind s (.ref a)) (.cons rfl .nil) (hsp H only scr)) ?_
    rintro r s' h
    match r, h with
    | .error _, h => exact h.elim
    | .ok .next, h => exact False.elim h
    | .ok .brk, h => exact False.elim h
    | .ok .cont, h => exact False.elim h
    | .ok (.ret u), ⟨v, H', os, bare, un, hok', rv, ev⟩ =>
      subst ev
      obtain rfl : u = Value.bool true := rv
      refine ⟨rfl, OldK.of_keep fun b o e => ?_, os, bare⟩
      rcases only b with z | ⟨ob, ys, z⟩
      · exact un.keep b o e z (by intro z; cases z) (by simp)
      · obtain ⟨e1, _⟩ := hok b _ z
        obtain ⟨e2, _⟩ := hok' b _ (un.frzs b ob _ z)
        rw [e] at e1
        cases e1
        exact e2
  cases hk : K.lookup a with
  | some o =>
    have e := inK a o hk
    rw [ha] at e
    cases e
    refine main (fun _ => none) (fun _ => .inl rfl) (.inr ⟨_, us.toArray, _, hk, rfl, rfl, rfl, by rw [List.size_toArray, lens]; exact few, by simpa using rel⟩) (fun b u z => ?_) (fun b z => absurd rfl z) fun z => absurd rfl z
    cases (show (none : Option HO) = some u from z)
  | none =>
    have top : (fun b => if b = a then some (HO.frz { cls := .type "list", data := .seq us.toArray } (.lst (ns.map V.int))) else none : Hp) a = some (HO.frz { cls := .type "list", data := .seq us.toArray } (.lst (ns.map V.int))) := if_pos rfl
    refine main (fun b => if b = a then some (.frz { cls := .type "list", data := .seq us.toArray } (.lst (ns.map V.int))) else none) (fun b => ?_) (.inl (.inr ⟨_, top⟩)) (fun b u z => ?_) (fun b z => ?_) fun _ => hk
    · by_cases eb : b = a
      · exact .inr ⟨_, _, if_pos eb⟩
      · exact .inl (if_neg eb)
    · by_cases eb : b = a
      · subst eb
        rw [top] at z
        cases z
        exact ⟨ha, by rw [List.length_map]; exact few, us, _, rel, ha⟩
      · cases (if_neg eb).symm.trans z
    · apply Classical.byContradiction
      intro eb
      exact z (if_neg eb)
theorem walk_ofG {l : PySem.W.OpenLaw} {n k : Nat} {q : Program} {loose : List Str} {XP : (Str → Option Value) → Heap → Prop} {YP : World → Heap → Prop} {d : DefRec} {x : Str}
    (hn : l.most = some n) (hn2 : n ≤ sizeLine) (hdf : d.params.defaults = []) (room : Room k callerA)
    (F : ∀ (w : World) (mg : Str → Option Value) (fa : Addr) (h : Heap), YP w h → h.Ns mainGlobals mg → mg d.name = some (.ref fa) →
      ∃ (K : PySem.W.Frag) (fd : FuncData) (sp : Sp), K.In h ∧ (∀ (s : Shared) (u : Value), BindsTo s fd ⟨[u], []⟩ [(x, u)]) ∧
        (∀ (H : Hp) (a : Addr) (ns : List Int), ns.length ≤ n → Only H → SqL K H a (ns.map V.int) → sp [.ref a] H (fun v _ => v = .bl true) E0) ∧
        ∀ base : Heap, K.In base → base.Ns mainGlobals mg → FnG l.prog w K mg base k fa fd [x] sp) :
    PySem.W.WalkO q loose XP YP l.row.toRowW d [] (fun f vs => PySem.call f vs) := by
  refine Att.attach_call hn hdf fun w s₀ s₁ mg mb fa o pm cd doc a us ns G Y ho hd hcd hmg hobj hints few nogen => ?_
  obtain ⟨K, fd, sp, inK, binds, prom, hF⟩ := F w mg fa _ Y G.T.g hmg
  exact law_callG inK G.T.g G.T.b G.T.builtins G.T.nolimit nogen hobj hints (Nat.le_trans few hn2) room hF binds (fun H only scr => prom H a ns few only scr)
/-- repr of a list or a tuple of data, where no repr is under way -/
def rReprD (K : PySem.W.Frag) : List V → Hp → VK → Prop := fun xs H Q => ∃ (a : Addr) (d : PyData), xs = [.ref a] ∧ Dp K H (.ref a) d ∧ d.showable = true ∧ d.hasDict = false ∧ d.depth ≤ 100 ∧ d.shown.length ≤ sizeLine ∧ Q (.str d.shown) H
theorem call_reprD {X : Cx} (hg : X.A.guards = some []) (hu : X.A.units + 150 < cLine) : CallR X (.builtin "repr") (rReprD X.K) := by
  intro pins s σ H xs us Q I r h
  obtain ⟨a, d, rfl, hd, hs, hk, hz, hl, q⟩ := h
  cases r with
  | cons r1 r2 =>
    cases r2
    rename_i u
    obtain ⟨as, rd⟩ := Dp.reads I d _ _ hd r1
    obtain rfl : u = Value.ref a := r1
    refine repr_of_reads' rd hs (fun z => by rw [hk] at z; cases z) hg (by omega) (fun b o e => e) (fun h' t tk k => ?_) hl
    exact ⟨.str d.shown, H, I.kept k, ⟨t, rfl⟩, q⟩
end My
set_option Elab.async false
set_option linter.all false
set_option maxRecDepth 100000
set_option maxHeartbeats 4000000
namespace My
open PySem PySem.Spec PyProof.Rows L2
/-! ### list(reversed(a list)) -/
section
variable {prog : Program} {w : World} {A : Around} {E : Value → Shared → Prop} {s : Shared}
theorem call_list_back {it l : Addr} {items : Array Value} {Q : Value → Shared → Prop} (calm : A.handled = none) (hit : s.heap.IsRevIter it l ((items.size : Int) - 1)) (hl : s.heap.IsList l items) (hne : l ≠ it) (few : items.size ≤ sizeLine)
    (hQ : ∀ (h' : Heap) (tk : Nat) (acc : Array Value) (c : Nat), (∀ b o, b ≠ it → s.heap.get? b = some o → h'.get? b = some o) → h'.get? s.heap.objs.size = some { cls := .type "list", dict := none, data := .seq acc c, slots := #[] } → ItemsOf (fun i v => items[items.size - 1 - i]? = some v) acc items.size →
      Q (.ref s.heap.objs.size) { s with heap := h', toks := tk }) : wpAny (model prog w) A (call (.type "list") [.ref it]) Q E s := by
  obtain ⟨oi, ei, _⟩ := id hit
  obtain ⟨ol, el, _⟩ := id hl
  have ni : s.heap.objs.size ≠ it := (Nat.ne_of_lt (Heap.lt_size ei)).symm
  have nl : s.heap.objs.size ≠ l := (Nat.ne_of_lt (Heap.lt_size el)).symm
  have out : s.heap.objs.size ∉ [it, l] := by
    intro z
    rcases List.mem_cons.mp z with z | z
    · exact ni z
    · exact nl (List.mem_singleton.mp z)
  apply callType_codes (Q₁ := fun obj s₁ => obj = .ref s.heap.objs.size ∧ s₁ = { s with heap := s.heap.push { cls := .type "list", data := .seq #[] } }) F.called_list (F.typeCall_list_1 _) F.entry_list_init (code_list_new _ ⟨rfl, rfl⟩)
  rintro obj s₁ ⟨rfl, rfl⟩
  have fresh : (s.heap.push { cls := .type "list", data := .seq #[] }).get? s.heap.objs.size = some { cls := .type "list", data := .seq #[] } := Heap.get?_push_size _ rfl
  refine ⟨⟨_, fresh, rfl⟩, F.args_list_init_2 _ _, ?_⟩
  have W := (Walks.listRev (prog := prog) (w := w) (A := A.in1.in1) calm it l hne items).toS
  show wpAny _ _ (do let old ← Builtin.List.listItems (.ref s.heap.objs.size); Builtin.List.listUpdate (.ref s.heap.objs.size) (fun _ => #[]); letGo old.toList.reverse; Builtin.List.listExtendWith (.ref s.heap.objs.size) (.ref it) .none) _ _ _
  apply wpAny_bind
  unfold Builtin.List.listItems
  apply wpAny_bind
  refine wpAny_seqItems fresh rfl (wpAny_pure ?_)
  show wpAny _ _ (updateSeq s.heap.objs.size (fun _ => #[]) >>= fun _ => letGo (#[] : Array Value).toList.reverse >>= fun _ => Builtin.List.listExtendWith (.ref s.heap.objs.size) (.ref it) .none) _ _ _
  apply wpAny_bind
  refine wpAny_updateSeq fresh rfl ?_
  have fresh2 := Heap.get?_update_self (Obj.mapSeq (fun _ => (#[] : Array Value))) fresh rfl
  generalize eh : (s.heap.push { cls := .type "list", data := .seq #[] }).update s.heap.objs.size (Obj.mapSeq (fun _ => (#[] : Array Value))) = h2 at fresh2 ⊢
  have keep2 : ∀ b o, b ≠ s.heap.objs.size → s.heap.get? b = some o → h2.get? b = some o := by
    intro b o nb e
    rw [← eh, Heap.get?_update_other _ _ (Ne.symm nb)]
    exact Heap.get?_push_of_some _ e
  have hit2 : h2.IsRevIter it l ((items.size : Int) - 1) := hit.at fun o e => keep2 _ o (Ne.symm ni) e
  have hl2 : h2.IsList l items := by
    obtain ⟨o, e, r⟩ := hl
    exact ⟨o, keep2 _ o (Ne.symm nl) e, r⟩
  have tI : ({ s with heap := h2 } : Shared).TypeIs (.ref it) "list_reverseiterator" := Heap.IsRevIter.typeIs (s := { s with heap := h2 }) hit2
  have n1 : Builtin.List.listSameRef (.ref s.heap.objs.size) (.ref it) = false := by simp [Builtin.List.listSameRef, ni]
  apply wpAny_bind
  apply wpAny_letGo
  unfold Builtin.List.listExtendWith
  apply wpAny_bind
  refine wpAny_typeOf tI ?_
  rw [if_neg (by rw [n1]; decide)]
  apply wpAny_bind
  refine wpAny_pyIter_revIter (s := { s with heap := h2 }) hit2 ?_
  apply wpAny_bind
  apply wpAny_holding
  unfold Builtin.List.listLengthHint
  apply wpAny_bind
  refine wpAny_specialOf tI RT.nolen_lri ?_
  show wpAny _ _ (specialOf (Value.ref it) (Str.ofString "__length_hint__") >>= _) _ _ _
  apply wpAny_bind
  refine wpAny_specialOf tI RT.hint_lri ?_
  generalize idq : ("list_reverseiterator.__length_hint__" : String) = idr
  wp_delta
  rw [show splitId idr = some ("list_reverseiterator", "__length_hint__") from by subst idq; decide +kernel]
  subst idq
  apply wpAny_bind
  refine wpAny_isInstance (b := true) tI (by rw [isSubtype_type]; kernel_rfl) ?_
  apply wpAny_pure
  rw [if_neg (by decide)]
  have z0 : ((items.size : Nat) : Int) - 1 - ((0 : Nat) : Int) = (items.size : Int) - 1 := by omega
  refine wpAny_pure ⟨plainId_quiet F.plain_extend_loop _, codeAny_extend_loopS W few _ out _ items.size 0 _ _ _ rfl (Nat.zero_le _) ⟨Nat.zero_le _, by rw [z0]; exact hit2, hl2⟩ fresh2 (ItemsOf.nil _) ?_⟩
  intro s' acc c moved at' given
  rw [Moved.eq_with moved]
  refine ⟨rfl, hQ s'.heap s'.toks acc c (fun b o nb e => moved.heap b o (fun z => ?_) (keep2 b o (Nat.ne_of_lt (Heap.lt_size e)) e)) at' given⟩
  rcases List.mem_cons.mp z with z | z
  · exact Nat.ne_of_lt (Heap.lt_size e) z
  · exact nb (List.mem_singleton.mp z)
end
def tLstRev (K : PySem.W.Frag) (te : TE) : TE := fun σ H Q => te σ H fun v H1 => ∃ (a : Addr) (xs : List V), v = .ref a ∧ SqL K H1 a xs ∧ ∀ q, H1 q = none → Q (.ref q) (upd H1 q (.lst xs.reverse))
theorem pe_lstRev {X : Cx} {e : Expr} {te : TE} {p p2 pos pos2 : Pos} (hc : X.calm = true) (g1 : Gl X "list") (m1 : X.mg "list" = none) (g2 : Gl X "reversed") (m2 : X.mg "reversed" = none) (he : PE X e te)
    (h1 : starEach [e] X.env = (false, eval e X.env) :: starEach [] X.env := by rfl)
    (h2 : starEach [.Call (.Name "reversed" p2) [e] [] pos2] X.env = (false, eval (.Call (.Name "reversed" p2) [e] [] pos2) X.env) :: starEach [] X.env := by rfl) :
    PE X (.Call (.Name "list" p) [.Call (.Name "reversed" p2) [e] [] pos2] [] pos) (tLstRev X.K te) := by
  refine ⟨fun pins s σ H Q I h => Call_ (ld_blt I g1 m1 boot_list (PyProof.Rows.callWith_type1 (args_cons (Call_ (ld_blt I g2 m2 PyProof.Rows.boot_reversed (PyProof.Rows.callWith_type1 (args_cons (thn (he.run pins s σ H _ I h) ?_) h1) h1 rfl))) h2) h2 rfl))⟩
  rintro u s1 ⟨v, H1, I1, r1, a, xs, rfl, hq, q⟩
  obtain rfl : u = Value.ref a := r1
  apply args_nil
  obtain ⟨its, rv, pl, few⟩ := I1.list hq
  apply call_reversed_list pl.isList
  apply args_nil
  have keep0 : ∀ b o, s1.heap.get? b = some o → (s1.heap.push (revObj a ((its.toArray.size : Int) - 1))).get? b = some o := fun b o e => Heap.get?_push_of_some _ e
  have I2 : Inv X pins σ H1 { s1 with heap := s1.heap.push (revObj a ((its.toArray.size : Int) - 1)) } := I1.kept (t' := s1.toks) keep0
  have fp := I1.fpOk (H' := H1) (b := s1.heap.objs.size) (Nat.le_refl _) (I1.hok.fresh (Nat.le_refl _))
  have hl := pl.isList
  obtain ⟨ol, el, _⟩ := id hl
  have hne : a ≠ s1.heap.objs.size := Nat.ne_of_lt (Heap.lt_size el)
  refine call_list_back (s := { s1 with heap := s1.heap.push (revObj a ((its.toArray.size : Int) - 1)) }) (I1.ok.hd hc) ⟨_, Heap.get?_push_size _ rfl, rfl, rfl⟩ (hl.push _) hne (by rw [List.size_toArray, ← rv.length]; exact few) fun h' tk acc c kp at' given => ?_
  refine ⟨.ref _, _, Inv.turnedNew (ch := [s1.heap.objs.size]) (t' := tk) (ob := .lst xs.reverse) I2 (fun b o nb e => kp b o (fun z => nb (by rw [z]; exact List.mem_cons_self ..)) e) (fun b hb => ?_) (Nat.le_refl _) ?_, rfl, q _ (I2.hok.fresh (Nat.le_refl _))⟩
  · rw [List.mem_singleton.mp hb]
    exact fp
  · exact (show ObjOk X.prog X.w _ _ _ (.lst xs.reverse) from ⟨by rw [List.length_reverse]; exact few, acc.toList, c, RT.vals_rev rv given, by rw [Array.toArray_toList]; exact at'⟩)
/-! ### set(a list of ints) -/
section
variable {P : Program} {w : World} {A : Around} {E : Value → Shared → Prop} {s : Shared}
/-- T(args), its __new__ giving an object of T, its __init__'s own check told by hand -/
theorem callT_by {T newId initId : String} {Bi : Builtin} {args : List Value} {Q Q₁ : Value → Shared → Prop} (ft : TypeCalled T newId initId) (ok : checkTypeCall T ⟨args, []⟩ = pure ()) (entryI : entryFor table initId = some Bi)
    (made : codeAny (model P w) A.in1 (.call (.builtin newId) ⟨.type T :: args, []⟩) (wants Q₁ E) s)
    (next : ∀ obj s₁, Q₁ obj s₁ → s₁.TypeIs obj T ∧ codeAny (model P w) A.in1 (.call (.builtin initId) ⟨obj :: args, []⟩) (wants (fun r s₂ => r = .none ∧ Q obj s₂) E) s₁) :
    wpAny (model P w) A (call (.type T) args) Q E s := by
  obtain ⟨c, tl, m1⟩ := ft.mro
  have m2 := ft.made
  have m3 := ft.sub
  have m4 := ft.notType
  have m5 := ft.canCreate
  apply wpAny_call
  apply codeAny_of_tree
  show wpAny _ _ (callAny (.type T) _) _ _ _
  refine wpAny_pure ⟨Code.quiet_builtin _ (by decide +kernel), codeAny_builtin F.entry_type_call ?_⟩
  rw [Around.under_plain (weight_type_call_type T args []) rfl]
  repeat any_goals first | assumption | wp_step
  refine codeAny_mono made ?_
  rintro r s₁ hr
  match r, hr with
  | .error _, hr => exact hr
  | .ok .next, hr => exact False.elim hr
  | .ok .brk, hr => exact False.elim hr
  | .ok .cont, hr => exact False.elim hr
  | .ok (.ret obj), hr =>
    obtain ⟨tO, run⟩ := next _ _ hr
    have q1 := ft.init.lookup
    have q2 := ft.init.bind obj
    repeat any_goals first | assumption | wp_step
    refine codeAny_mono run ?_
    rintro r2 s₂ hr2
    match r2, hr2 with
    | .error _, hr2 => exact hr2
    | .ok .next, hr2 => exact False.elim hr2
    | .ok .brk, hr2 => exact False.elim hr2
    | .ok .cont, hr2 => exact False.elim hr2
    | .ok (.ret u), hr2 =>
      obtain ⟨rfl, hq⟩ := hr2
      repeat any_goals first | assumption | wp_step
theorem call_set_listI {l : Addr} {items : Array Value} (ks : List Int) {Q : Value → Shared → Prop} (calm : A.handled = none) (hl : s.heap.IsList l items) (hi : IntsAre items.toList ks) (few : ks.length + 1 < scanBound)
    (hQ : ∀ (h' : Heap) (tk c : Nat), SetR w h' s.heap.objs.size (fun j => decide (j ∈ ks)) c → c ≤ ks.length → (∀ b o, s.heap.get? b = some o → h'.get? b = some o) → Q (.ref s.heap.objs.size) { s with heap := h', toks := tk }) :
    wpAny (model P w) A (call (.type "set") [.ref l]) Q E s := by
  have size : items.size = ks.length := by rw [← Array.length_toList]; exact IntsAre.length hi
  apply callT_by (Q₁ := fun obj s₁ => obj = .ref s.heap.objs.size ∧ s₁ = { s with heap := s.heap.push { cls := .type "set", dict := none, data := .set #[] 0 (.fresh 0 0 (!w.params.followText "set-order")) } }) F.called_set (F.typeCall_set_1 _) F.entry_set_init (code_set_led1 _ ⟨rfl, rfl⟩)
  rintro obj s₁ ⟨rfl, rfl⟩
  generalize en : ({ cls := .type "set", dict := none, data := .set #[] 0 (.fresh 0 0 (!w.params.followText "set-order")) } : Obj) = new
  have fresh : (s.heap.push new).get? s.heap.objs.size = some new := Heap.get?_push_size _ (by rw [← en]; rfl)
  have clsNew : new.cls = .type "set" := by rw [← en]
  have tNew : Shared.TypeIs { s with heap := s.heap.push new } (.ref s.heap.objs.size) "set" := ⟨_, fresh, clsNew⟩
  refine ⟨tNew, codeAny_call_builtin F.called_set.init.plain F.entry_set_init (check_set_init_1 tNew ?_)⟩
  obtain ⟨ol, el, cl, nl, dl⟩ := hl
  obtain ⟨c1, d1, a1, b1⟩ := ol
  simp only at cl dl
  subst cl
  subst dl
  have el' : (s.heap.push new).get? l = some { cls := .type "list", dict := d1, data := .seq items nl, slots := b1 } := Heap.get?_push_of_some _ el
  have k1 := F.sub_list_set
  have k2 := F.sub_list_frozenset
  have k3 : (Value.type "list" == Value.type "dict") = false := by decide
  have hl1 : (s.heap.push new).IsList l items := ⟨_, el', rfl, nl, rfl⟩
  subst en
  unfold Builtin.«set.__init__» noKeywords Builtin.Frozenset.updateFrom
  generalize ePI : pyIter = PI
  wp_walk
  subst ePI
  apply wpAny_pyIter_list hl1
  apply wpAny_bind
  apply wpAny_runValue
  have lS : l < s.heap.objs.size := Heap.lt_size el
  generalize en : ({ cls := .type "set", dict := none, data := .set #[] 0 (.fresh 0 0 (!w.params.followText "set-order")) } : Obj) = new at *
  have sz1 : (s.heap.push new).objs.size = s.heap.objs.size + 1 := Heap.size_push ..
  have nI : l ≠ (s.heap.push new).objs.size := by
    rw [sz1]
    exact Nat.ne_of_lt (Nat.lt_succ_of_lt lS)
  have nS : s.heap.objs.size ∉ [(s.heap.push new).objs.size, l] := by
    intro z
    rcases List.mem_cons.mp z with z | z
    · rw [sz1] at z
      exact Nat.ne_of_lt (Nat.lt_succ_self _) z
    · exact Nat.ne_of_lt lS (List.mem_singleton.mp z).symm
  have each : ∀ (i : Nat) (v : Value), items[i]? = some v → ∃ k t, ks[i]? = some k ∧ v = .int k t := by
    intro i v hv
    have hi' : i < ks.length := by
      rw [← size]
      exact (Array.getElem?_eq_some_iff.mp hv).1
    obtain ⟨t, e⟩ := PyProof.Rows.IntsAre.int_at hi i v (by rw [Array.getElem?_toList]; exact hv)
    refine ⟨ks[i], t, List.getElem?_eq_getElem hi', ?_⟩
    rw [e, List.getD_eq_getElem?_getD, List.getElem?_eq_getElem hi'] <;> rfl
  have calm3 : A.in1.in1.in1.handled = none := calm
  refine set_update_ints ((Walks.list calm3 _ l nI items).toS) s.heap.objs.size nS ks size few each (items.size - 0) 0 _ (by omega) (Nat.zero_le _) ⟨⟨_, Heap.get?_push_size _ rfl, rfl, rfl⟩, hl1.push _⟩ ?start ?fin
  case start =>
    subst en
    exact ⟨0, Nat.le_refl 0, setR_new_at (Heap.get?_push_of_some _ fresh)⟩
  case fin =>
    rintro ⟨h', g2, d', tk', os'⟩ c' moved le R
    obtain rfl : g2 = s.gens := moved.gens
    obtain rfl : d' = s.drawn := moved.drawn
    obtain rfl : os' = s.os := moved.os
    show wpAny _ _ _ _ _ _
    apply wpAny_pure
    show wpAny _ _ (ret Value.none) _ _ _
    refine wpAny_pure ⟨rfl, hQ h' tk' c' R (by omega) fun b o e => moved.heap b o (fun z => ?_) (Heap.get?_push_of_some _ (Heap.get?_push_of_some _ e))⟩
    have lb := Heap.lt_size e
    rcases List.mem_cons.mp z with z | z
    · exact Nat.ne_of_lt lb z
    · have z2 := List.mem_singleton.mp z
      rw [sz1] at z2
      exact Nat.ne_of_lt (Nat.lt_succ_of_lt lb) z2
end
/-- set(a list of ints) -/
def rSetL (K : PySem.W.Frag) (w : World) : List V → Hp → VK → Prop := fun xs H Q => ∃ (l : Addr) (ks : List Int), xs = [V.ref l] ∧ SqL K H l (ks.map V.int) ∧ ks.length ≤ 1000 ∧ ∀ (p : Addr) (c : Nat), H p = none → c ≤ ks.length → Q (.ref p) (upd H p (SetO w p (fun j => decide (j ∈ ks)) c))
theorem cr_setL {X : Cx} (hc : X.calm = true) : CallR X (.type "set") (rSetL X.K X.w) := by
  rintro pins s σ H xs us Q I r ⟨l, ks, rfl, hq, few, q⟩
  rw [Vals.ref1 r]
  obtain ⟨its, rv, pl, _⟩ := I.list hq
  refine call_set_listI ks (I.ok.hd hc) pl.isList (by simpa using ints_of_vals rv) (by unfold scanBound; omega) fun h' tk c R le keep => ?_
  exact ⟨.ref _, _, I.laid keep (Nat.le_refl _) (setO_new R), rfl, q _ c (I.hok.fresh (Nat.le_refl _)) le⟩
end My
set_option Elab.async false
set_option linter.all false
set_option maxRecDepth 100000
set_option maxHeartbeats 4000000
namespace My
open PySem PySem.Spec PyProof.Rows L2
/-! ### calls that may raise, what they raise wished for at the caller's slots -/
def tMkS (C : Addr) (sp : Sp) (E : L2.St → XK) (t : TA) : TE := fun σ H Q => t σ H fun vs H1 => ∀ x dx, H1 x = none → H1 dx = none → dx ≠ x →
  sp (.ref x :: vs) (upd (upd H1 dx (.own x)) x (.ins C dx [])) (fun v H2 => v = .non ∧ Q (.ref x) H2) (E σ)
def tMtS (C : Addr) (m : Str) (sp : Sp) (dvs : List V) (E : L2.St → XK) (ta : TE) (t : TA) : TE := fun σ H Q => ta σ H fun x H1 => ∃ a dx fs, x = .ref a ∧ H1 a = some (.ins C dx fs) ∧ fs.lookup m = none ∧
  t σ H1 fun vs H2 => sp (x :: (vs ++ dvs)) H2 Q (E σ)
section
variable {X : Cx} {CX : CXT} {k : Nat} {f C : Addr} {fd : FuncData} {ps : List Str} {sp : Sp} {dvs : List V} {ds : List Value} {E : L2.St → XK} {x m : Str} {p pos apos : Pos} {e o : Expr} {es : List Expr} {ta : TE} {t : TA}
theorem run_at {pins : List (Addr × Obj)} {σ : L2.St} {H : Hp} {s : Shared} {Q : VK} {us : List Value} {vs : List V} (F : FnOk X.prog X.w X.K X.mg X.base CX k f fd ps sp) (hr : Room k X.A) (hb : Binds X.K fd ps ds) (hd : Vals dvs ds) (hx : PassesAt CX X σ (E σ))
    (I : Inv X pins σ H s) (rel : Vals vs us) (h : sp (vs ++ dvs) H Q (E σ)) : wpAny (model X.prog X.w) X.A (call (.ref f) us) (EP X pins σ Q) X.xe s := by
  have rel2 : Vals (vs ++ dvs) (us ++ ds) := rel.append hd
  have lens : (us ++ ds).length = ps.length := rel2.length.symm.trans (F.len _ _ _ _ h)
  have ran := F.run X.A X.stack s H ⟨us, []⟩ (us ++ ds) (vs ++ dvs) Q (E σ) hr I.env0 (hb s us I.kIn lens) rel2 h
  apply wpAny_call
  refine codeAny_mono ran ?_
  rintro r s' ended
  match r, ended with
  | .error u, z => exact hx pins H s u s' I z
  | .ok (.ret u), z => exact I.after z
  | .ok .next, z => exact False.elim z
  | .ok .brk, z => exact False.elim z
  | .ok .cont, z => exact False.elim z
theorem pe_mtS {pl : Sem Bool} (he : PE X o ta) (c : Cls X.K C) (hm : Meth X.K C m f) (F : FnOk X.prog X.w X.K X.mg X.base CX k f fd ps sp) (hr : Room k X.A) (hb : Binds X.K fd ps ds) (hd : Vals dvs ds) (hx : ∀ σ, PassesAt CX X σ (E σ)) (ha : PA X (e :: es) t)
    (h1 : starEach (e :: es) X.env = (false, eval e X.env) :: starEach es X.env := by rfl) (h2 : (backTo pos (starEach es X.env)).any (·.1) = false := by rfl)
    (h3 : eval (.Call (.Attribute o m apos) (e :: es) [] pos) X.env = (do
      let ov ← eval o X.env
      standAt apos.atName
      let (f, first) ← holding [ov] (getMethod ov m pl)
      callWith pos f first (backTo pos (starEach (e :: es) X.env)) (backToKw pos (keywordEach [] X.env))) := by rfl) :
    PE X (.Call (.Attribute o m apos) (e :: es) [] pos) (tMtS C m sp dvs E ta t) := by
  constructor
  intro pins s σ H Q I h
  apply PySem.W.methodCall_KW (pl := pl) (thn (he.run pins s σ H _ I h) _) h3
  rintro u s1 ⟨y, H1, I1, ry, a, dx, fs, rfl, ea, l, q⟩
  obtain rfl : u = Value.ref a := ry
  apply getmeth_ok I1 ea c hm l
  apply PySem.W.callWith_K (first := [.ref a]) (h₀ := X.base) I.ok.mod.kin hm.kp (thn (ha.run pos pins s1 σ H1 _ I1 q) _) h1 h2
  rintro us s2 ⟨vs, H2, I2, r, q2⟩
  exact ⟨I2.kIn, run_at (us := .ref a :: us) (vs := .ref a :: vs) F hr hb hd (hx σ) I2 (.cons rfl r) q2⟩
theorem pe_mkS (M : Mk X.K C f) (F : FnOk X.prog X.w X.K X.mg X.base CX k f fd ps sp) (hr : Room (k + 1) X.A) (hg : Gl X x) (hm : X.mg x = some (.ref C)) (hb : Binds X.K fd ps []) (hx : ∀ σ, PassesAt CX X σ (E σ))
    (ha : PA X (e :: es) t) (h0 : (x == ("__debug__" : Str)) = false := by decide) (h1 : starEach (e :: es) X.env = (false, eval e X.env) :: starEach es X.env := by rfl) (h2 : (backTo pos (starEach es X.env)).any (·.1) = false := by rfl) :
    PE X (.Call (.Name x p) (e :: es) [] pos) (tMkS C sp E t) := by
  constructor
  intro pins s0 σ H Q I h
  apply wpAny_Call_Name_kw
  apply ld_glob I hg hm _ h0
  apply PySem.W.callWith_K (h₀ := X.base) I.ok.mod.kin M.kp (thn (ha.run pos pins s0 σ H _ I h) _) h1 h2
  rintro us s ⟨vs, H1, I1, rel, q⟩
  refine ⟨I1.kIn, ?_⟩
  show wpAny _ _ (call (.ref C) us) _ _ _
  have wish := q (s.heap.objs.size + 1) s.heap.objs.size (I1.hok.fresh (Nat.le_succ _)) (I1.hok.fresh (Nat.le_refl _)) (Nat.ne_of_lt (Nat.lt_succ_self _))
  have J := Inv.made (C := C) I1
  have rel2 : Vals (V.ref (s.heap.objs.size + 1) :: vs) (Value.ref (s.heap.objs.size + 1) :: us) := .cons rfl rel
  have lens : (Value.ref (s.heap.objs.size + 1) :: us).length = ps.length := rel2.length.symm.trans (F.len _ _ _ _ wish)
  have bound := hb _ (Value.ref (s.heap.objs.size + 1) :: us) J.kIn (by rw [List.append_nil]; exact lens)
  rw [List.append_nil] at bound
  have ran := F.run _ X.stack _ _ ⟨Value.ref (s.heap.objs.size + 1) :: us, []⟩ (Value.ref (s.heap.objs.size + 1) :: us) _ _ (E σ) (hr.make C us []) (J.env0.make C us []) bound rel2 wish
  refine wpAny_call (make_map (f := f) I1.kIn M.makes M.init (beq_iff_eq.mp M.fn) (codeAny_mono ran ?_))
  rintro r s' ended
  match r, ended with
  | .error u, z => exact hx σ pins _ _ u s' J z
  | .ok .next, z => exact False.elim z
  | .ok .brk, z => exact False.elim z
  | .ok .cont, z => exact False.elim z
  | .ok (.ret u), z =>
    obtain ⟨v, H', J2, rv, rfl, q3⟩ := J.after z
    exact ⟨rv, V.ref (s.heap.objs.size + 1), H', J2, rfl, q3⟩
end
/-! ### raise C(e, ..), C with an __init__ of its own, its context None -/
section
variable {X : Cx} {e : Expr} {es : List Expr} {ta : TA} {p pos : Pos}
/-- what a new exception's __init__ must promise -/
def mkWish (C : Addr) (sp : Sp) (vs : List V) (H1 : Hp) (Q : XK) : Prop := vs.length ≤ 1000 ∧ ∀ a, H1 a = none → sp (.ref a :: vs) (upd H1 a (exo a C none))
  (fun v H2 => v = .non ∧ ∃ (d : Addr) (fs : List (Str × V)), H2 a = some (exo a C (some d)) ∧ H2 d = some (exd d fs) ∧ H1 d = none ∧ Q (.ref C) (some d) (upd (del H2 a) d (.xd fs))) E0
theorem pmk_oexN {CX : CXT} {x : Str} {C fI : Addr} {k : Nat} {fd : FuncData} {ps : List Str} {sp : Sp} {R : List V → Hp → XK → Prop} (cv : ∀ vs H1 Q, R vs H1 Q → mkWish C sp vs H1 Q) (T : OexC X.K C) (iC : PySem.W.findIn X.K (.ref C) "__init__" = some (some (.ref fI))) (tI : PySem.W.typeIn X.K (.ref fI) = some (.type "function"))
    (F1 : FnOk X.prog X.w X.K X.mg X.base CX k fI fd ps sp) (hr : Room (k + 1) X.A) (hb : Binds X.K fd ps []) (hx : Passes CX X (fun _ _ _ => False)) (hg : Gl X x) (hm : X.mg x = some (.ref C)) (ha : PA X (e :: es) ta)
    (h0 : (x == ("__debug__" : Str)) = false := by decide) (h1 : starEach (e :: es) X.env = (false, eval e X.env) :: starEach es X.env := by rfl) (h2 : (backTo pos (starEach es X.env)).any (·.1) = false := by rfl) :
    L2N.PMk X (.Call (.Name x p) (e :: es) [] pos) (fun σ H Q => ta σ H fun vs H1 => R vs H1 Q) := by
  obtain ⟨nm, qn, N, bs, bm, sn, sub, ab, col, dd, k0, k1, k2, k3, k5, hC, hbm⟩ := T.cls
  intro pins s0 σ H Q I h
  apply wpAny_Call_Name_kw
  apply ld_glob I hg hm _ h0
  apply PySem.W.callWith_K (h₀ := X.base) I.ok.mod.kin T.kC (thn (ha.run pos pins s0 σ H _ I h) _) h1 h2
  rintro us ⟨heap, gens, drawn, toks, world⟩ ⟨vs, H1, I1, rel, told⟩
  obtain ⟨few, q⟩ := cv _ _ _ told
  refine ⟨I1.kIn, ?_⟩
  show wpAny _ _ (call (.ref C) us) _ _ _
  have le1 : heap.objs.size ≤ heap.objs.size + 1 := Nat.le_succ _
  have wish := q (heap.objs.size + 1) (I1.hok.fresh le1)
  have keep : ∀ b o, heap.get? b = some o → ((heap.push (PySem.W.kdv_tup us)).push (PySem.HandSPX.excO C heap.objs.size)).get? b = some o := fun b o z => Heap.get?_push_of_some _ (Heap.get?_push_of_some _ z)
  have lies : ((heap.push (PySem.W.kdv_tup us)).push (PySem.HandSPX.excO C heap.objs.size)).get? (heap.objs.size + 1) = some (PySem.HandSPX.excO C heap.objs.size) := by heap_get
  have J : Inv X pins σ (upd H1 (heap.objs.size + 1) (exo (heap.objs.size + 1) C none)) ⟨(heap.push (PySem.W.kdv_tup us)).push (PySem.HandSPX.excO C heap.objs.size), gens, drawn, toks, world⟩ := Inv.laid (t' := toks) I1 keep le1 (exo_ok lies)
  have rel2 : Vals (V.ref (heap.objs.size + 1) :: vs) (Value.ref (heap.objs.size + 1) :: us) := .cons rfl rel
  have lens : (Value.ref (heap.objs.size + 1) :: us).length = ps.length := rel2.length.symm.trans (F1.len _ _ _ _ wish)
  have fits : us.length ≤ sizeLine := by
    rw [← rel.length, sizeLine_eq]
    omega
  have bound := hb _ (Value.ref (heap.objs.size + 1) :: us) J.kIn (by rw [List.append_nil]; exact lens)
  rw [List.append_nil] at bound
  have ran := F1.run _ X.stack _ _ ⟨Value.ref (heap.objs.size + 1) :: us, []⟩ (Value.ref (heap.objs.size + 1) :: us) _ _ (fun _ _ _ => False) (hr.make C us []) (J.env0.make C us []) bound rel2 wish
  refine wpAny_call (PySem.HandSPX.call_own F.excBase_ValueError (fun Y => PySem.HandSPX.refsVE_contains Y bm hbm) (I1.kIn _ _ hC) (PySem.W.looks_findIn I1.kIn iC) (fun self => PySem.W.bind_fn I1.kIn self tI) fits (codeAny_mono ran ?_))
  rintro r s' ended
  match r, ended with
  | .error u, z => exact hx pins σ _ _ u s' J z
  | .ok .next, z => exact False.elim z
  | .ok .brk, z => exact False.elim z
  | .ok .cont, z => exact False.elim z
  | .ok (.ret u), ⟨v, H2, os2, bare2, un2, hok2, rv, ev, d, fs, ea, ed, hd1, q2⟩ =>
    subst ev
    obtain ⟨h2', g2, d2, t2, os'⟩ := s'
    obtain ⟨t0, G, J2, kG, ge, hoe, na⟩ := mk_end0 (d2 := d2) (t2 := t2) I1 le1 keep un2 hok2 os2 bare2 ea ed hd1
    refine ⟨rv, _, _, _, ⟨G, g2, d2, t2, os'⟩, _, .ref C, some d, rfl, J2, kG, ge, hoe, ⟨rfl, rfl, ?_⟩, rfl, rfl, na, rfl, bare2, raises_own T.exC T.tyC, q2⟩
    intro ws ew
    cases ew
    rfl
end
/-! ### == by an own __eq__, whatever it says -/
def rEqOwn (K : PySem.W.Frag) (C : Addr) (sp : Sp) : R2 := fun x y H Q => ∃ (a dx : Addr) (fs : List (Str × V)) (tb : Value), x = .ref a ∧ H a = some (.ins C dx fs) ∧ TyX K H y tb ∧ PySem.W.notFirst K C tb = true ∧
  sp [x, y] H (fun v H' => (∃ b, v = .bl b) ∧ Q v H') E0
theorem op_eqOwn {X : Cx} {n : Nat} {C f : Addr} {fd : FuncData} {ps : List Str} {sp : Sp} (F : FnOk X.prog X.w X.K X.mg X.base CX0 n f fd ps sp) (hr : Room n X.A)
    (hs : PySem.W.findIn X.K (.ref C) "__eq__" = some (some (.ref f))) (hf : PySem.W.isFn X.K (.ref f) = true) (hb : Binds X.K fd ps []) : OpR X (compareOp .Eq) (rEqOwn X.K C sp) := by
  rintro pins s σ H x y v u Q I rx ry ⟨a, dx, fs, tb, rfl, ha, ty, nf, h⟩
  obtain rfl : v = Value.ref a := rx
  show wpAny (model X.prog X.w) X.A (richCompare .Eq (.ref a) u) (EP X pins σ Q) X.xe s
  obtain ⟨mA, J, _⟩ := ins_get I.hok ha
  obtain ⟨od, J, _⟩ := J.look
  obtain ⟨m, hF⟩ := I.fr
  obtain ⟨P, kx, px, _⟩ := kit_of I ry ty
  have rel : Vals [V.ref a, y] [Value.ref a, u] := .cons rfl (.cons ry .nil)
  have lens := F.len _ _ _ _ h
  have bound := hb s [.ref a, u] I.kIn (by simpa using lens)
  rw [List.append_nil] at bound
  refine PySem.W.cmp_K (op := .Eq) (tb := tb) hr.units0 hF I.ok.mod.kin J ?looks nf hs hf ?_
  case looks => exact kx.ty _ _ I.kIn px
  refine wpAny_call (codeAny_mono (F.run X.A X.stack s H ⟨[.ref a, u], []⟩ [.ref a, u] [.ref a, y] _ E0 hr I.env0 bound rel h) ?_)
  rintro r s' ended
  match r, ended with
  | .error u, z => exact False.elim z
  | .ok .next, z => exact False.elim z
  | .ok .brk, z => exact False.elim z
  | .ok .cont, z => exact False.elim z
  | .ok (.ret w), z =>
    obtain ⟨v, H', J2, rv, ⟨b, rfl⟩, q⟩ := I.after z
    obtain rfl : w = Value.bool b := rv
    exact ⟨.bl b, H', J2, rfl, q⟩
end My
set_option Elab.async false
set_option linter.all false
set_option maxRecDepth 100000
set_option maxHeartbeats 4000000
namespace My
open PySem PySem.Spec PyProof.Rows L2
/-- a def that may be called by its name and lets nothing out -/
structure Cal (P : Program) (w : World) (K : PySem.W.Frag) (mg : Str → Option Value) (base : Heap) (k : Nat) (x : Str) (sp : Sp) : Prop where
  ex : ∃ (f : Addr) (fd : FuncData) (ps : List Str), FnOk P w K mg base CX0 k f fd ps sp ∧ mg x = some (.ref f) ∧ PySem.W.keepIn K (.ref f) = true ∧ Binds K fd ps []
theorem Cal.c8 {P : Program} {w : World} {K : PySem.W.Frag} {mg : Str → Option Value} {base : Heap} {k : Nat} {x : Str} {sp : Sp} (c : Cal P w K mg base k x sp) : C8.Cal P w K mg base k x sp [] := by
  obtain ⟨f, fd, ps, F, gf, kf, b⟩ := c.ex
  exact ⟨f, fd, ps, [], F, gf, kf, b, .nil⟩
theorem pe_c {X : Cx} {k j : Nat} {x : Str} {sp : Sp} {p pos : Pos} {e : Expr} {es : List Expr} {t : TA} (c : Cal X.prog X.w X.K X.mg X.base k x sp) (hr : Room j X.A) (hk : k ≤ j) (hg : Gl X x) (ha : PA X (e :: es) t)
    (d1 : (x == ("__debug__" : Str)) = false := by decide) (d2 : starEach (e :: es) X.env = (false, eval e X.env) :: starEach es X.env := by rfl) (d3 : (backTo pos (starEach es X.env)).any (·.1) = false := by rfl) :
    PE X (.Call (.Name x p) (e :: es) [] pos) (tCall sp [] E0 t) := C8.pe_c c.c8 hr hk hg ha d1 d2 d3
theorem same_upd {H : Hp} {p : Addr} {o : HO} (h : H p = none) : Same H (upd H p o) := fun b x e => by
  rw [upd_ne (ne_of_none e h)]
  exact e
theorem gs {H H0 : Hp} {p : Addr} {o : HO} (h : upd H p o = H0) (n : H p = none) : Same H H0 := by
  subst h
  exact same_upd n
theorem ga {H H0 : Hp} {p : Addr} {o : HO} (h : upd H p o = H0) : H0 p = some o := by
  subst h
  exact upd_same
theorem upd_upd {H : Hp} {p : Addr} {o u : HO} : upd (upd H p o) p u = upd H p u := by
  funext b
  unfold upd
  by_cases h : b = p
  · rw [if_pos h, if_pos h]
  · rw [if_neg h, if_neg h, if_neg h]
/-- a list that was new at D may be stored to: all that stood ahead of it stays -/
theorem same_but {J H2 : Hp} {D : Addr} {o : HO} (s : Same J H2) (n : J D = none) : Same J (upd H2 D o) := fun b u e => by
  rw [upd_ne (ne_of_none e n)]
  exact s _ _ e
theorem lt8000 {m : Int} (h : m.natAbs < 2 ^ 64) : m.natAbs < 2 ^ 8000 := Nat.lt_of_lt_of_le h (Nat.pow_le_pow_right (by decide) (by decide))
/-! ### the hand: [cells, place, rest, total] -/
def HandL (M : Int) (c : Addr) (n : Nat) (l : List V) : Prop := ∃ (i : Nat) (r t : Int), l = [.ref c, .int i, .int r, .int t] ∧ i ≤ n ∧ 0 ≤ r ∧ 0 ≤ t ∧ t < M
structure Hand (M : Int) (H : Hp) (a c : Addr) : Prop where
  ex : ∃ (cs : List Int) (l : List V), H a = some (.lst l) ∧ H c = some (.lst (cs.map V.int)) ∧ HandL M c cs.length l ∧ cs.length ≤ 63 ∧ ∀ x ∈ cs, 0 ≤ x
section
variable {M : Int}
theorem Hand.ne {H : Hp} {a c : Addr} (h : Hand M H a c) : c ≠ a := by
  obtain ⟨cs, l, h1, h2, ⟨i, r, t, rfl, _⟩, _⟩ := h.ex
  intro e
  subst e
  rw [h1] at h2
  have z := HO.lst.inj (Option.some.inj h2)
  cases cs with
  | nil => cases z
  | cons x cs =>
    rw [List.map_cons] at z
    have z1 := (List.cons.inj z).1
    cases z1
theorem Hand.keep {H H' : Hp} {a c : Addr} (h : Hand M H a c) (s : Same H H') : Hand M H' a c := by
  obtain ⟨cs, l, h1, h2, r⟩ := h.ex
  exact ⟨cs, l, s _ _ h1, s _ _ h2, r⟩
theorem Hand.put {H : Hp} {a c : Addr} {cs : List Int} {l : List V} (h2 : H c = some (.lst (cs.map V.int))) (hn : c ≠ a) (hl : HandL M c cs.length l) (h63 : cs.length ≤ 63) (h0 : ∀ x ∈ cs, 0 ≤ x) : Hand M (upd H a (.lst l)) a c :=
  ⟨cs, l, upd_same, by rw [upd_ne hn]; exact h2, hl, h63, h0⟩
end
/-- a draw: the hand stands at a, its cells at c; behind it a's list alone is another one -/
def spDraw (M : Int) : Sp := fun vs H Q _ => ∃ (a c : Addr) (m : Int), vs = [.ref a, .int m] ∧ Hand M H a c ∧ 0 < m ∧ m.natAbs < 2 ^ 8000 ∧ ∀ (v : Int) (l : List V), 0 ≤ v → v < m → Hand M (upd H a (.lst l)) a c → Q (.int v) (upd H a (.lst l))
def spHand (M : Int) (K : PySem.W.Frag) : Sp := fun vs H Q _ => ∃ (s : Addr) (ns : List Int), vs = [.ref s] ∧ SqL K H s (ns.map V.int) ∧ ns.length ≤ 63 ∧ ∀ (a c : Addr) (H' : Hp), Same H H' → H a = none → H c = none → Hand M H' a c → Q (.ref a) H'
def spMix (B : Int) : Sp := fun vs H Q _ => ∃ (n t : Int), vs = [.int n, .int t] ∧ 0 ≤ n ∧ n < B ∧ 0 ≤ t ∧ t ≤ 64 ∧ ∀ v : Int, Q (.int v) H
/-! ### what isinstance says of things -/
def intish : V → Bool
  | .int _ => true
  | .bl _ => true
  | _ => false
def boolish : V → Bool
  | .bl _ => true
  | _ => false
def strish : V → Bool
  | .str _ => true
  | _ => false
section
variable {K : PySem.W.Frag} {H : Hp} {x : V} {t : String}
theorem kit_int (h : TyOf K H x (.type t)) : PySem.W.kitOne K (.type t) (.type "int") = some (intish x) := by
  cases h <;> first | exact kit_ty (show kitB _ _ = some true by decide +kernel) | exact kit_ty (show kitB _ _ = some false by decide +kernel)
theorem kit_bool (h : TyOf K H x (.type t)) : PySem.W.kitOne K (.type t) (.type "bool") = some (boolish x) := by
  cases h <;> first | exact kit_ty (show kitB _ _ = some true by decide +kernel) | exact kit_ty (show kitB _ _ = some false by decide +kernel)
theorem kit_str (h : TyOf K H x (.type t)) : PySem.W.kitOne K (.type t) (.type "str") = some (strish x) := by
  cases h <;> first | exact kit_ty (show kitB _ _ = some true by decide +kernel) | exact kit_ty (show kitB _ _ = some false by decide +kernel)
theorem kit_list (h : TyOf K H x (.type t)) : PySem.W.kitOne K (.type t) (.type "list") = some (decide (t = "list")) := by
  cases h <;> first | exact kit_ty (show kitB _ _ = some true by decide +kernel) | exact kit_ty (show kitB _ _ = some false by decide +kernel)
theorem kit_tuple (h : TyOf K H x (.type t)) : PySem.W.kitOne K (.type t) (.type "tuple") = some (decide (t = "tuple")) := by
  cases h <;> first | exact kit_ty (show kitB _ _ = some true by decide +kernel) | exact kit_ty (show kitB _ _ = some false by decide +kernel)
theorem kit_seq (h : TyOf K H x (.type t)) : PySem.W.kitAny K (.type t) [.type "list", .type "tuple"] = some (decide (t = "list") || decide (t = "tuple")) := by
  by_cases h1 : t = "list"
  · exact kitAny_cons (kit_list h) (fun z => by rw [decide_eq_true h1] at z; cases z) (fun _ => by rw [decide_eq_true h1]; rfl)
  · by_cases h2 : t = "tuple"
    · refine kitAny_cons (kit_list h) (fun _ => kitAny_cons (kit_tuple h) (fun z => by rw [decide_eq_true h2] at z; cases z) (fun _ => by rw [decide_eq_true h2, Bool.or_true])) (fun z => ?_)
      rw [decide_eq_true h2, Bool.or_true]
    · rw [decide_eq_false h1, decide_eq_false h2]
      exact kitAny_cons (kit_list h) (fun _ => kitAny_cons (kit_tuple h) (fun _ => kitAny_nil) (fun z => by rw [decide_eq_false h2] at z; cases z)) (fun z => by rw [decide_eq_false h1] at z; cases z)
end
/-! ### bounds that may lack -/
def optV : Option Int → V
  | none => .non
  | some i => .int i
def loOk (i : Int) : Option Int → Bool
  | none => true
  | some l => decide (l ≤ i)
def hiOk (i : Int) : Option Int → Bool
  | none => true
  | some h => decide (i ≤ h)
def wholeV (x : V) (l h : Option Int) : Bool := match x with
  | .int i => loOk i l && hiOk i h
  | _ => false
/-- is_whole(thing, low, high) -/
def spWhole (K : PySem.W.Frag) : Sp := fun vs H Q _ => ∃ (x : V) (t : String) (l h : Option Int), vs = [x, optV l, optV h] ∧ TyOf K H x (.type t) ∧ Q (.bl (wholeV x l h)) H
def valueV (x : V) : Bool := wholeV x (some 0) (some 1000000000)
def spValue (K : PySem.W.Frag) : Sp := fun vs H Q _ => ∃ (x : V) (t : String), vs = [x] ∧ TyOf K H x (.type t) ∧ Q (.bl (valueV x)) H
def seqT (t : String) : Bool := decide (t = "list") || decide (t = "tuple")
/-- is_sequence(thing) -/
def spSeq (K : PySem.W.Frag) : Sp := fun vs H Q _ => ∃ (x : V) (t : String), vs = [x] ∧ TyOf K H x (.type t) ∧ ∀ H', Same H H' → Q (.bl (seqT t)) H'
theorem TyOf.keep {K : PySem.W.Frag} {H H' : Hp} {x : V} {t : Value} (h : TyOf K H x t) (s : Same H H') : TyOf K H' x t := by
  cases h with
  | non => exact .non
  | bl b => exact .bl b
  | int i => exact .int i
  | str z => exact .str z
  | flt z => exact .flt z
  | lst e => exact .lst (s _ _ e)
  | frz e => exact .frz (s _ _ e)
  | tup e => exact .tup (s _ _ e)
  | dK e => exact .dK (s _ _ e)
  | dT e => exact .dT (s _ _ e)
  | ins e c1 c2 c3 c4 c5 => exact .ins (s _ _ e) c1 c2 c3 c4 c5
end My
set_option Elab.async false
set_option linter.all false
set_option maxRecDepth 100000
set_option maxHeartbeats 4000000
namespace My
open PySem PySem.Spec PyProof.Rows L2
/-! ### lists and tuples alike -/
def SqV (K : PySem.W.Frag) (H : Hp) (a : Addr) (xs : List V) : Prop := SqL K H a xs ∨ SqT K H a xs
theorem rd_keep {H H' : Hp} {a : Addr} {o : HO} (s : Same H H') (h : Rd H a o) : Rd H' a o := by
  rcases h with h | ⟨ob, h⟩
  · exact .inl (s _ _ h)
  · exact .inr ⟨ob, s _ _ h⟩
theorem seqT_keep {K : PySem.W.Frag} {H H' : Hp} {a : Addr} {xs : List V} (h : SqT K H a xs) (s : Same H H') : SqT K H' a xs := h.imp (rd_keep s) id
theorem SqV.keep {K : PySem.W.Frag} {H H' : Hp} {a : Addr} {xs : List V} (h : SqV K H a xs) (s : Same H H') : SqV K H' a xs := h.imp (fun h => s.seq h) (fun h => seqT_keep h s)
def iSeq (K : PySem.W.Frag) (te : TE) : TI := fun σ H R => iList K te σ H R ∨ iTup K te σ H R
theorem pi_seq {X : Cx} {tg l : Expr} {tl : TE} (hl : PE X l tl) : PI X tg l (iSeq X.K tl) :=
  ⟨fun pins s σ H R I h => h.elim (fun h => (pi_list hl).run pins s σ H R I h) (fun h => (pi_tup hl).run pins s σ H R I h)⟩
theorem walk_zipT {K : PySem.W.Frag} {a b : Addr} {xs ys : List V} {n : Nat} (hn : n = min xs.length ys.length) : Walk (RZ.ItzT K a b) n (fun H => SqT K H a xs ∧ SqT K H b ys) (YPair (fun i => xs[i]?) (fun i => ys[i]?)) := by
  subst hn
  refine ⟨fun j _ lt both => ?_, fun _ both => ⟨xs, ys, both.1, both.2, by omega⟩, fun j H v H' _ both got => ?_⟩
  · have in1 : j < xs.length := by omega
    have in2 : j < ys.length := by omega
    exact ⟨xs, ys, xs[j], ys[j], both.1, both.2, by simp [in1], by simp [in2]⟩
  · obtain ⟨pr, u1, u2, ev, fr, eh, f1, f2⟩ := got
    exact ⟨pr, u1, u2, ev, fr, eh, f1 xs both.1, f2 ys both.2⟩
/-- [f(x) for x in xs] over a list or a tuple, where the calls only add to the heap -/
theorem lcMap {K : PySem.W.Frag} {te : TE} {i j : Nat} {vs : List Nat} {σ : L2.St} {H : Hp} {a : Addr} {xs : List V} {f : V → V} {Q : VK} (hv : σ[i]? = some (some (.ref a))) (hs : SqV K H a xs) (hz : xs.length ≤ sizeLine)
    (hw : ∀ x, wipe ((wipe σ vs).set j (some x)) vs = wipe σ vs)
    (ht : ∀ x ∈ xs, ∀ (H' : Hp) (R : VK), Same H H' → (∀ H'', Same H' H'' → R (f x) H'') → te ((wipe σ vs).set j (some x)) H' R)
    (hq : ∀ (D : Addr) (H' : Hp), Same H H' → H D = none → H' D = some (.lst (xs.map f)) → Q (.ref D) H') : tLc (iSeq K (tVar i)) (gName j) tYes te vs σ H Q := by
  have step : ∀ (D : Addr), H D = none → ∀ i x H', xs[i]? = some x → (Same H H' ∧ H' D = some (.lst ((xs.take i).map f))) → gName j x (wipe σ vs) H' fun σ2 H2 => wipe σ2 vs = wipe σ vs ∧ tYes σ2 H2 fun b H3 =>
      if b = true then te σ2 H3 fun y H4 => ∃ acc, H4 D = some (.lst acc) ∧ acc.length < sizeLine ∧ (Same H (upd H4 D (.lst (acc ++ [y]))) ∧ (upd H4 D (.lst (acc ++ [y]))) D = some (.lst ((xs.take (i + 1)).map f))) else (Same H H3 ∧ H3 D = some (.lst ((xs.take (i + 1)).map f))) := by
    rintro D nD i x H' hi ⟨s1, hD⟩
    refine ⟨hw x, ?_⟩
    unfold tYes
    dsimp only
    rw [if_pos rfl]
    refine ht x (List.mem_of_getElem? hi) H' _ s1 fun H4 s4 => ⟨_, s4 _ _ hD, ?_, same_but (s1.trans s4) nD, ?_⟩
    · have : i < xs.length := by
        rcases Nat.lt_or_ge i xs.length with h | h
        · exact h
        · rw [List.getElem?_eq_none h] at hi
          cases hi
      rw [List.length_map, List.length_take]
      omega
    · rw [upd_same, List.take_add_one, hi, List.map_append]
      rfl
  rcases hs with hs | hs
  · refine .inl ⟨_, hv, a, rfl, ⟨xs, hs⟩, fun D nD => lc_list (xs := xs) (fun i H' => Same H H' ∧ H' D = some (.lst ((xs.take i).map f))) ⟨same_upd nD, upd_same⟩ (fun _ _ _ h => h.1.seq hs) (step D nD) fun H' h => hq D H' h.1 nD ?_⟩
    have h2 := h.2
    rw [List.take_length] at h2
    exact h2
  · refine .inr ⟨_, hv, a, rfl, ⟨xs, hs⟩, fun D nD => lc_tup (xs := xs) (fun i H' => Same H H' ∧ H' D = some (.lst ((xs.take i).map f))) ⟨same_upd nD, upd_same⟩ (fun _ _ _ h => seqT_keep hs h.1) (step D nD) fun H' h => hq D H' h.1 nD ?_⟩
    have h2 := h.2
    rw [List.take_length] at h2
    exact h2
/-- [f(x, y) for x, y in zip(xs, ys)], the walk W given, where f only adds to the heap -/
theorem lcPair {J : It} {n : Nat} {G : Hp → Prop} {K : PySem.W.Frag} {te : TE} {i j : Nat} {vs : List Nat} {σ : L2.St} {H1 : Hp} {xs ys : List V} {f : V → V → V} {R : Hp → Prop} {D : Addr} (w : Walk J n G (YPair (fun i => xs[i]?) (fun i => ys[i]?))) (hn : n = min xs.length ys.length) (hz : n ≤ sizeLine)
    (hG : ∀ H', Same H1 H' → G H') (nD : H1 D = none)
    (hw : ∀ x y, wipe (((wipe σ vs).set i (some x)).set j (some y)) vs = wipe σ vs)
    (ht : ∀ (k : Nat) (x y : V), xs[k]? = some x → ys[k]? = some y → ∀ (H' : Hp) (R : VK), Same H1 H' → (∀ H'', Same H' H'' → R (f x y) H'') → te (((wipe σ vs).set i (some x)).set j (some y)) H' R)
    (hq : ∀ (H' : Hp), Same H1 H' → H' D = some (.lst (List.zipWith f xs ys)) → R H') :
    ∃ W : Nat → Nat → Hp → Prop, (∃ m, W 0 m (upd H1 D (.lst []))) ∧ ∀ k m H, W k m H →
      (J.stop k H ∧ R H) ∨ (J.go k H ∧ ∃ Nx : Hp → Prop, (∀ H', Nx H' → ∃ m', m' < m ∧ W (k + 1) m' H') ∧ ∀ x H', J.yld k H x H' → gTup K 2 (gCons (gName i) (gCons (gName j) gNil)) x (wipe σ vs) H' fun σ2 H2 => wipe σ2 vs = wipe σ vs ∧ tYes σ2 H2 fun b H3 =>
        if b = true then te σ2 H3 fun y H4 => ∃ acc, H4 D = some (.lst acc) ∧ acc.length < sizeLine ∧ Nx (upd H4 D (.lst (acc ++ [y]))) else Nx H3) := by
  have hln : (List.zipWith f xs ys).length = n := by rw [List.length_zipWith, hn]
  refine lc_it w (fun k H' => Same H1 H' ∧ H' D = some (.lst ((List.zipWith f xs ys).take k))) ⟨same_upd nD, upd_same⟩ (fun _ _ _ h => hG _ h.1) ?_ ?_
  · rintro k v H' H2 hk ⟨s1, hD⟩ ⟨T, x, y, rfl, nT, rfl, hx, hy⟩
    refine ⟨T, [x, y], rfl, SqT.of upd_same, rfl, x, [y], rfl, y, [], rfl, rfl, hw x y, ?_⟩
    unfold tYes
    dsimp only
    rw [if_pos rfl]
    have sT := same_upd (o := HO.tup [x, y]) nT
    refine ht k x y hx hy _ _ (s1.trans sT) fun H4 s4 => ⟨_, s4 _ _ (sT _ _ hD), ?_, same_but ((s1.trans sT).trans s4) nD, ?_⟩
    · rw [List.length_take, hln]
      omega
    · have e : (List.zipWith f xs ys)[k]? = some (f x y) := by
        rw [List.getElem?_zipWith, show xs[k]? = some x from hx, show ys[k]? = some y from hy]
      rw [upd_same, List.take_add_one, e]
      rfl
  · rintro H' ⟨s1, hD⟩
    rw [← hln, List.take_length] at hD
    exact hq H' s1 hD
theorem cut1 (xs : List V) : cutV xs (some 1) none = xs.drop 1 := by
  show (xs.drop (HT.sIx xs.length 0 (some ((1 : Nat) : Int)))).take (HT.sIx xs.length xs.length none - HT.sIx xs.length 0 (some ((1 : Nat) : Int))) = xs.drop 1
  rw [HT.sIx_nat, HT.sIx_none]
  cases xs with
  | nil => rfl
  | cons x xs =>
    rw [show min 1 (x :: xs).length = 1 by simp]
    simp
def ltV : V → V → Bool
  | .int i, .int j => decide (i < j)
  | _, _ => false
/-- a sequence of values in strictly ascending order -/
def ascV (xs : List V) : Bool := xs.all valueV && (List.zipWith ltV xs (xs.drop 1)).all id
/-- is_ascending(thing) -/
def spAsc (K : PySem.W.Frag) : Sp := fun vs H Q _ => ∃ (x : V) (t : String), vs = [x] ∧ TyOf K H x (.type t) ∧
  ((seqT t = false ∧ ∀ H', Same H H' → Q (.bl false) H') ∨
   (seqT t = true ∧ ∃ (a : Addr) (xs : List V), x = .ref a ∧ SqV K H a xs ∧ xs.length ≤ sizeLine ∧ (∀ y ∈ xs, ∃ u, TyOf K H y (.type u)) ∧ ∀ H', Same H H' → Q (.bl (ascV xs)) H'))
theorem valueV_int {x : V} (h : valueV x = true) : ∃ i, x = .int i ∧ 0 ≤ i ∧ i ≤ 1000000000 := by
  cases x with
  | int i =>
    have z : (decide ((0 : Int) ≤ i) && decide (i ≤ 1000000000)) = true := h
    rw [Bool.and_eq_true] at z
    exact ⟨i, rfl, of_decide_eq_true z.1, of_decide_eq_true z.2⟩
  | _ => cases h
end My
set_option Elab.async false
set_option linter.all false
set_option maxRecDepth 100000
set_option maxHeartbeats 4000000
namespace My
open PySem PySem.Spec PyProof.Rows L2
/-! ### data that values stand for -/
/-! no list and no dict in it -/
mutual
def tupD : PyData → Bool
  | .list _ => false
  | .dict _ => false
  | .tuple ds => decide (ds.length ≤ 1000) && tupDs ds
  | .none => true
  | .bool _ => true
  | .int _ => true
  | .str _ => true
def tupDs : List PyData → Bool
  | [] => true
  | d :: ds => tupD d && tupDs ds
end
/-! how deep tuples stand in one another -/
mutual
def dep : PyData → Nat
  | .tuple ds => depAll ds + 1
  | .list ds => depAll ds + 1
  | .dict _ => 0
  | .none => 0
  | .bool _ => 0
  | .int _ => 0
  | .str _ => 0
def depAll : List PyData → Nat
  | [] => 0
  | d :: ds => max (dep d) (depAll ds)
end
theorem tupDs_mem : ∀ {ds : List PyData} {d : PyData}, tupDs ds = true → d ∈ ds → tupD d = true
  | e :: ds, d, h, m => by
    have h' : (tupD e && tupDs ds) = true := by rw [tupDs] at h; exact h
    rw [Bool.and_eq_true] at h'
    rcases List.mem_cons.mp m with z | z
    · rw [z]; exact h'.1
    · exact tupDs_mem h'.2 z
theorem tupDs_of : ∀ {ds : List PyData}, (∀ d ∈ ds, tupD d = true) → tupDs ds = true
  | [], _ => by rw [tupDs]
  | e :: ds, h => by
    rw [tupDs, h e (List.mem_cons_self ..), tupDs_of fun d m => h d (List.mem_cons_of_mem _ m)]
    rfl
theorem depAll_mem : ∀ {ds : List PyData} {d : PyData}, d ∈ ds → dep d ≤ depAll ds
  | e :: ds, d, m => by
    rw [depAll]
    rcases List.mem_cons.mp m with z | z
    · rw [z]; exact Nat.le_max_left _ _
    · exact Nat.le_trans (depAll_mem z) (Nat.le_max_right _ _)
section
variable {K : PySem.W.Frag} {H H' : Hp}
mutual
theorem dp_keep (s : Same H H') : ∀ (d : PyData) (v : V), Dp K H v d → Dp K H' v d
  | .none, _, .non => .non
  | .bool b, _, .bl _ => .bl b
  | .int i, _, .int _ => .int i
  | .str x, _, .str _ => .str x
  | .list ds, _, .lst h a => .lst (s.seq h) (dpAll_keep s ds _ a)
  | .tuple ds, _, .tup h a => .tup (seqT_keep h s) (dpAll_keep s ds _ a)
theorem dpAll_keep (s : Same H H') : ∀ (ds : List PyData) (vs : List V), DpAll K H vs ds → DpAll K H' vs ds
  | [], _, .nil => .nil
  | d :: ds, _, .cons h a => .cons (dp_keep s d _ h) (dpAll_keep s ds _ a)
end
theorem dpAll_len : ∀ {vs : List V} {ds : List PyData}, DpAll K H vs ds → vs.length = ds.length
  | _, _, .nil => rfl
  | _, _, .cons _ a => congrArg (· + 1) (dpAll_len a)
theorem dpAll_get : ∀ {vs : List V} {ds : List PyData}, DpAll K H vs ds → ∀ {i : Nat} {x : V}, vs[i]? = some x → ∃ d, ds[i]? = some d ∧ Dp K H x d
  | _, _, .nil, i, x, e => by simp at e
  | _, _, @DpAll.cons _ _ v vs d ds h a, 0, x, e => ⟨d, rfl, by
      have z : v = x := Option.some.inj e
      rw [← z]; exact h⟩
  | _, _, .cons _ a, i + 1, x, e => dpAll_get a (i := i) e
theorem dpAll_getD : ∀ {vs : List V} {ds : List PyData}, DpAll K H vs ds → ∀ {i : Nat} {d : PyData}, ds[i]? = some d → ∃ x, vs[i]? = some x ∧ Dp K H x d
  | _, _, .nil, i, x, e => by simp at e
  | _, _, @DpAll.cons _ _ v vs d ds h a, 0, x, e => ⟨v, rfl, by
      have z : d = x := Option.some.inj e
      rw [← z]; exact h⟩
  | _, _, .cons _ a, i + 1, x, e => dpAll_getD a (i := i) e
theorem dpAll_snoc : ∀ {vs : List V} {ds : List PyData} {v : V} {d : PyData}, DpAll K H vs ds → Dp K H v d → DpAll K H (vs ++ [v]) (ds ++ [d])
  | _, _, _, _, .nil, h => .cons h .nil
  | _, _, _, _, .cons h a, g => .cons h (dpAll_snoc a g)
theorem dpAll_ints : ∀ {ns : List Int}, DpAll K H (ns.map V.int) (ns.map PyData.int)
  | [] => .nil
  | n :: ns => .cons (.int n) dpAll_ints
theorem dpAll_intsV : ∀ {ns : List Int} {vs : List V}, DpAll K H vs (ns.map PyData.int) → vs = ns.map V.int
  | [], _, .nil => rfl
  | n :: ns, _, .cons h a => by
    cases h
    rw [dpAll_intsV a]
    rfl
/-! such data do not mind what a list holds -/
mutual
theorem dp_put {a : Addr} {xs ys : List V} (e : H a = some (.lst xs)) : ∀ (d : PyData) (v : V), tupD d = true → Dp K H v d → Dp K (upd H a (.lst ys)) v d
  | .none, _, _, .non => .non
  | .bool b, _, _, .bl _ => .bl b
  | .int i, _, _, .int _ => .int i
  | .str x, _, _, .str _ => .str x
  | .list ds, _, t, _ => by rw [tupD] at t; cases t
  | .tuple ds, _, t, @Dp.tup _ _ b zs _ h al => by
    rw [tupD, Bool.and_eq_true] at t
    refine .tup ?_ (dpAll_put e ds _ t.2 al)
    rcases h with (h | ⟨o, h⟩) | h
    · exact .inl (.inl (by rw [upd_ne (fun z => by rw [z, e] at h; cases h)]; exact h))
    · exact .inl (.inr ⟨o, by rw [upd_ne (fun z => by rw [z, e] at h; cases h)]; exact h⟩)
    · exact .inr h
theorem dpAll_put {a : Addr} {xs ys : List V} (e : H a = some (.lst xs)) : ∀ (ds : List PyData) (vs : List V), tupDs ds = true → DpAll K H vs ds → DpAll K (upd H a (.lst ys)) vs ds
  | [], _, _, .nil => .nil
  | d :: ds, _, t, .cons h al => by
    rw [tupDs, Bool.and_eq_true] at t
    exact .cons (dp_put e d _ t.1 h) (dpAll_put e ds _ t.2 al)
end
def tyD : PyData → String
  | .none => "NoneType"
  | .bool _ => "bool"
  | .int _ => "int"
  | .str _ => "str"
  | .list _ => "list"
  | .tuple _ => "tuple"
  | .dict _ => "dict"
theorem dp_ty {x : V} {d : PyData} (h : Dp K H x d) : TyX K H x (.type (tyD d)) := by
  cases h with
  | non => exact .base .non
  | bl b => exact .base (.bl b)
  | int i => exact .base (.int i)
  | str z => exact .base (.str z)
  | lst h _ =>
    rcases h with (h | ⟨o, h⟩) | ⟨o, its, n, h, c, _⟩
    · exact .base (.lst h)
    · exact .base (.frz h)
    · exact .kList h c
  | tup h _ =>
    rcases h with (h | ⟨o, h⟩) | ⟨o, its, n, h, c, _⟩
    · exact .base (.tup h)
    · exact .fTuple h
    · exact .kTuple h c
theorem tyD_cases (d : PyData) : tyD d = "NoneType" ∨ tyD d = "bool" ∨ tyD d = "int" ∨ tyD d = "str" ∨ tyD d = "list" ∨ tyD d = "tuple" ∨ tyD d = "dict" := by
  cases d <;> simp [tyD]
theorem kit_dTuple (d : PyData) : PySem.W.kitOne K (.type (tyD d)) (.type "tuple") = some (decide (tyD d = "tuple")) := by
  rcases tyD_cases d with h | h | h | h | h | h | h <;> (rw [h]; exact kit_ty (by decide +kernel))
theorem kit_dList (d : PyData) : PySem.W.kitOne K (.type (tyD d)) (.type "list") = some (decide (tyD d = "list")) := by
  rcases tyD_cases d with h | h | h | h | h | h | h <;> (rw [h]; exact kit_ty (by decide +kernel))
theorem kit_dBool (d : PyData) : PySem.W.kitOne K (.type (tyD d)) (.type "bool") = some (decide (tyD d = "bool")) := by
  rcases tyD_cases d with h | h | h | h | h | h | h <;> (rw [h]; exact kit_ty (by decide +kernel))
theorem kit_dStr (d : PyData) : PySem.W.kitOne K (.type (tyD d)) (.type "str") = some (decide (tyD d = "str")) := by
  rcases tyD_cases d with h | h | h | h | h | h | h <;> (rw [h]; exact kit_ty (by decide +kernel))
theorem kit_dInt (d : PyData) : PySem.W.kitOne K (.type (tyD d)) (.type "int") = some (decide (tyD d = "int") || decide (tyD d = "bool")) := by
  rcases tyD_cases d with h | h | h | h | h | h | h <;> (rw [h]; exact kit_ty (by decide +kernel))
theorem kit_dSeq (d : PyData) : PySem.W.kitAny K (.type (tyD d)) [.type "list", .type "tuple"] = some (seqT (tyD d)) := by
  have h1 := kit_dList (K := K) d
  have h2 := kit_dTuple (K := K) d
  unfold seqT
  refine kitAny_cons h1 (fun e1 => ?_) (fun e1 => by rw [e1]; rfl)
  rw [e1, Bool.false_or]
  exact kitAny_cons h2 (fun e2 => by rw [e2]; exact kitAny_nil) (fun e2 => by rw [e2])
/-- [f(x) for x in xs] over a list or a tuple of data, the results' data tuples at most -/
theorem lcDg {te ti : TE} {j : Nat} {vs : List Nat} {σ : L2.St} {a : Addr} {xs : List V} {ds : List PyData} {g : PyData → PyData} {Q : VK} (hv : ∀ R : VK, R (.ref a) H → ti σ H R) (hs : SqV K H a xs) (hz : xs.length ≤ sizeLine) (hd : DpAll K H xs ds) (hg : ∀ d ∈ ds, tupD (g d) = true)
    (hw : ∀ x, wipe ((wipe σ vs).set j (some x)) vs = wipe σ vs)
    (ht : ∀ (x : V) (d : PyData), d ∈ ds → ∀ (H' : Hp) (R : VK), Same H H' → Dp K H' x d → (∀ y H'', Same H' H'' → Dp K H'' y (g d) → R y H'') → te ((wipe σ vs).set j (some x)) H' R)
    (hq : ∀ (D : Addr) (ys : List V) (H' : Hp), Same H H' → H D = none → H' D = some (.lst ys) → DpAll K H' ys (ds.map g) → Q (.ref D) H') : tLc (iSeq K ti) (gName j) tYes te vs σ H Q := by
  have len := dpAll_len hd
  have step : ∀ (D : Addr), H D = none → ∀ i x H', xs[i]? = some x → (Same H H' ∧ ∃ ys, H' D = some (.lst ys) ∧ DpAll K H' ys ((ds.take i).map g)) → gName j x (wipe σ vs) H' fun σ2 H2 => wipe σ2 vs = wipe σ vs ∧ tYes σ2 H2 fun b H3 =>
      if b = true then te σ2 H3 fun y H4 => ∃ acc, H4 D = some (.lst acc) ∧ acc.length < sizeLine ∧ (Same H (upd H4 D (.lst (acc ++ [y]))) ∧ ∃ ys, (upd H4 D (.lst (acc ++ [y]))) D = some (.lst ys) ∧ DpAll K (upd H4 D (.lst (acc ++ [y]))) ys ((ds.take (i + 1)).map g)) else (Same H H3 ∧ ∃ ys, H3 D = some (.lst ys) ∧ DpAll K H3 ys ((ds.take (i + 1)).map g)) := by
    rintro D nD i x H' hi ⟨s1, ys, hD, hys⟩
    refine ⟨hw x, ?_⟩
    unfold tYes
    dsimp only
    rw [if_pos rfl]
    obtain ⟨d, ed, hxd⟩ := dpAll_get (dpAll_keep s1 _ _ hd) hi
    have md := List.mem_of_getElem? ed
    have hlt : i < xs.length := (List.getElem?_eq_some_iff.mp hi).1
    refine ht x d md H' _ s1 hxd fun y H4 s4 hy => ⟨ys, s4 _ _ hD, ?_, same_but (s1.trans s4) nD, ys ++ [y], upd_same, ?_⟩
    · rw [dpAll_len hys, List.length_map, List.length_take]
      omega
    · rw [List.take_add_one, ed, List.map_append]
      refine dpAll_put (s4 _ _ hD) _ _ (tupDs_of fun e he => ?_) (dpAll_snoc (dpAll_keep s4 _ _ hys) hy)
      rcases List.mem_append.mp he with z | z
      · obtain ⟨d', m', rfl⟩ := List.mem_map.mp z
        exact hg d' (List.mem_of_mem_take m')
      · rw [List.mem_singleton.mp z]
        exact hg d md
  rcases hs with hs | hs
  · refine .inl (hv _ ⟨a, rfl, ⟨xs, hs⟩, fun D nD => lc_list (xs := xs) (fun i H' => Same H H' ∧ ∃ ys, H' D = some (.lst ys) ∧ DpAll K H' ys ((ds.take i).map g)) ⟨same_upd nD, [], upd_same, .nil⟩ (fun _ _ _ h => h.1.seq hs) (step D nD) ?_⟩)
    rintro H' ⟨s1, ys, hD, hys⟩
    rw [len, List.take_length] at hys
    exact hq D ys H' s1 nD hD hys
  · refine .inr (hv _ ⟨a, rfl, ⟨xs, hs⟩, fun D nD => lc_tup (xs := xs) (fun i H' => Same H H' ∧ ∃ ys, H' D = some (.lst ys) ∧ DpAll K H' ys ((ds.take i).map g)) ⟨same_upd nD, [], upd_same, .nil⟩ (fun _ _ _ h => seqT_keep hs h.1) (step D nD) ?_⟩)
    rintro H' ⟨s1, ys, hD, hys⟩
    rw [len, List.take_length] at hys
    exact hq D ys H' s1 nD hD hys
theorem lcD {te : TE} {i j : Nat} {vs : List Nat} {σ : L2.St} {a : Addr} {xs : List V} {ds : List PyData} {g : PyData → PyData} {Q : VK} (hv : σ[i]? = some (some (.ref a))) (hs : SqV K H a xs) (hz : xs.length ≤ sizeLine) (hd : DpAll K H xs ds) (hg : ∀ d ∈ ds, tupD (g d) = true)
    (hw : ∀ x, wipe ((wipe σ vs).set j (some x)) vs = wipe σ vs)
    (ht : ∀ (x : V) (d : PyData), d ∈ ds → ∀ (H' : Hp) (R : VK), Same H H' → Dp K H' x d → (∀ y H'', Same H' H'' → Dp K H'' y (g d) → R y H'') → te ((wipe σ vs).set j (some x)) H' R)
    (hq : ∀ (D : Addr) (ys : List V) (H' : Hp), Same H H' → H D = none → H' D = some (.lst ys) → DpAll K H' ys (ds.map g) → Q (.ref D) H') : tLc (iSeq K (tVar i)) (gName j) tYes te vs σ H Q :=
  lcDg (fun _ h => ⟨_, hv, h⟩) hs hz hd hg hw ht hq
end
end My
set_option Elab.async false
set_option linter.all false
set_option maxRecDepth 100000
set_option maxHeartbeats 4000000
namespace My
open PySem PySem.Spec PyProof.Rows L2
section
variable {P : Program} {w : World} {K : PySem.W.Frag} {mg : Str → Option Value} {base : Heap}
/-! ### widths, stores -/
theorem sc_is_whole : FnScope ["thing", "low", "high"] ["thing", "low", "high"] (defScope (topS 10)) := ⟨rfl, rfl, rfl, by decide +kernel, rfl, by decide +kernel, by decide +kernel⟩
theorem ok_is_whole {f : Addr} {fd : FuncData} {dvs : List V} (F : FunD K "is_whole" "is_whole" (defArgs (topS 10)) (defBody (topS 10)) (defScope (topS 10)) dvs [] f fd) (m_isinstance : mg "isinstance" = none) (m_int : mg "int" = none) (m_bool : mg "bool" = none) : FnOk P w K mg base CX0 1 f fd ["thing", "low", "high"] (spWhole K) := by
  refine F.ok sc_is_whole (fun vs H Q E h => ?_) (fun cdv A outer s H vs Q E hr h => ?_)
  · obtain ⟨x, t, l, h, rfl, _⟩ := h
    rfl
  · obtain ⟨x, t, l, h, rfl, ty, k⟩ := h
    refine ⟨_, PSs.nox ((pss_cons (ps_if (PW.pt (pw_or (pt_not (pt_val (pe_callB call_isi (by rfl) m_isinstance (by decide +kernel) (pa_cons (pv 0) (pa_cons (pe_bltn (v := .ty "int") (by rfl) m_int (by decide +kernel) rfl) pa_nil))))) (pw_or1 (pt_val (pe_callB call_isi (by rfl) m_isinstance (by decide +kernel) (pa_cons (pv 0) (pa_cons (pe_bltn (v := .ty "bool") (by rfl) m_bool (by decide +kernel) rfl) pa_nil))))))) (pss_one (ps_ret pe_bl)) pss_nil)
      (pss_one (ps_ret (pe_and (pe_or (pe_cmpR op_isN (pv 1) pe_non (nomark _)) (pe_one (pe_cmpR op_ge (pv 0) (pv 1) (nomark _)))) (pe_one (pe_or (pe_cmpR op_isN (pv 2) pe_non (nomark _)) (pe_one (pe_cmpR op_le (pv 0) (pv 2) (nomark _)))))))))), ?_⟩
    refine ⟨_, rfl, x, .ty "int", _, _, _, rfl, .ty _, .base ty, kit_int ty, _, rfl, ?_⟩
    have kb := kit_bool ty
    cases ty with
    | int i =>
      refine iteF ⟨_, rfl, _, .ty "bool", _, _, _, rfl, .ty _, .base (.int i), kb, _, rfl, iteF ?_⟩
      have e : wholeV (.int i) l h = (loOk i l && hiOk i h) := rfl
      rw [e] at k
      have last : (hiOk i h = true → Q (.bl true) H) → (hiOk i h = false → Q (.bl false) H) → tOrV (tOp (fun x y H Q => y = .non ∧ Q (.bl (decide (x = .non))) H) (tVar 2) (tC .non)) (tOp (rI0 fun i j => .bl (decide (i ≤ j))) (tVar 0) (tVar 2)) (start ["thing", "low", "high"] [.int i, optV l, optV h]) H Q := fun k1 k2 => by
        cases h with
        | none => exact ⟨_, rfl, rfl, _, rfl, k1 rfl⟩
        | some z =>
          refine ⟨_, rfl, rfl, _, rfl, ⟨_, rfl, _, rfl, _, _, rfl, rfl, ?_⟩⟩
          by_cases hz : i ≤ z
          · show Q (.bl (decide (i ≤ z))) H
            rw [decide_eq_true hz]
            exact k1 (decide_eq_true hz)
          · show Q (.bl (decide (i ≤ z))) H
            rw [decide_eq_false hz]
            exact k2 (decide_eq_false hz)
      cases l with
      | none =>
        refine ⟨_, rfl, rfl, _, rfl, _, rfl, last (fun z => ?_) (fun z => ?_)⟩ <;> (rw [z] at k; exact k)
      | some z =>
        refine ⟨_, rfl, rfl, _, rfl, ⟨_, rfl, _, rfl, _, _, rfl, rfl, _, rfl, ite2 (fun q => ?_) (fun q => ?_)⟩⟩
        · have hz : z ≤ i := of_decide_eq_true q
          rw [show loOk i (some z) = true from decide_eq_true hz, Bool.true_and] at k
          exact last (fun q => by rw [q] at k; exact k) (fun q => by rw [q] at k; exact k)
        · have hz : ¬ z ≤ i := fun y => q (decide_eq_true y)
          rw [show loOk i (some z) = false from decide_eq_false hz, Bool.false_and] at k
          exact k
    | bl b => exact iteF ⟨_, rfl, _, .ty "bool", _, _, _, rfl, .ty _, .base (.bl b), kb, _, rfl, iteT k⟩
    | _ => exact iteT k
end
end My
set_option Elab.async false
set_option linter.all false
set_option maxRecDepth 100000
set_option maxHeartbeats 4000000
namespace My
open PySem PySem.Spec PyProof.Rows L2
section
variable {P : Program} {w : World} {K : PySem.W.Frag} {mg : Str → Option Value} {base : Heap}
theorem sc_is_sequence : FnScope ["thing"] ["thing"] (defScope (topS 11)) := ⟨rfl, rfl, rfl, by decide +kernel, rfl, by decide +kernel, by decide +kernel⟩
theorem ok_is_sequence {f : Addr} {fd : FuncData} (F : Fun K "is_sequence" "is_sequence" (topS 11) f fd) (m_isinstance : mg "isinstance" = none) (m_list : mg "list" = none) (m_tuple : mg "tuple" = none) : FnOk P w K mg base CX0 1 f fd ["thing"] (spSeq K) := by
  refine F.ok sc_is_sequence (fun vs H Q E h => ?_) (fun cdv A outer s H vs Q E hr h => ?_)
  · obtain ⟨x, t, rfl, _⟩ := h
    rfl
  · obtain ⟨x, t, rfl, ty, k⟩ := h
    refine ⟨_, (pss_one (ps_ret (pe_callB call_isiT (by rfl) m_isinstance (by decide +kernel) (pa_cons (pv 0) (pa_cons (pe_tup (pa_cons (pe_bltn (v := .ty "list") (by rfl) m_list (by decide +kernel) rfl) (pa_cons (pe_bltn (v := .ty "tuple") (by rfl) m_tuple (by decide +kernel) rfl) pa_nil))) pa_nil))))), ?_⟩
    refine ⟨_, rfl, (by show 2 ≤ sizeLine; decide), fun p np => ⟨x, p, _, _, _, _, rfl, upd_same, .cons (.ty "list") (.cons (.ty "tuple") .nil), .base (TyOf.keep ty (same_upd np)), kit_seq ty, k _ (same_upd np)⟩⟩
theorem sc_is_value : FnScope ["thing"] ["thing"] (defScope (topS 14)) := ⟨rfl, rfl, rfl, by decide +kernel, rfl, by decide +kernel, by decide +kernel⟩
theorem ok_is_value {f : Addr} {fd : FuncData} (F : Fun K "is_value" "is_value" (topS 14) f fd) (cw : Cal P w K mg base 1 "is_whole" (spWhole K)) (gv : ∃ u, mg "GREATEST_VALUE" = some u ∧ RelV (.int 1000000000) u) : FnOk P w K mg base CX0 2 f fd ["thing"] (spValue K) := by
  refine F.ok sc_is_value (fun vs H Q E h => ?_) (fun cdv A outer s H vs Q E hr h => ?_)
  · obtain ⟨x, t, rfl, _⟩ := h
    rfl
  · obtain ⟨x, t, rfl, ty, k⟩ := h
    refine ⟨_, (pss_one (ps_ret (pe_c (cw) hr (by decide) rfl (pa_cons (pv 0) (pa_cons pe_int (pa_cons (C8.pe_gc rfl gv) pa_nil)))))), ?_⟩
    exact ⟨_, rfl, x, t, some 0, some 1000000000, rfl, ty, k⟩
end
end My
set_option Elab.async false
set_option linter.all false
set_option maxRecDepth 100000
set_option maxHeartbeats 4000000
namespace My
open PySem PySem.Spec PyProof.Rows L2
section
variable {P : Program} {w : World} {K : PySem.W.Frag} {mg : Str → Option Value} {base : Heap}
theorem sc_is_ascending : FnScope ["thing", "low", "high", "value"] ["thing"] (defScope (topS 18)) := ⟨rfl, rfl, rfl, by decide +kernel, rfl, by decide +kernel, by decide +kernel⟩
theorem ok_is_ascending {f : Addr} {fd : FuncData} (F : Fun K "is_ascending" "is_ascending" (topS 18) f fd) (cq : Cal P w K mg base 1 "is_sequence" (spSeq K)) (cv : Cal P w K mg base 2 "is_value" (spValue K)) (m_all : mg "all" = none) (m_zip : mg "zip" = none) : FnOk P w K mg base CX0 3 f fd ["thing"] (spAsc K) := by
  refine F.ok sc_is_ascending (fun vs H Q E h => ?_) (fun cdv A outer s H vs Q E hr h => ?_)
  · obtain ⟨x, t, rfl, _⟩ := h
    rfl
  · obtain ⟨x, t, rfl, ty, k⟩ := h
    refine ⟨_, (pss_cons (ps_if (PW.pt (pw_or (pt_not (pt_val (pe_c cq hr (by decide) rfl (pa_cons (pv 0) pa_nil)))) (pw_or1 (pt_not (pt_val (pe_callB (cr_all rfl) (by rfl) m_all (by decide +kernel) (pa_cons (pe_lc (own := [("value", 3)]) (g := gName 3) (tt := tYes) rfl sc_is_ascending.nd (pi_seq (pv 0)) (blkOk_by (N := ["thing", "low", "high", "value"]) (sc := defScope (topS 18)) (by decide +kernel)) (fun _ _ _ _ _ => pg_name (i := 3) sc_is_ascending.nd rfl (Or.inl rfl)) (fun _ _ _ _ _ => pts_nil) (fun _ _ _ _ _ => (pe_c cv hr (by decide) rfl (pa_cons (pv 3) pa_nil)))) pa_nil))))))) (pss_one (ps_ret pe_bl)) pss_nil)
      (pss_one (ps_ret (pe_callB (cr_all rfl) (by rfl) m_all (by decide +kernel) (pa_cons (pe_lc (own := [("low", 1), ("high", 2)]) (g := gTup K 2 (gCons (gName 1) (gCons (gName 2) gNil))) (tt := tYes) rfl sc_is_ascending.nd (RZ.pi_zipA (by rfl) m_zip (pa_cons (pv 0) (pa_cons (pe_slice (SlR.or sl_list sl_tupA) (pv 0) (po_some pe_int) po_none) pa_nil))) (blkOk_by (N := ["thing", "low", "high", "value"]) (sc := defScope (topS 18)) (by decide +kernel)) (fun _ _ _ _ _ => pg_tup rfl (pgs_cons (pg_name (i := 1) sc_is_ascending.nd rfl (Or.inl rfl)) (pgs_cons (pg_name (i := 2) sc_is_ascending.nd rfl (Or.inl rfl)) pgs_nil))) (fun _ _ _ _ _ => pts_nil) (fun _ _ _ _ _ => (pe_cmpR op_lt (pv 1) (pv 2) (nomark _)))) pa_nil))))), ?_⟩
    refine ⟨_, rfl, x, t, rfl, ty, fun H1 s1 => ⟨_, rfl, ?_⟩⟩
    rcases k with ⟨hq, k⟩ | ⟨hq, a, xs, rfl, hs, hz, hx, k⟩
    · rw [hq]
      exact iteT (iteT (k _ s1))
    · rw [hq]
      refine iteF ?_
      dsimp only [tNot, tB, tCB, tCons, tNil]
      refine lcMap (f := fun x => .bl (valueV x)) (by rfl) (hs.keep s1) hz (by intro _; rfl) (fun x hx' H2 R s2 kR => ?_) (fun D H2 s2 nD hD => ?_)
      · obtain ⟨u, tu⟩ := hx x hx'
        exact ⟨_, rfl, x, u, rfl, TyOf.keep tu (s1.trans s2), kR _ (Same.refl _)⟩
      have e1 : xs.map (fun x => V.bl (valueV x)) = (xs.map valueV).map V.bl := by rw [List.map_map]; rfl
      rw [e1] at hD
      refine ⟨D, _, rfl, SqL.of hD, _, rfl, ?_⟩
      have e2 : (xs.map valueV).all id = xs.all valueV := by rw [List.all_map]; rfl
      rw [e2]
      have s12 := s1.trans s2
      unfold ascV at k
      by_cases hv : xs.all valueV = true
      · rw [hv] at k ⊢
        rw [Bool.true_and] at k
        simp only [Bool.not_true, Bool.false_eq_true, if_false]
        dsimp only [tNext, tRet, tCB, tCons, tNil, tLc]
        have fin : ∀ (H3 : Hp), Same H H3 → ∀ D, H3 D = some (.lst (List.zipWith (fun x y => V.bl (ltV x y)) xs (xs.drop 1))) → ∃ (a : Addr) (bs : List Bool), [V.ref D] = [V.ref a] ∧ SqL K H3 a (bs.map V.bl) ∧ Q (.bl (bs.all id)) H3 := fun H3 s3 D hD => ⟨D, _, rfl, SqL.of (by rw [hD, List.map_zipWith]), k _ s3⟩
        have el : ∀ (k : Nat) (x y : V), xs[k]? = some x → (xs.drop 1)[k]? = some y → ∃ i j, x = .int i ∧ y = .int j := fun k x y h1 h2 => by
          obtain ⟨i, rfl, _⟩ := valueV_int (List.all_eq_true.mp hv x (List.mem_of_getElem? h1))
          obtain ⟨j, rfl, _⟩ := valueV_int (List.all_eq_true.mp hv y (List.mem_of_mem_drop (List.mem_of_getElem? h2)))
          exact ⟨i, j, rfl, rfl⟩
        have hz1 : min xs.length (xs.drop 1).length ≤ sizeLine := Nat.le_trans (Nat.min_le_left _ _) hz
        rcases hs.keep s12 with hl | hl
        · refine ⟨_, rfl, _, rfl, _, rfl, .inl ⟨a, xs, rfl, hl, fun p np => ?_⟩⟩
          rw [cut1]
          generalize e3 : upd _ p _ = H3
          have s3 := gs e3 np
          have hp := ga e3
          refine ⟨a, p, xs, xs.drop 1, rfl, .inl ⟨s3.seq hl, SqL.of hp, fun D nD => lcPair (f := fun x y => .bl (ltV x y)) (walk_zip rfl) rfl hz1 (fun H' s' => ⟨s'.seq (s3.seq hl), SqL.of (s' _ _ hp)⟩) nD (by intro _ _; rfl) (fun k x y h1 h2 H' R s' kR => ?_) (fun H' s' hD => fin _ ((s12.trans s3).trans s') _ hD)⟩⟩
          obtain ⟨i, j, rfl, rfl⟩ := el k x y h1 h2
          exact ⟨_, rfl, _, rfl, i, j, rfl, rfl, kR _ (Same.refl _)⟩
        · refine ⟨_, rfl, _, rfl, _, rfl, .inr ⟨a, xs, rfl, hl, fun hw => ?_, fun _ p np => ?_⟩⟩
          · have h0 : xs = [] := by
              cases xs with
              | nil => rfl
              | cons x xs =>
                have z := hw.1
                rw [show (some (1 : Int)) = some ((1 : Nat) : Int) from rfl, HT.sIx_nat] at z
                simp at z
            subst h0
            refine ⟨a, a, [], [], rfl, .inr ⟨hl, hl, fun D nD => lcPair (f := fun x y => .bl (ltV x y)) (walk_zipT rfl) rfl (Nat.zero_le _) (fun H' s' => ⟨seqT_keep hl s', seqT_keep hl s'⟩) nD (by intro _ _; rfl) (fun k x y h1 h2 H' R s' kR => ?_) (fun H' s' hD => fin _ (s12.trans s') _ hD)⟩⟩
            cases h1
          · rw [cut1]
            generalize e3 : upd _ p _ = H3
            have s3 := gs e3 np
            have hp := ga e3
            refine ⟨a, p, xs, xs.drop 1, rfl, .inr ⟨seqT_keep hl s3, SqT.of hp, fun D nD => lcPair (f := fun x y => .bl (ltV x y)) (walk_zipT rfl) rfl hz1 (fun H' s' => ⟨seqT_keep (seqT_keep hl s3) s', SqT.of (s' _ _ hp)⟩) nD (by intro _ _; rfl) (fun k x y h1 h2 H' R s' kR => ?_) (fun H' s' hD => fin _ ((s12.trans s3).trans s') _ hD)⟩⟩
            obtain ⟨i, j, rfl, rfl⟩ := el k x y h1 h2
            exact ⟨_, rfl, _, rfl, i, j, rfl, rfl, kR _ (Same.refl _)⟩
      · have hv' : xs.all valueV = false := by
          cases e : xs.all valueV with
          | true => exact absurd e hv
          | false => rfl
        rw [hv'] at k ⊢
        rw [Bool.false_and] at k
        simp only [Bool.not_false, if_true]
        exact k _ s12
end
end My
set_option Elab.async false
set_option linter.all false
set_option maxRecDepth 100000
set_option maxHeartbeats 4000000
namespace My
open PySem PySem.Spec PyProof.Rows L2
/-- _in_tuples of data: the same data, no list in them -/
def spIn (K : PySem.W.Frag) (n : Nat) : Sp := fun vs H Q _ => ∃ (x : V) (k : Int) (d : PyData), vs = [x, .int k] ∧ Dp K H x d ∧ tupD d = true ∧ dep d ≤ n ∧ (n : Int) ≤ k ∧ ∀ y H', Same H H' → Dp K H' y d → Q y H'
def spKept (K : PySem.W.Frag) : Sp := fun vs H Q _ => ∃ (x : V) (d : PyData), vs = [x] ∧ Dp K H x d ∧ tupD d = true ∧ dep d ≤ 6 ∧ ∀ y H', Same H H' → Dp K H' y d → Q y H'
/-- __init__ of an error with one field that is kept (or a text) -/
def spErr (K : PySem.W.Frag) (C : Addr) (f : Str) : Sp := fun vs H Q _ => ∃ (a : Addr) (x : V) (d : PyData), vs = [.ref a, x] ∧ Dp K H x d ∧ tupD d = true ∧ dep d ≤ 6 ∧ H a = some (exo a C none) ∧
  ∀ (y : V) (dx : Addr) (H' : Hp), H dx = none → (∀ b o, H b = some o → b ≠ a → H' b = some o) → H' a = some (exo a C (some dx)) → H' dx = some (exd dx [(f, y)]) → Dp K H' y d → Q .non H'
def spDE (K : PySem.W.Frag) : Sp := fun vs H Q _ => ∃ (a C : Addr) (x : V), vs = [.ref a, x] ∧ OexC K C ∧ H a = some (exo a C none) ∧ Q .non H
/-! where an exception stands, no data stand -/
mutual
theorem dp_ext {K : PySem.W.Frag} {H : Hp} {a C : Addr} {d0 d1 : Option Addr} (e : H a = some (exo a C d0)) : ∀ (d : PyData) (v : V), Dp K H v d → Dp K (upd H a (exo a C d1)) v d
  | .none, _, .non => .non
  | .bool b, _, .bl _ => .bl b
  | .int i, _, .int _ => .int i
  | .str x, _, .str _ => .str x
  | .list ds, _, @Dp.lst _ _ b zs _ h al => by
    refine .lst ?_ (dpAll_ext e ds _ al)
    rcases h with (h | ⟨o, h⟩) | h
    · exact .inl (.inl (by rw [upd_ne (fun z => by rw [z, e] at h; exact absurd (Option.some.inj h) (by intro y; cases y))]; exact h))
    · exact .inl (.inr ⟨o, by rw [upd_ne (fun z => by rw [z, e] at h; exact exo_frz (Option.some.inj h))]; exact h⟩)
    · exact .inr h
  | .tuple ds, _, @Dp.tup _ _ b zs _ h al => by
    refine .tup ?_ (dpAll_ext e ds _ al)
    rcases h with (h | ⟨o, h⟩) | h
    · exact .inl (.inl (by rw [upd_ne (fun z => by rw [z, e] at h; exact exo_tup (Option.some.inj h))]; exact h))
    · exact .inl (.inr ⟨o, by rw [upd_ne (fun z => by rw [z, e] at h; exact exo_frz (Option.some.inj h))]; exact h⟩)
    · exact .inr h
theorem dpAll_ext {K : PySem.W.Frag} {H : Hp} {a C : Addr} {d0 d1 : Option Addr} (e : H a = some (exo a C d0)) : ∀ (ds : List PyData) (vs : List V), DpAll K H vs ds → DpAll K (upd H a (exo a C d1)) vs ds
  | [], _, .nil => .nil
  | d :: ds, _, .cons h al => .cons (dp_ext e d _ h) (dpAll_ext e ds _ al)
end
section
variable {P : Program} {w : World} {K : PySem.W.Frag} {mg : Str → Option Value} {base : Heap}
structure DEf (P : Program) (w : World) (K : PySem.W.Frag) (mg : Str → Option Value) (base : Heap) : Prop where
  ex : ∃ (D f : Addr) (fd : FuncData) (ps : List Str) (mc : Value), ClX.CRead K D mc ∧ PySem.W.findCls K (.ref D) mc "__init__" = some (.val (.ref f)) ∧ FnOk P w K mg base CX0 1 f fd ps (spDE K) ∧ PySem.W.keepIn K (.ref f) = true ∧ Binds K fd ps [] ∧ mg "DealError" = some (.ref D)
theorem sc__in_tuples : FnScope ["thing", "depth", "item"] ["thing", "depth"] (defScope (topS 2)) := ⟨rfl, rfl, rfl, by decide +kernel, rfl, by decide +kernel, by decide +kernel⟩
theorem ok_in {f : Addr} {fd : FuncData} (F : Fun K "_in_tuples" "_in_tuples" (topS 2) f fd) (mf : mg "_in_tuples" = some (.ref f)) (b : Binds K fd ["thing", "depth"] []) (m_isinstance : mg "isinstance" = none) (m_list : mg "list" = none) (m_tuple : mg "tuple" = none) : ∀ n : Nat, FnOk P w K mg base CX0 (n + 1) f fd ["thing", "depth"] (spIn K n) := by
  intro n
  induction n with
  | zero =>
    refine F.ok sc__in_tuples (fun vs H Q E h => ?_) (fun cdv A outer s H vs Q E hr h => ?_)
    · obtain ⟨x, k, d, rfl, _⟩ := h
      rfl
    · obtain ⟨x, k, d, rfl, hd, ht, hn, hk, q⟩ := h
      refine ⟨_, (pss_cons (ps_if (PW.pt (pw_or (pt_cmpR op_eq (pv 1) pe_int (nomark _)) (pw_or1 (pt_not (pt_val (pe_callB call_isiT (by rfl) m_isinstance (by decide +kernel) (pa_cons (pv 0) (pa_cons (pe_tup (pa_cons (pe_bltn (v := .ty "list") (by rfl) m_list (by decide +kernel) rfl) (pa_cons (pe_bltn (v := .ty "tuple") (by rfl) m_tuple (by decide +kernel) rfl) pa_nil))) pa_nil)))))))) (pss_one (ps_ret (pv 0))) pss_nil)
      pss_never), ?_⟩
      refine ⟨_, rfl, rfl, _, rfl, ite2 (fun e => iteT ⟨_, rfl, q _ _ (Same.refl _) hd⟩) (fun e => ?_)⟩
      refine ⟨_, rfl, (by show 2 ≤ sizeLine; decide), fun p np => ⟨_, p, _, _, _, _, rfl, upd_same, .cons (.ty "list") (.cons (.ty "tuple") .nil), dp_ty (dp_keep (same_upd np) _ _ hd), kit_dSeq d, _, rfl, ?_⟩⟩
      have flat : seqT (tyD d) = false := by
        cases d with
        | list ds => rw [tupD] at ht; cases ht
        | tuple ds => rw [dep] at hn; omega
        | _ => rfl
      rw [flat]
      exact iteT ⟨_, rfl, q _ _ (same_upd np) (dp_keep (same_upd np) _ _ hd)⟩
  | succ n ih =>
    have cI : Cal P w K mg base (n + 1) "_in_tuples" (spIn K n) := ⟨⟨f, fd, _, ih, mf, F.kp, b⟩⟩
    refine F.ok sc__in_tuples (fun vs H Q E h => ?_) (fun cdv A outer s H vs Q E hr h => ?_)
    · obtain ⟨x, k, d, rfl, _⟩ := h
      rfl
    · obtain ⟨x, k, d, rfl, hd, ht, hn, hk, q⟩ := h
      refine ⟨_, (pss_cons (ps_if (PW.pt (pw_or (pt_cmpR op_eq (pv 1) pe_int (nomark _)) (pw_or1 (pt_not (pt_val (pe_callB call_isiT (by rfl) m_isinstance (by decide +kernel) (pa_cons (pv 0) (pa_cons (pe_tup (pa_cons (pe_bltn (v := .ty "list") (by rfl) m_list (by decide +kernel) rfl) (pa_cons (pe_bltn (v := .ty "tuple") (by rfl) m_tuple (by decide +kernel) rfl) pa_nil))) pa_nil)))))))) (pss_one (ps_ret (pv 0))) pss_nil)
      (pss_one (ps_ret (pe_callTy call_tuple_of (by rfl) m_tuple (by decide +kernel) (pa_cons (pe_lc (own := [("item", 2)]) (g := gName 2) (tt := tYes) rfl sc__in_tuples.nd (pi_seq (pv 0)) (blkOk_by (N := ["thing", "depth", "item"]) (sc := defScope (topS 2)) (by decide +kernel)) (fun _ _ _ _ _ => pg_name (i := 2) sc__in_tuples.nd rfl (Or.inl rfl)) (fun _ _ _ _ _ => pts_nil) (fun _ _ _ _ _ => (pe_c cI hr (Nat.le_refl _) rfl (pa_cons (pv 2) (pa_cons (pe_op op_sub (pv 1) pe_int) pa_nil))))) pa_nil))))), ?_⟩
      refine ⟨_, rfl, rfl, _, rfl, ite2 (fun e => iteT ⟨_, rfl, q _ _ (Same.refl _) hd⟩) (fun e => ?_)⟩
      refine ⟨_, rfl, (by show 2 ≤ sizeLine; decide), fun p np => ⟨_, p, _, _, _, _, rfl, upd_same, .cons (.ty "list") (.cons (.ty "tuple") .nil), dp_ty (dp_keep (same_upd np) _ _ hd), kit_dSeq d, _, rfl, ?_⟩⟩
      generalize eJ : upd H p _ = J
      have sJ := gs eJ np
      clear eJ
      cases d with
      | list ds => rw [tupD] at ht; cases ht
      | tuple ds =>
        refine iteF ?_
        dsimp only [tNext, tRet, tCB, tCons, tNil]
        rw [tupD, Bool.and_eq_true] at ht
        obtain ⟨t1, t2⟩ := ht
        have few := of_decide_eq_true t1
        rw [dep] at hn
        cases hd with
        | @tup a xs _ hs hall =>
          have lxs := dpAll_len hall
          refine lcD (g := id) (by rfl) (.inr (seqT_keep hs sJ)) (by rw [lxs]; exact Nat.le_of_lt (small1000 few)) (dpAll_keep sJ _ _ hall) (fun d m => tupDs_mem t2 m) (by intro _; rfl) (fun x d m H2 R s2 hx kR => ?_) (fun D ys H2 s2 nD hD hys => ?_)
          · refine ⟨_, rfl, _, rfl, _, _, rfl, rfl, x, k - 1, d, rfl, hx, tupDs_mem t2 m, ?_, by omega, kR⟩
            have := depAll_mem m
            omega
          · rw [List.map_id] at hys
            refine ⟨D, ys, rfl, .inl ⟨SqL.of hD, fun l nl => ?_⟩⟩
            exact q _ _ ((sJ.trans s2).trans (same_upd nl)) (.tup (SqT.of upd_same) (dpAll_keep (same_upd nl) _ _ hys))
      | _ => exact iteT ⟨_, rfl, q _ _ sJ (dp_keep sJ _ _ hd)⟩
theorem sc__kept : FnScope ["thing"] ["thing"] (defScope (topS 3)) := ⟨rfl, rfl, rfl, by decide +kernel, rfl, by decide +kernel, by decide +kernel⟩
theorem ok_kept {f : Addr} {fd : FuncData} (F : Fun K "_kept" "_kept" (topS 3) f fd) (c : Cal P w K mg base 7 "_in_tuples" (spIn K 6)) (gD : ∃ u, mg "DEEPEST" = some u ∧ RelV (.int 6) u) : FnOk P w K mg base CX0 8 f fd ["thing"] (spKept K) := by
  refine F.ok sc__kept (fun vs H Q E h => ?_) (fun cdv A outer s H vs Q E hr h => ?_)
  · obtain ⟨x, d, rfl, _⟩ := h
    rfl
  · obtain ⟨x, d, rfl, hd, ht, hn, q⟩ := h
    refine ⟨_, (pss_one (ps_ret (pe_c c hr (by decide) rfl (pa_cons (pv 0) (pa_cons (C8.pe_gc rfl gD) pa_nil))))), ?_⟩
    exact ⟨_, rfl, x, 6, d, rfl, hd, ht, hn, by decide, q⟩
theorem scDE : FnScope ["self", "message"] ["self", "message"] (defScope (inClass (topS 4) 0)) := ⟨rfl, rfl, rfl, by decide +kernel, rfl, by decide +kernel, by decide +kernel⟩
theorem ok_DE {f : Addr} {fd : FuncData} {dvs : List V} (F : FunD K "__init__" "DealError.__init__" (defArgs (inClass (topS 4) 0)) (defBody (inClass (topS 4) 0)) (defScope (inClass (topS 4) 0)) dvs [] f fd) (mV : mg "ValueError" = none) (vV : PySem.W.findCls K (.type "ValueError") (.type "type") "__init__" = some (.val (.builtin "ValueError.__init__"))) : FnOk P w K mg base CX0 1 f fd ["self", "message"] (spDE K) := by
  refine F.ok scDE (fun vs H Q E h => ?_) (fun cdv A outer s H vs Q E hr h => ?_)
  · obtain ⟨a, C, x, rfl, _⟩ := h
    rfl
  · obtain ⟨a, C, x, rfl, T, ha, k⟩ := h
    refine ⟨_, PSs.nox (pss_one (ps_expr (pe_veinit (by rfl) mV vV (pa_cons (pv 0) (pa_cons (pv 1) pa_nil))))), ?_⟩
    exact ⟨_, rfl, _, rfl, a, C, _, rfl, (by show 1 ≤ 1000; decide), T, ha, k⟩
theorem sc_BadSorts : FnScope ["self", "what"] ["self", "what"] (defScope (inClass (topS 5) 0)) := ⟨rfl, rfl, rfl, by decide +kernel, rfl, by decide +kernel, by decide +kernel⟩
theorem ok_BadSorts {f C : Addr} {fd : FuncData} (F : Fun K "__init__" "BadSorts.__init__" (inClass (topS 5) 0) f fd) (D : DEf P w K mg base) (T : ExT K C) (nf : PySem.W.findIn K (.ref C) "what" = some none) : FnOk P w K mg base CX0 9 f fd ["self", "what"] (spErr K C "what") := by
  obtain ⟨D, fD, fdD, psD, mc, rd, fc, FD, kpD, bD, gD⟩ := D.ex
  refine F.ok sc_BadSorts (fun vs H Q E h => ?_) (fun cdv A outer s H vs Q E hr h => ?_)
  · obtain ⟨a, x, d, rfl, _⟩ := h
    rfl
  · obtain ⟨a, x, d, rfl, hd, ht, hn, ha, q⟩ := h
    refine ⟨_, pss_cons (ps_expr (pe_clsfn rd fc FD hr (by decide) kpD bD (by rfl) gD (pa_cons (pv 0) (pa_cons pe_str pa_nil)))) (pss_one (ps_ost (pv 0) (pv 1))), ?_⟩
    refine ⟨_, rfl, a, C, _, rfl, T.o, ha, ?_⟩
    refine ⟨_, rfl, _, rfl, a, C, rfl, T.o, nf, .inl ⟨ha, fun dx nd ne => ?_⟩⟩
    generalize eJ : upd H dx _ = J
    have aJ := ga eJ
    have sJ := gs eJ nd
    clear eJ
    have hyJ := dp_keep sJ _ _ hd
    refine q _ dx _ nd (fun b o e hb => by rw [upd_ne hb]; exact sJ _ _ e) upd_same (by rw [upd_ne ne]; exact aJ) (dp_ext (sJ _ _ ha) _ _ hyJ)
theorem sc_BadValue : FnScope ["self", "value"] ["self", "value"] (defScope (inClass (topS 6) 0)) := ⟨rfl, rfl, rfl, by decide +kernel, rfl, by decide +kernel, by decide +kernel⟩
theorem ok_BadValue {f C : Addr} {fd : FuncData} (F : Fun K "__init__" "BadValue.__init__" (inClass (topS 6) 0) f fd) (D : DEf P w K mg base) (cK : Cal P w K mg base 8 "_kept" (spKept K)) (T : ExT K C) (nf : PySem.W.findIn K (.ref C) "value" = some none) : FnOk P w K mg base CX0 9 f fd ["self", "value"] (spErr K C "value") := by
  obtain ⟨D, fD, fdD, psD, mc, rd, fc, FD, kpD, bD, gD⟩ := D.ex
  refine F.ok sc_BadValue (fun vs H Q E h => ?_) (fun cdv A outer s H vs Q E hr h => ?_)
  · obtain ⟨a, x, d, rfl, _⟩ := h
    rfl
  · obtain ⟨a, x, d, rfl, hd, ht, hn, ha, q⟩ := h
    refine ⟨_, pss_cons (ps_expr (pe_clsfn rd fc FD hr (by decide) kpD bD (by rfl) gD (pa_cons (pv 0) (pa_cons pe_str pa_nil)))) (pss_one (ps_ost (pv 0) (pe_c cK hr (by decide) rfl (pa_cons (pv 1) pa_nil)))), ?_⟩
    refine ⟨_, rfl, a, C, _, rfl, T.o, ha, ?_⟩
    refine ⟨_, rfl, _, _, rfl, hd, ht, hn, fun y H1 s1 hy => ⟨_, rfl, a, C, rfl, T.o, nf, .inl ⟨s1 _ _ ha, fun dx nd ne => ?_⟩⟩⟩
    generalize eJ : upd H1 dx _ = J
    have aJ := ga eJ
    have sJ := gs eJ nd
    clear eJ
    have hyJ := dp_keep sJ _ _ hy
    refine q y dx _ (s1.free nd) (fun b o e hb => by rw [upd_ne hb]; exact sJ _ _ (s1 _ _ e)) upd_same (by rw [upd_ne ne]; exact aJ) (dp_ext (sJ _ _ (s1 _ _ ha)) _ _ hyJ)
theorem sc_NoSort : FnScope ["self", "number"] ["self", "number"] (defScope (inClass (topS 7) 0)) := ⟨rfl, rfl, rfl, by decide +kernel, rfl, by decide +kernel, by decide +kernel⟩
theorem ok_NoSort {f C : Addr} {fd : FuncData} (F : Fun K "__init__" "NoSort.__init__" (inClass (topS 7) 0) f fd) (D : DEf P w K mg base) (cK : Cal P w K mg base 8 "_kept" (spKept K)) (T : ExT K C) (nf : PySem.W.findIn K (.ref C) "number" = some none) : FnOk P w K mg base CX0 9 f fd ["self", "number"] (spErr K C "number") := by
  obtain ⟨D, fD, fdD, psD, mc, rd, fc, FD, kpD, bD, gD⟩ := D.ex
  refine F.ok sc_NoSort (fun vs H Q E h => ?_) (fun cdv A outer s H vs Q E hr h => ?_)
  · obtain ⟨a, x, d, rfl, _⟩ := h
    rfl
  · obtain ⟨a, x, d, rfl, hd, ht, hn, ha, q⟩ := h
    refine ⟨_, pss_cons (ps_expr (pe_clsfn rd fc FD hr (by decide) kpD bD (by rfl) gD (pa_cons (pv 0) (pa_cons pe_str pa_nil)))) (pss_one (ps_ost (pv 0) (pe_c cK hr (by decide) rfl (pa_cons (pv 1) pa_nil)))), ?_⟩
    refine ⟨_, rfl, a, C, _, rfl, T.o, ha, ?_⟩
    refine ⟨_, rfl, _, _, rfl, hd, ht, hn, fun y H1 s1 hy => ⟨_, rfl, a, C, rfl, T.o, nf, .inl ⟨s1 _ _ ha, fun dx nd ne => ?_⟩⟩⟩
    generalize eJ : upd H1 dx _ = J
    have aJ := ga eJ
    have sJ := gs eJ nd
    clear eJ
    have hyJ := dp_keep sJ _ _ hy
    refine q y dx _ (s1.free nd) (fun b o e hb => by rw [upd_ne hb]; exact sJ _ _ (s1 _ _ e)) upd_same (by rw [upd_ne ne]; exact aJ) (dp_ext (sJ _ _ (s1 _ _ ha)) _ _ hyJ)
end
end My
set_option Elab.async false
set_option linter.all false
set_option maxRecDepth 100000
set_option maxHeartbeats 4000000
namespace EnT
open PySem
open PySem.Sem (wp)
/-! ### enumerate(t), t a tuple -/
theorem meets_tup (l : Addr) (items : Array Value) :
    Meets (Builtin.«enumerate.__new__» ⟨[.type "enumerate", .ref l], []⟩) (fun _ R s => s.heap.IsTuple l items ∧
      R (.ok (.ret (.ref (s.heap.push { cls := .type "tuple_iterator", data := .fields #[.ref l, .int 0 0] }).objs.size)))
        { s with heap := (s.heap.push { cls := .type "tuple_iterator", data := .fields #[.ref l, .int 0 0] }).push { cls := .type "enumerate", data := .fields #[.none, .bool false, .ref s.heap.objs.size, rawInt 0, .none, .none] } }) :=
  .of_wp fun prog w A R s h => by
    obtain ⟨heap0, g, d, tk, os⟩ := s; obtain ⟨tupAt, h⟩ := h
    have subE := sub_enumerate
    wp_walk using wpAny_pyIter_tuple tupAt
    refine wpAny_stack_any fun stack => wpAny_pure ?_
    split
    · rename_i c _ _ _ _ _
      cases (c == Value.type "enumerate")
      · wp_walk using wpAny_pyIter_tuple tupAt
        exact ⟨_, rfl, h⟩
      · wp_walk using wpAny_pyIter_tuple tupAt
        exact ⟨_, rfl, h⟩
    · wp_walk using wpAny_pyIter_tuple tupAt
      exact ⟨_, rfl, h⟩
section
variable {prog : Program} {w : World} {A : Around} {E : Value → Shared → Prop} {s : Shared}
theorem call_tup {l : Addr} {items : Array Value} {Q : Value → Shared → Prop} (tupAt : s.heap.IsTuple l items)
    (h : ∀ hLaid, IsEnum hLaid (s.heap.objs.size + 1) s.heap.objs.size 0 .none → hLaid.IsTupleIter s.heap.objs.size l 0 → hLaid.objs.size = s.heap.objs.size + 2 →
      (∀ b o, s.heap.get? b = some o → hLaid.get? b = some o) → Q (.ref (s.heap.objs.size + 1)) { s with heap := hLaid }) :
    wpAny (model prog w) A (call (.type "enumerate") [.ref l]) Q E s := by
  refine callType_new F.called_enumerate (by decide) (F.typeCall_enumerate_1 _) (F.newCall_enumerate_1 _) (fun ob => F.args_object_init_2 ob _) F.entry_enumerate_new
    (meets_tup l items) ⟨tupAt, ?_⟩
  have sizePush := Heap.size_push (h := s.heap) (o := { cls := .type "tuple_iterator", data := .fields #[.ref l, .int 0 0] })
  show _ ∧ _
  rw [sizePush]
  have onTop := Heap.get?_push_size (s.heap.push { cls := .type "tuple_iterator", data := .fields #[.ref l, .int 0 0] })
    (o := { cls := .type "enumerate", data := .fields #[.none, .bool false, .ref s.heap.objs.size, rawInt 0, .none, .none] }) rfl
  rw [sizePush] at onTop
  exact ⟨⟨_, onTop, rfl⟩, h _ onTop ⟨_, Heap.get?_push_of_some _ (Heap.get?_push_size _ rfl), rfl, rfl⟩ (by rw [Heap.size_push, sizePush]) fun b o x => Heap.get?_push_of_some _ (Heap.get?_push_of_some _ x)⟩
end
end EnT
set_option Elab.async false
set_option linter.all false
set_option maxRecDepth 100000
set_option maxHeartbeats 4000000
namespace My
open PySem PySem.Spec PyProof.Rows L2
theorem next_enumT_end {prog : Program} {w : World} {A : Around} {E : Value → Shared → Prop} {s : Shared} {e it l : Addr} {i : Nat} {items : Array Value} {prev : Value} {Q : Option Value → Shared → Prop} (calmH : A.handled = none)
    (enAt : IsEnum s.heap e it i prev) (iter : s.heap.IsTupleIter it l i) (tupL : s.heap.IsTuple l items) (itemX : items[i]? = none)
    (goOn : ∀ h', Heap.ExtBut it s.heap h' → Q none { s with heap := h' }) : wpAny (model prog w) A (pyNext (.ref e)) Q E s := by
  have pairOld : s.TypeIs (.ref e) "enumerate" := ⟨_, enAt, rfl⟩
  unfold pyNext
  refine wpAny_bind (wpAny_attempt (wpAny_callSpecial?_slot (name := Str.ofString "__next__") pairOld F.slot_enumerate_next
    (wpAny_call_entry F.slot_enumerate_next pairOld F.entry_enumerate_next ?_ (F.args_enumerate_next_1 _))))
  show wpAny _ _ (field (.ref e) 2 >>= _) _ _ _
  refine wpAny_bind (wpAny_field enAt rfl (x := .ref it) rfl ?_)
  refine wpAny_bind (RZ.nextOf_tuple_end (A := A.in1) calmH iter tupL itemX fun h' x enNew hx' => ?_)
  obtain ⟨o, owned, calmX⟩ := hx'
  refine wpAny_bind (wpAny_isInstance (T := "StopIteration") (b := true) ⟨o, owned, calmX⟩ isSubtype_stop ?_)
  exact wpAny_pure (goOn _ enNew)
/-- the tuple at a, each item in a okNew pair with vals number -/
def IteT (K : PySem.W.Frag) (a : Addr) : It :=
  ⟨fun i H => ∃ (xs : List V) (x : V), SqT K H a xs ∧ xs[i]? = some x, fun i H v H' => ∃ T x, v = .ref T ∧ H T = none ∧ H' = upd H T (.tup [.int (i : Nat), x]) ∧ ∀ xs, SqT K H a xs → xs[i]? = some x, fun i H => ∃ xs : List V, SqT K H a xs ∧ xs.length ≤ i⟩
theorem turn_enumT {P : Program} {w : World} {K : PySem.W.Frag} {elts : List Expr} {kk : Nat} {tpos : Pos} (a e it : Addr) (apE : e ≠ it) (apA : a ≠ it) (apEA : e ≠ a) :
    Turn P w K (.Tuple elts kk tpos) (IteT K a) [e, it] e (fun i h => (∃ prev, IsEnum h e it ((i : Nat) : Int) prev) ∧ h.IsTupleIter it a i) where
  mem := by simp
  obj := fun i h stand b memB => by
    obtain ⟨⟨prev, enAt⟩, ⟨o, owned, calmX, hd⟩⟩ := stand
    have orB : b = e ∨ b = it := by simpa using memB
    rcases orB with eqZ | eqZ
    · rw [eqZ]; exact ⟨_, enAt, fun v q => nomatch q⟩
    · rw [eqZ]; exact ⟨o, owned, fun v q => by rw [hd] at q; cases q⟩
  keep := fun i h h' stand keepK => let ⟨⟨prev, enAt⟩, hi⟩ := stand; ⟨⟨prev, keepK e (by simp) _ enAt⟩, hi.at fun o q => keepK it (by simp) o q⟩
  item := by
    intro X eqP eqW eqK calmX i pins s σ H E I freeF stand glb
    subst eqP eqW eqK
    obtain ⟨⟨prev, enAt⟩, iter⟩ := stand
    obtain ⟨xs, x, tupQ, itemX⟩ := glb
    obtain ⟨vals, rels, p, hz⟩ := I.tuple tupQ
    have asTup : s.heap.IsTuple a vals.toArray := p
    obtain ⟨u, atU, relU⟩ := rels.get itemX
    have sizeE : e < s.heap.objs.size := Heap.lt_size enAt
    have sizeI : it < s.heap.objs.size := by obtain ⟨_, q, _⟩ := iter; exact Heap.lt_size q
    have below : i < vals.toArray.size := by
      rcases Nat.lt_or_ge i vals.length with eqZ | eqZ
      · simpa using eqZ
      · rw [List.getElem?_eq_none eqZ] at atU; cases atU
    have calmH : X.A.in1.handled = none := I.ok.hd calmX
    refine wpAny_pyNext_enum_itemD (Draws.tuple calmH it a apA vals.toArray) enAt ⟨iter, asTup⟩ below apE (by simp [apE, apEA]) fun y h' tok isY owned afterI pairOld grown keptO => ?_
    obtain ⟨iterNew, _⟩ := afterI
    have sameY : y = u := by
      have eqZ : vals[i]? = some y := by simpa using isY
      rw [atU] at eqZ
      exact (Option.some.inj eqZ).symm
    subst sameY
    refine ⟨_, rfl, wpAny_letOwnedTupleGo_enum (s := { s with heap := h', toks := tok + 1 }) owned fun hNew enNew butE => ?_⟩
    have pairAt : hNew.get? s.heap.objs.size = some { cls := .type "tuple", data := .seq #[.int i tok, y] } := (butE.2 _ (Nat.ne_of_gt sizeE)).trans pairOld
    have okNew : ObjOk X.prog X.w (upd H s.heap.objs.size (.tup [.int (i : Nat), x])) hNew s.heap.objs.size (.tup [.int (i : Nat), x]) :=
      ⟨by show 2 ≤ sizeLine; decide, [.int i tok, y], .cons ⟨_, rfl⟩ (.cons relU .nil), ⟨_, pairAt, rfl, _, rfl⟩⟩
    have I1 : Inv X pins σ (upd H s.heap.objs.size (.tup [.int (i : Nat), x])) { s with heap := hNew, toks := tok + 1 } :=
      I.turnedNew (ch := [e, it]) (fun b ob memB q => (butE.2 b (fun eqZ => memB (by simp [eqZ]))).trans (keptO b ob (fun eqZ => memB (by simp [eqZ])) (fun eqZ => memB (by simp [eqZ])) q)) freeF (Nat.le_refl _) okNew
    refine ⟨.ref s.heap.objs.size, _, I1, rfl, ⟨_, x, rfl, I.hok.fresh (Nat.le_refl _), rfl, fun ys isY => ?_⟩, ⟨⟨y, ?_⟩, iterNew.at fun o q => (butE.2 it (Ne.symm apE)).trans q⟩, fun b memB => ?_⟩
    · rw [I.tuple_inj isY tupQ]; exact itemX
    · have e1 : ((i + 1 : Nat) : Int) = (i : Int) + 1 := by omega
      rw [e1]; exact enNew
    · have lowB : b < s.heap.objs.size := by
        have orB : b = e ∨ b = it := by simpa using memB
        rcases orB with eqZ | eqZ
        · rw [eqZ]; exact sizeE
        · rw [eqZ]; exact sizeI
      rw [upd_ne (Nat.ne_of_lt lowB)]
      exact (freeF b memB).1
  done := by
    intro X eqP eqW eqK calmX i pins s σ H E I freeF stand glb
    subst eqP eqW eqK
    obtain ⟨⟨prev, enAt⟩, iter⟩ := stand
    obtain ⟨xs, tupQ, itemX⟩ := glb
    obtain ⟨vals, rels, p, hz⟩ := I.tuple tupQ
    obtain ⟨g0, g1, g2, g3, g4, g5⟩ := freeF it (by simp)
    have tupL := rels.length
    exact next_enumT_end (I.ok.hd calmX) enAt iter (show s.heap.IsTuple a vals.toArray from p) (by simp; omega) fun h' extB => ⟨rfl, I.turned (t' := s.toks) (fun b o memB q => extB b o memB q) g0 g1 g3 g4 g5⟩
  self := fun A i s Q E stand h => let ⟨⟨_, enAt⟩, _⟩ := stand; wpAny_pyIter_enum enAt h
def iEnumT (K : PySem.W.Frag) (ta : TA) : TI := fun σ H R => ta σ H fun vs H1 => ∃ a xs, vs = [.ref a] ∧ SqT K H1 a xs ∧ R (IteT K a) H1
theorem pi_enumT {X : Cx} {e : Expr} {ta : TA} {p pos tpos : Pos} {elts : List Expr} {kk : Nat} (glb : Gl X "enumerate") (noMg : X.mg "enumerate" = none) (args : PA X [e] ta) (stars : starEach [e] X.env = [(false, eval e X.env)] := by rfl) :
    PI X (.Tuple elts kk tpos) (.Call (.Name "enumerate" p) [e] [] pos) (iEnumT X.K ta) := by
  refine ⟨fun pins s σ H R I h => ?_⟩
  refine Call_ (ld_blt I glb noMg boot_enumerate (PyProof.Rows.callWith_type1 (thn (args.run pos pins s σ H _ I h) fun us s1 ⟨vs, H1, I1, relQ, gotQ⟩ => ?_) stars rfl))
  obtain ⟨a, xs, ex, tupQ, q⟩ := gotQ
  subst ex
  cases relQ with
  | cons r restR =>
    cases restR
    cases r
    obtain ⟨vals, rels, posT, hz⟩ := I1.tuple tupQ
    have asTup : s1.heap.IsTuple a vals.toArray := posT
    have sizeA : a < s1.heap.objs.size := by obtain ⟨o, owned, _⟩ := asTup; exact Heap.lt_size owned
    refine EnT.call_tup asTup fun h' enAt iter grown keptO => wpAny_pyIter_enum enAt ?_
    have I2 : Inv X pins σ H1 { s1 with heap := h' } := I1.kept (t' := s1.toks) keptO
    refine ⟨s1.heap.objs.size + 1, [s1.heap.objs.size + 1, s1.heap.objs.size], _, _, H1, rfl, I2, turn_enumT a (s1.heap.objs.size + 1) s1.heap.objs.size (Nat.succ_ne_self _) (Nat.ne_of_lt sizeA) (Ne.symm (Nat.ne_of_lt (Nat.lt_succ_of_lt sizeA))), ⟨⟨.none, enAt⟩, iter⟩, fun b memB => ?_, q⟩
    have orB : b = s1.heap.objs.size + 1 ∨ b = s1.heap.objs.size := by simpa using memB
    have leB : s1.heap.objs.size ≤ b := by
      rcases orB with eqZ | eqZ
      · rw [eqZ]; exact Nat.le_add_right _ _
      · rw [eqZ]; exact Nat.le_refl _
    exact I1.fpOk leB (I1.hok.fresh leB)
theorem walk_enumT {K : PySem.W.Frag} {a : Addr} {xs : List V} : Walk (IteT K a) xs.length (fun H => SqT K H a xs) (YPair (fun i => some (.int (i : Nat))) (fun i => xs[i]?)) := by
  refine ⟨fun j _ lt sq => ⟨xs, xs[j], sq, by simp [lt]⟩, fun _ sq => ⟨xs, sq, Nat.le_refl _⟩, fun j H v H' _ sq got => ?_⟩
  obtain ⟨pr, it, ev, fr, eh, same⟩ := got
  exact ⟨pr, .int (j : Nat), it, ev, fr, eh, rfl, same xs sq⟩
end My
set_option Elab.async false
set_option linter.all false
set_option maxRecDepth 100000
set_option maxHeartbeats 4000000
namespace My
open PySem PySem.Spec PyProof.Rows L2
/-! ### the mathematics of sorts -/
/-- the sort of v -/
def placeN (m : Int) : List Int → Nat → Int → Int
  | [], k, v => (k : Int) + v % m
  | n :: ns, k, v => if n = v then (k : Int) else placeN m ns (k + 1) v
def place (ns : List Int) (m v : Int) : Int := placeN m ns 0 v
theorem placeN_not (m : Int) : ∀ (ns : List Int) (k : Nat) (v : Int), v ∉ ns → placeN m ns k v = ((k + ns.length : Nat) : Int) + v % m
  | [], k, v, _ => by rw [placeN]; simp
  | n :: ns, k, v, h => by
    rw [placeN, if_neg (fun z => h (by rw [z]; exact List.mem_cons_self ..)), placeN_not m ns (k + 1) v (fun z => h (List.mem_cons_of_mem _ z))]
    simp only [List.length_cons]
    congr 1
    omega
theorem placeN_at (m : Int) : ∀ (ns : List Int) (k j : Nat) (v : Int), ns[j]? = some v → (∀ i : Nat, i < j → ns[i]? ≠ some v) → placeN m ns k v = ((k + j : Nat) : Int)
  | [], k, j, v, h, _ => by simp at h
  | n :: ns, k, 0, v, h, _ => by
    rw [placeN, if_pos (Option.some.inj h)]
    simp
  | n :: ns, k, j + 1, v, h, hn => by
    have h0 : n ≠ v := fun z => hn 0 (by omega) (by rw [z]; rfl)
    rw [placeN, if_neg h0, placeN_at m ns (k + 1) j v h fun i hi => hn (i + 1) (by omega)]
    congr 1
    omega
/-- from v on by steps of m, left free ones passed over: the next free one -/
def nth (bad : Int → Bool) (m : Int) : Nat → Int → Nat → Option Int
  | 0, _, _ => none
  | f + 1, v, l => if bad v = true then nth bad m f (v + m) l else match l with
    | 0 => some v
    | l + 1 => nth bad m f (v + m) l
theorem nth_eq {bad : Int → Bool} {m : Int} {f : Nat} {v : Int} {l : Nat} : nth bad m (f + 1) v l = if bad v = true then nth bad m f (v + m) l else match l with
    | 0 => some v
    | l + 1 => nth bad m f (v + m) l := by
  cases l <;> first | rfl | simp only [nth]
theorem nth_some {bad : Int → Bool} {m : Int} {L : List Int} (hm : 0 < m) (hb : ∀ v, bad v = true → v ∈ L) : ∀ (f : Nat) (v : Int) (l : Nat), (L.filter fun x => decide (v ≤ x)).length + l < f → ∃ z, nth bad m f v l = some z
  | 0, _, _, h => by omega
  | f + 1, v, l, h => by
    have sub : ∀ x, decide (v + m ≤ x) = true → decide (v ≤ x) = true := fun x e => decide_eq_true (by have := of_decide_eq_true e; omega)
    have e2 : L.filter (fun x => decide (v + m ≤ x)) = (L.filter fun x => decide (v ≤ x)).filter fun x => decide (v + m ≤ x) := by
      rw [List.filter_filter]
      congr 1
      funext x
      by_cases q : v + m ≤ x
      · rw [decide_eq_true q, sub x (decide_eq_true q)]; rfl
      · rw [decide_eq_false q]; rfl
    have le : (L.filter fun x => decide (v + m ≤ x)).length ≤ (L.filter fun x => decide (v ≤ x)).length := by
      rw [e2]
      exact List.length_filter_le _ _
    rw [nth_eq]
    by_cases e : bad v = true
    · rw [if_pos e]
      refine nth_some hm hb f (v + m) l ?_
      have lt : (L.filter fun x => decide (v + m ≤ x)).length < (L.filter fun x => decide (v ≤ x)).length := by
        have mv : v ∈ L.filter fun x => decide (v ≤ x) := List.mem_filter.mpr ⟨hb v e, decide_eq_true (Int.le_refl v)⟩
        rw [e2]
        refine Nat.lt_of_le_of_ne (List.length_filter_le _ _) fun z => ?_
        have all := List.length_filter_eq_length_iff.mp z v mv
        have := of_decide_eq_true all
        omega
      omega
    · rw [if_neg e]
      match l with
      | 0 => exact ⟨v, rfl⟩
      | l + 1 => exact nth_some hm hb f (v + m) l (by omega)
theorem nth_mod {bad : Int → Bool} {m : Int} : ∀ (f : Nat) (v : Int) (l : Nat) (z : Int), nth bad m f v l = some z → bad z = false ∧ ∃ j : Nat, j < f ∧ z = v + (j : Int) * m
  | 0, v, l, z, h => by rw [nth] at h; cases h
  | f + 1, v, l, z, h => by
    have step : nth bad m f (v + m) l = some z ∨ (∃ l', nth bad m f (v + m) l' = some z) → bad z = false ∧ ∃ j : Nat, j < f + 1 ∧ z = v + (j : Int) * m := by
      intro g
      obtain ⟨l', g⟩ : ∃ l', nth bad m f (v + m) l' = some z := g.elim (fun g => ⟨l, g⟩) id
      obtain ⟨b, j, hj, e⟩ := nth_mod f (v + m) l' z g
      refine ⟨b, j + 1, by omega, ?_⟩
      rw [e, show ((j + 1 : Nat) : Int) = (j : Int) + 1 by omega, Int.add_mul, Int.one_mul]
      omega
    rw [nth_eq] at h
    by_cases e : bad v = true
    · rw [if_pos e] at h
      exact step (.inl h)
    · rw [if_neg e] at h
      match l, h with
      | 0, h =>
        have ez : v = z := Option.some.inj h
        subst ez
        refine ⟨by cases q : bad v with | true => exact absurd q e | false => rfl, 0, by omega, by simp⟩
      | l + 1, h => exact step (.inr ⟨l, h⟩)
theorem nth_le {bad : Int → Bool} {m : Int} : ∀ (f g : Nat) (v : Int) (l : Nat) (z : Int), f ≤ g → nth bad m f v l = some z → nth bad m g v l = some z
  | 0, g, v, l, z, _, h => by rw [nth] at h; cases h
  | f + 1, 0, v, l, z, hl, h => by omega
  | f + 1, g + 1, v, l, z, hl, h => by
    rw [nth_eq] at h ⊢
    by_cases e : bad v = true
    · rw [if_pos e] at h ⊢
      exact nth_le f g _ _ z (by omega) h
    · rw [if_neg e] at h ⊢
      match l, h with
      | 0, h => exact h
      | l + 1, h => exact nth_le f g _ _ z (by omega) h
theorem eqv_ints : ∀ (ns ms : List Int), PyData.eqvAll (ns.map PyData.int) (ms.map PyData.int) = decide (ns = ms)
  | [], [] => by simp [PyData.eqvAll]
  | [], m :: ms => by simp [PyData.eqvAll]
  | n :: ns, [] => by simp [PyData.eqvAll]
  | n :: ns, m :: ms => by
    rw [List.map_cons, List.map_cons, PyData.eqvAll, eqv_ints ns ms, PyData.eqv]
    by_cases h : n = m
    · subst h
      simp
    · have : (n == m) = false := by simpa using h
      rw [this]
      simp [h]
theorem inV_ints (v : Int) : ∀ ns : List Int, inV (.int v) (ns.map V.int) = decide (v ∈ ns)
  | [] => rfl
  | n :: ns => by
    have ih := inV_ints v ns
    unfold inV at ih ⊢
    rw [List.map_cons, List.any_cons, ih]
    have e : eqV (.int n) (.int v) = decide (n = v) := by
      first | rfl | simp [eqV]
    rw [e]
    by_cases h : n = v
    · subst h
      simp
    · have h' : ¬ v = n := fun z => h z.symm
      simp [h, h']
end My
set_option Elab.async false
set_option linter.all false
set_option maxRecDepth 100000
set_option maxHeartbeats 4000000
namespace My
open PySem PySem.Spec PyProof.Rows L2
/-- what stands of the class Sorts -/
structure SoC (K : PySem.W.Frag) (C : Addr) : Prop where
  i : C8.InsC K C
  n1 : NoAttr K C "named"
  n2 : NoAttr K C "modulus"
/-- at s: Sorts(ns, m) -/
def SoAt (K : PySem.W.Frag) (C : Addr) (H : Hp) (s : Addr) (ns : List Int) (m : Int) : Prop := ∃ dx t, H s = some (.ins C dx [("named", .ref t), ("modulus", .int m)]) ∧ SqT K H t (ns.map V.int)
theorem SoAt.keep {K : PySem.W.Frag} {C : Addr} {H H' : Hp} {s : Addr} {ns : List Int} {m : Int} (h : SoAt K C H s ns m) (k : Same H H') : SoAt K C H' s ns m := by
  obtain ⟨dx, t, e, q⟩ := h
  exact ⟨dx, t, k _ _ e, seqT_keep q k⟩
def spMany (K : PySem.W.Frag) (C : Addr) : Sp := fun vs H Q _ => ∃ (s : Addr) (ns : List Int) (m : Int), vs = [.ref s] ∧ SoAt K C H s ns m ∧ Q (.int ((ns.length : Int) + m)) H
/-- self == other: another Sorts, or a thing of a built-in type -/
def spEqS (K : PySem.W.Frag) (C : Addr) : Sp := fun vs H Q _ => ∃ (s : Addr) (ns : List Int) (m : Int) (y : V), vs = [.ref s, y] ∧ SoAt K C H s ns m ∧
  ((∃ (o : Addr) (ns' : List Int) (m' : Int), y = .ref o ∧ SoAt K C H o ns' m' ∧ Q (.bl (decide (ns = ns') && decide (m = m'))) H) ∨
   (∃ t : Value, TyX K H y t ∧ PySem.W.kitOne K t (.ref C) = some false ∧ Q (.bl false) H))
def spPlace (K : PySem.W.Frag) (C : Addr) : Sp := fun vs H Q _ => ∃ (s : Addr) (ns : List Int) (m v : Int), vs = [.ref s, .int v] ∧ SoAt K C H s ns m ∧ 0 < m ∧ ∀ H', Same H H' → Q (.int (place ns m v)) H'
section
variable {P : Program} {w : World} {K : PySem.W.Frag} {mg : Str → Option Value} {base : Heap} {C : Addr}
theorem shaped_ints (ns : List Int) : SeqAt.shaped (.tuple (ns.map .int)) = true := by
  have h1 : ∀ ns : List Int, PyData.canLayAll0 (ns.map .int) = true := fun ns => by
    induction ns with
    | nil => rfl
    | cons n ns ih => rw [List.map_cons, PyData.canLayAll0, ih]; rfl
  have h2 : ∀ ns : List Int, PyData.depthAll (ns.map .int) = 0 := fun ns => by
    induction ns with
    | nil => rfl
    | cons n ns ih => rw [List.map_cons, PyData.depthAll, ih]; rfl
  unfold SeqAt.shaped
  rw [PyData.canLay0, h1, PyData.depth, h2]
  rfl
theorem rd_fld1 {te : TE} {σ : L2.St} {H : Hp} {Q : VK} {s dx : Addr} {t : V} {m : Int} (S : SoC K C) (h : ∀ Q : VK, Q (.ref s) H → te σ H Q) (e : H s = some (.ins C dx [("named", t), ("modulus", .int m)])) (q : Q t H) : tFld K te "named" σ H Q := h _ ⟨s, C, dx, _, _, rfl, e, S.i.cl, S.n1, rfl, q⟩
theorem rd_fld2 {te : TE} {σ : L2.St} {H : Hp} {Q : VK} {s dx : Addr} {t : V} {m : Int} (S : SoC K C) (h : ∀ Q : VK, Q (.ref s) H → te σ H Q) (e : H s = some (.ins C dx [("named", t), ("modulus", .int m)])) (q : Q (.int m) H) : tFld K te "modulus" σ H Q := h _ ⟨s, C, dx, _, _, rfl, e, S.i.cl, S.n2, rfl, q⟩
theorem sc_many : FnScope ["self"] ["self"] (defScope (inClass (topS 19) 1)) := ⟨rfl, rfl, rfl, by decide +kernel, rfl, by decide +kernel, by decide +kernel⟩
theorem ok_many {f : Addr} {fd : FuncData} (F : L2.Fun K "many" "Sorts.many" (inClass (topS 19) 1) f fd) (S : SoC K C) (m_len : mg "len" = none) : FnOk P w K mg base CX0 1 f fd ["self"] (spMany K C) := by
  refine F.ok sc_many (fun vs H Q E h => ?_) (fun cdv A outer s0 H vs Q E hr h => ?_)
  · obtain ⟨s, ns, m, rfl, _⟩ := h
    rfl
  · obtain ⟨s, ns, m, rfl, ⟨dx, t, e, hq⟩, q⟩ := h
    refine ⟨_, (pss_one (ps_ret (pe_op op_add (pe_callB call_len_seq (by rfl) m_len PySem.boot_len (pa_cons (pe_fld (pv 0) rfl) pa_nil)) (pe_fld (pv 0) rfl)))), ?_⟩
    have len : (ns.map V.int).length = ns.length := List.length_map ..
    refine rd_fld1 S (fun Q h => ⟨_, rfl, h⟩) e ⟨t, _, rfl, .inr hq, rd_fld2 S (fun Q h => ⟨_, rfl, h⟩) e ⟨_, _, rfl, rfl, ?_⟩⟩
    rw [len]
    exact q
theorem sc_eqS : FnScope ["self", "other"] ["self", "other"] (defScope (inClass (topS 19) 2)) := ⟨rfl, rfl, rfl, by decide +kernel, rfl, by decide +kernel, by decide +kernel⟩
theorem ok_eqS {f : Addr} {fd : FuncData} (F : L2.Fun K "__eq__" "Sorts.__eq__" (inClass (topS 19) 2) f fd) (S : SoC K C) (m_isinstance : mg "isinstance" = none) (gC : mg "Sorts" = some (.ref C)) : FnOk P w K mg base CX0 1 f fd ["self", "other"] (spEqS K C) := by
  refine F.ok sc_eqS (fun vs H Q E h => ?_) (fun cdv A outer s0 H vs Q E hr h => ?_)
  · obtain ⟨s, ns, m, y, rfl, _⟩ := h
    rfl
  · obtain ⟨s, ns, m, y, rfl, ⟨dx, t, e, hq⟩, h⟩ := h
    refine ⟨_, (pss_one (ps_ret (pe_and (pe_callB call_isi (by rfl) m_isinstance (by decide +kernel) (pa_cons (pv 1) (pa_cons (pe_glob (v := .ref C) (by rfl) gC rfl) pa_nil))) (pe_and (pe_cmpR (op_eqD hr.units) (pe_fld (pv 0) rfl) (pe_fld (pv 1) rfl) (nomark _)) (pe_one (pe_cmpR op_eq (pe_fld (pv 0) rfl) (pe_fld (pv 1) rfl) (nomark _))))))), ?_⟩
    rcases h with ⟨o, ns', m', rfl, ⟨dx', t', e', hq'⟩, q⟩ | ⟨ty, h1, h2, q⟩
    · refine ⟨_, rfl, _, _, _, _, true, rfl, .own C, .base (.ins e' S.i.cl S.i.ha S.i.hn S.i.htk S.i.hm), S.i.me, _, rfl, iteT ?_⟩
      refine rd_fld1 S (fun Q h => ⟨_, rfl, h⟩) e (rd_fld1 S (fun Q h => ⟨_, rfl, h⟩) e' ⟨.tuple (ns.map .int), .tuple (ns'.map .int), .tup hq dpAll_ints, .tup hq' dpAll_ints, shaped_ints ns, shaped_ints ns', ?_⟩)
      refine ⟨_, rfl, ?_⟩
      rw [PyData.eqv, eqv_ints]
      by_cases h : ns = ns'
      · rw [decide_eq_true h] at q ⊢
        refine iteT (rd_fld2 S (fun Q h => ⟨_, rfl, h⟩) e (rd_fld2 S (fun Q h => ⟨_, rfl, h⟩) e' ⟨rfl, ?_⟩))
        have eq : decide (V.int m = V.int m') = decide (m = m') := by
          by_cases hm : m = m'
          · rw [decide_eq_true hm, decide_eq_true (by rw [hm])]
          · rw [decide_eq_false hm, decide_eq_false (fun z => hm (V.int.inj z))]
        rw [eq]
        exact q
      · rw [decide_eq_false h] at q ⊢
        exact iteF q
    · exact ⟨_, rfl, _, _, _, _, false, rfl, .own C, h1, h2, _, rfl, iteF q⟩
theorem sc_place : FnScope ["self", "value", "sort", "named"] ["self", "value"] (defScope (inClass (topS 19) 3)) := ⟨rfl, rfl, rfl, by decide +kernel, rfl, by decide +kernel, by decide +kernel⟩
theorem ok_place {f : Addr} {fd : FuncData} (F : L2.Fun K "_place_of" "Sorts._place_of" (inClass (topS 19) 3) f fd) (S : SoC K C) (m_enumerate : mg "enumerate" = none) (m_len : mg "len" = none) : FnOk P w K mg base CX0 1 f fd ["self", "value"] (spPlace K C) := by
  refine F.ok sc_place (fun vs H Q E h => ?_) (fun cdv A outer s0 H vs Q E hr h => ?_)
  · obtain ⟨s, ns, m, v, rfl, _⟩ := h
    rfl
  · obtain ⟨s, ns, m, v, rfl, ⟨dx, t, e, hq⟩, m0, q⟩ := h
    refine ⟨_, (pss_cons (ps_for PassesOwn.never rfl (pi_enumT (by rfl) m_enumerate (pa_cons (pe_fld (pv 0) rfl) pa_nil)) (pg_tup (by rfl) (pgs_cons (pg_name (i := 2) sc_place.nd rfl (.inl rfl)) (pgs_cons (pg_name (i := 3) sc_place.nd rfl (.inl rfl)) pgs_nil))) (pss_one (ps_if (pt_cmpR op_eq (pv 3) (pv 1) (nomark _)) (pss_one (ps_ret (pv 2))) pss_nil)))
      (pss_one (ps_ret (pe_op op_add (pe_callB call_len_seq (by rfl) m_len PySem.boot_len (pa_cons (pe_fld (pv 0) rfl) pa_nil)) (pe_op op_modN (pv 1) (pe_fld (pv 0) rfl)))))), ?_⟩
    have len : (ns.map V.int).length = ns.length := List.length_map ..
    refine rd_fld1 S (fun Q h => ⟨_, rfl, h⟩) e ⟨t, _, rfl, hq, ?_⟩
    have W := walk_enumT (K := K) (a := t) (xs := ns.map V.int)
    refine for_it W (fun i σ H' => Same H H' ∧ (∃ v2 v3, σ = [some (.ref s), some (.int v), v2, v3]) ∧ placeN m (ns.drop i) i v = place ns m v) ⟨Same.refl _, ⟨_, _, rfl⟩, rfl⟩ (fun i σ H' _ p => seqT_keep hq p.1) ?_ ?_
    · rintro i x σ H1 H2 hi ⟨s1, ⟨v2, v3, rfl⟩, hp⟩ ⟨T, a, b, rfl, nT, rfl, ea, eb⟩
      have ea := Option.some.inj ea
      subst ea
      have hi' : i < ns.length := by rw [len] at hi; exact hi
      have eb' : b = V.int ns[i] := by
        have eb : (ns.map V.int)[i]? = some b := eb
        rw [List.getElem?_map, List.getElem?_eq_getElem hi'] at eb
        exact (Option.some.inj eb).symm
      subst eb'
      have sT := same_upd (o := HO.tup [V.int (i : Nat), V.int ns[i]]) nT
      rw [List.drop_eq_getElem_cons hi', placeN] at hp
      refine ⟨T, [.int (i : Nat), .int ns[i]], rfl, SqT.of upd_same, rfl, _, _, rfl, _, _, rfl, rfl, ?_⟩
      refine ⟨_, rfl, _, rfl, rfl, _, rfl, ite2 (fun z => ?_) (fun z => ?_)⟩
      · have z' : ns[i] = v := V.int.inj (of_decide_eq_true z)
        rw [if_pos z'] at hp
        have z2 := q _ (s1.trans sT)
        rw [← hp] at z2
        exact ⟨_, rfl, z2⟩
      · have z' : ¬ ns[i] = v := fun y => z (decide_eq_true (by rw [y]))
        rw [if_neg z'] at hp
        exact ⟨s1.trans sT, ⟨_, _, rfl⟩, hp⟩
    · rintro σ H1 ⟨s1, ⟨v2, v3, rfl⟩, hp⟩
      rw [len, List.drop_length, placeN] at hp
      refine ⟨_, rfl, s, C, dx, _, _, rfl, s1 _ _ e, S.i.cl, S.n1, rfl, t, _, rfl, .inr (seqT_keep hq s1), _, rfl, _, rfl, s, C, dx, _, _, rfl, s1 _ _ e, S.i.cl, S.n2, rfl, _, _, rfl, rfl, by omega, _, _, rfl, rfl, ?_⟩
      rw [len, Int.fmod_eq_emod_of_nonneg _ (Int.le_of_lt m0)]
      show Q (V.int ((ns.length : Int) + v % m)) H1
      rw [hp]
      exact q _ s1
end
end My
set_option Elab.async false
set_option linter.all false
set_option maxRecDepth 100000
set_option maxHeartbeats 4000000
namespace My
open PySem PySem.Spec PyProof.Rows L2
section
variable {K : PySem.W.Frag} {H H' : Hp}
mutual
theorem dp_mono (ht : ∀ b xs, H b = some (.tup xs) → H' b = some (.tup xs)) (hf : ∀ b o u, H b = some (.frz o u) → H' b = some (.frz o u)) : ∀ (d : PyData) (v : V), tupD d = true → Dp K H v d → Dp K H' v d
  | .none, _, _, .non => .non
  | .bool b, _, _, .bl _ => .bl b
  | .int i, _, _, .int _ => .int i
  | .str x, _, _, .str _ => .str x
  | .list ds, _, t, _ => by rw [tupD] at t; cases t
  | .tuple ds, _, t, @Dp.tup _ _ b zs _ h al => by
    rw [tupD, Bool.and_eq_true] at t
    refine .tup ?_ (dpAll_mono ht hf ds _ t.2 al)
    rcases h with (h | ⟨o, h⟩) | h
    · exact .inl (.inl (ht _ _ h))
    · exact .inl (.inr ⟨o, hf _ _ _ h⟩)
    · exact .inr h
theorem dpAll_mono (ht : ∀ b xs, H b = some (.tup xs) → H' b = some (.tup xs)) (hf : ∀ b o u, H b = some (.frz o u) → H' b = some (.frz o u)) : ∀ (ds : List PyData) (vs : List V), tupDs ds = true → DpAll K H vs ds → DpAll K H' vs ds
  | [], _, _, .nil => .nil
  | d :: ds, _, t, .cons h al => by
    rw [tupDs, Bool.and_eq_true] at t
    exact .cons (dp_mono ht hf d _ t.1 h) (dpAll_mono ht hf ds _ t.2 al)
end
end
/-- an error of the program's own with one field f, its name x -/
structure Err (P : Program) (w : World) (K : PySem.W.Frag) (mg : Str → Option Value) (base : Heap) (x : Str) (C : Addr) (f : Str) : Prop where
  t : ExT K C
  xf : XfC K C
  nf : PySem.W.findIn K (.ref C) f = some none
  gx : mg x = some (.ref C)
  ex : ∃ (fI : Addr) (fd : FuncData) (ps : List Str), FnOk P w K mg base CX0 9 fI fd ps (spErr K C f) ∧ PySem.W.findIn K (.ref C) "__init__" = some (some (.ref fI)) ∧ PySem.W.typeIn K (.ref fI) = some (.type "function") ∧ Binds K fd ps []
def rErr (K : PySem.W.Frag) (C : Addr) (f : Str) (vs : List V) (H1 : Hp) (Q : XK) : Prop := ∃ v d, vs = [v] ∧ Dp K H1 v d ∧ tupD d = true ∧ dep d ≤ 6 ∧
  ∀ (y : V) (dd : Addr) (H' : Hp), Same H1 H' → H1 dd = none → H' dd = some (.xd [(f, y)]) → Dp K H' y d → Q (.ref C) (some dd) H'
theorem pmk_err {X : Cx} {x f : Str} {C : Addr} {e : Expr} {te : TE} {j : Nat} {p pos : Pos} (R : Err X.prog X.w X.K X.mg X.base x C f) (hr : Room j X.A) (hj : 10 ≤ j) (hg : Gl X x) (he : PE X e te)
    (h0 : (x == ("__debug__" : Str)) = false := by decide) (h1 : starEach [e] X.env = (false, eval e X.env) :: starEach [] X.env := by rfl) (h2 : (backTo pos (starEach [] X.env)).any (·.1) = false := by rfl) :
    L2N.PMk X (.Call (.Name x p) [e] [] pos) (fun σ H Q => tCons te tNil σ H fun vs H1 => rErr X.K C f vs H1 Q) := by
  obtain ⟨fI, fd, ps, F, iC, tI, b⟩ := R.ex
  refine pmk_oexN (fun vs H1 Q h => ?_) R.t.o iC tI F (hr.mono hj) b pass0 hg R.gx (pa_cons he pa_nil h1) h0 h1 h2
  obtain ⟨v, d, rfl, hd, ht, hn, q⟩ := h
  refine ⟨(by show 1 ≤ 1000; decide), fun a na => ⟨a, v, d, rfl, dp_keep (same_upd na) _ _ hd, ht, hn, upd_same, fun y dx H' nd kp ea ed hy => ?_⟩⟩
  have ne : dx ≠ a := fun z => by
    rw [z, upd_same] at nd
    cases nd
  have nd1 : H1 dx = none := by
    rw [upd_ne ne] at nd
    exact nd
  refine ⟨rfl, dx, _, ea, ed, nd1, q y dx _ (fun b o e => ?_) nd1 upd_same (dp_mono (fun b xs e => ?_) (fun b o u e => ?_) d y ht hy)⟩
  · have nb : b ≠ a := ne_of_none e na
    rw [upd_ne (ne_of_none e nd1), del_ne nb]
    exact kp b o (by rw [upd_ne nb]; exact e) nb
  · rw [upd_ne (fun z => by rw [z, ed] at e; exact exd_tup (Option.some.inj e)), del_ne (fun z => by rw [z, ea] at e; exact exo_tup (Option.some.inj e))]
    exact e
  · rw [upd_ne (fun z => by rw [z, ed] at e; have y := Option.some.inj e; unfold exd at y; cases y), del_ne (fun z => by rw [z, ea] at e; exact exo_frz (Option.some.inj e))]
    exact e
theorem takes0N {X : Cx} : L2N.Takes X (fun _ _ _ _ => False) := fun _ _ x => by
  obtain ⟨_, _, _, _, _, _, _, _, _, _, _, _, _, _, _, _, z⟩ := x
  exact z.elim
end My
set_option Elab.async false
set_option linter.all false
set_option maxRecDepth 100000
set_option maxHeartbeats 4000000
namespace My
open PySem PySem.Spec PyProof.Rows L2
/-- the promise of a method that may raise, as a method -/
structure MetX (P : Program) (w : World) (K : PySem.W.Frag) (mg : Str → Option Value) (base : Heap) (CX : CXT) (k : Nat) (C : Addr) (m : Str) (sp : Sp) (dvs : List V) : Prop where
  ex : ∃ (f : Addr) (fd : FuncData) (ps : List Str) (ds : List Value), Cls K C ∧ Meth K C m f ∧ FnOk P w K mg base CX k f fd ps sp ∧ Binds K fd ps ds ∧ Vals dvs ds
/-- what sort_of gives: the sort of a value, or BadValue -/
def spSortOf (K : PySem.W.Frag) (C BV : Addr) : Sp := fun vs H Q E => ∃ (s : Addr) (ns : List Int) (m : Int) (x : V) (d : PyData), vs = [.ref s, x] ∧ SoAt K C H s ns m ∧ 0 < m ∧ Dp K H x d ∧ tupD d = true ∧ dep d ≤ 6 ∧ (∃ t, TyOf K H x (.type t)) ∧
  ((∃ v, x = .int v ∧ 0 ≤ v ∧ v ≤ 1000000000 ∧ ∀ H', Same H H' → Q (.int (place ns m v)) H') ∨
   (valueV x = false ∧ ∀ (y : V) (dd : Addr) (H' : Hp), Same H H' → H dd = none → H' dd = some (.xd [("value", y)]) → Dp K H' y d → E (.ref BV) (some dd) H'))
def spKindOf (K : PySem.W.Frag) (C : Addr) : Sp := fun vs H Q _ => ∃ (s : Addr) (ns : List Int) (m : Int) (r q : Addr) (t : Int) (us : List Int), vs = [.ref s, .ref r] ∧ SoAt K C H s ns m ∧ 0 < m ∧ SqT K H r [.int t, .ref q] ∧ SqT K H q (us.map V.int) ∧ us.length ≤ 1000 ∧
  ∀ p H', Same H H' → Dp K H' (.ref p) (.tuple [.int t, .tuple ((us.map (place ns m)).map PyData.int)]) → Q (.ref p) H'
/-- a dict that holds just these keys -/
def Barred (H : Hp) (b : Addr) (avs : List Int) : Prop := ∃ kvs : List (Key × V), H b = some (.dK kvs) ∧ ∀ k : Int, (valV kvs (Sum.inl k)).isSome = decide (k ∈ avs)
def badB (ns avs : List Int) (v : Int) : Bool := decide (v ∈ ns) || decide (v ∈ avs)
def spRem (K : PySem.W.Frag) (C : Addr) : Sp := fun vs H Q _ => ∃ (s : Addr) (ns : List Int) (m r : Int) (n : Nat) (b : Addr) (avs : List Int) (f : Nat) (z : Int), vs = [.ref s, .int r, .int (n : Int), .ref b] ∧ SoAt K C H s ns m ∧ Barred H b avs ∧ nth (badB ns avs) m f r n = some z ∧ Q (.int z) H
section
variable {P : Program} {w : World} {K : PySem.W.Frag} {mg : Str → Option Value} {base : Heap} {C : Addr}
theorem ints_flat (ns : List Int) : (ns.map V.int).all flatV = true := by
  rw [List.all_eq_true]
  intro x hx
  obtain ⟨n, _, rfl⟩ := List.mem_map.mp hx
  rfl
theorem sc_sortof : FnScope ["self", "value"] ["self", "value"] (defScope (inClass (topS 19) 4)) := ⟨rfl, rfl, rfl, by decide +kernel, rfl, by decide +kernel, by decide +kernel⟩
theorem ok_sortof {f BV : Addr} {fd : FuncData} {dvs : List V} (F : FunD K "sort_of" "Sorts.sort_of" (defArgs (inClass (topS 19) 4)) (defBody (inClass (topS 19) 4)) (defScope (inClass (topS 19) 4)) dvs [] f fd) (cv : Cal P w K mg base 2 "is_value" (spValue K)) (cP : C8.Met P w K mg base 1 C "_place_of" (spPlace K C) []) (RV : Err P w K mg base "BadValue" BV "value") : FnOk P w K mg base (L2N.CX P w) 11 f fd ["self", "value"] (spSortOf K C BV) := by
  refine F.ok sc_sortof (fun vs H Q E h => ?_) (fun cdv A outer s0 H vs Q E hr h => ?_)
  · obtain ⟨s, ns, m, x, d, rfl, _⟩ := h
    rfl
  · obtain ⟨s, ns, m, x, d, rfl, hs, m0, hd, ht, hn, ⟨t, ty⟩, h⟩ := h
    refine ⟨_, (pss_cons (ps_if (pt_not (pt_val (pe_c cv hr (by decide) rfl (pa_cons (pv 1) pa_nil)))) (pss_one (L2N.ps_raise rfl (L2N.takes_of rfl rfl rfl rfl) (pmk_err RV hr (by decide) (by rfl) (pv 1)))) pss_nil)
      (pss_one (ps_ret (C8.pe_mt cP hr (by decide) (pv 0) (pa_cons (pv 1) pa_nil))))), ?_⟩
    rcases h with ⟨v, rfl, v0, v1, q⟩ | ⟨hv, q⟩
    · have e : valueV (.int v) = true := by
        show (decide ((0 : Int) ≤ v) && decide (v ≤ 1000000000)) = true
        rw [decide_eq_true v0, decide_eq_true v1]
        rfl
      refine ⟨_, rfl, _, t, rfl, ty, ?_⟩
      rw [e]
      refine ⟨_, rfl, iteF ?_⟩
      obtain ⟨dx, tt, es, hq⟩ := id hs
      exact ⟨_, rfl, s, dx, _, rfl, es, rfl, _, rfl, s, ns, m, v, rfl, hs, m0, q⟩
    · refine ⟨_, rfl, _, t, rfl, ty, ?_⟩
      rw [hv]
      refine ⟨_, rfl, iteT ?_⟩
      exact ⟨_, rfl, x, d, rfl, hd, ht, hn, q⟩
theorem sc_kindof : FnScope ["self", "row", "table", "values", "value"] ["self", "row"] (defScope (inClass (topS 19) 5)) := ⟨rfl, rfl, rfl, by decide +kernel, rfl, by decide +kernel, by decide +kernel⟩
theorem ok_kindof {f : Addr} {fd : FuncData} (F : L2.Fun K "kind_of" "Sorts.kind_of" (inClass (topS 19) 5) f fd) (cP : C8.Met P w K mg base 1 C "_place_of" (spPlace K C) []) (m_tuple : mg "tuple" = none) : FnOk P w K mg base CX0 2 f fd ["self", "row"] (spKindOf K C) := by
  refine F.ok sc_kindof (fun vs H Q E h => ?_) (fun cdv A outer s0 H vs Q E hr h => ?_)
  · obtain ⟨s, ns, m, r, q, t, us, rfl, _⟩ := h
    rfl
  · obtain ⟨s, ns, m, r, b, t, us, rfl, hs, m0, hr1, hq1, few, q⟩ := h
    refine ⟨_, (pss_cons (ps_asg (pv 1) (pg_tup (by rfl) (pgs_cons (pg_name (i := 2) sc_kindof.nd rfl (.inl rfl)) (pgs_cons (pg_name (i := 3) sc_kindof.nd rfl (.inl rfl)) pgs_nil))))
      (pss_one (ps_ret (pe_tup (pa_cons (pv 2) (pa_cons (pe_callTy call_tuple_of (by rfl) m_tuple (by decide +kernel) (pa_cons (pe_lc (own := [("value", 4)]) (g := gName 4) (tt := tYes) rfl sc_kindof.nd (pi_seq (pv 3)) (blkOk_by (N := ["self", "row", "table", "values", "value"]) (sc := defScope (inClass (topS 19) 5)) (by decide +kernel)) (fun _ _ _ _ _ => pg_name (i := 4) sc_kindof.nd rfl (Or.inl rfl)) (fun _ _ _ _ _ => pts_nil) (fun _ _ _ _ _ => (C8.pe_mt cP hr (by decide) (pv 0) (pa_cons (pv 4) pa_nil)))) pa_nil)) pa_nil)))))), ?_⟩
    obtain ⟨dx, tt, es, hq⟩ := id hs
    refine ⟨_, rfl, r, _, rfl, hr1, rfl, _, _, rfl, _, _, rfl, rfl, ?_⟩
    refine ⟨_, rfl, ?_⟩
    dsimp only [tCB, tCons, tNil]
    refine lcD (ds := us.map PyData.int) (g := fun d => match d with | .int v => .int (place ns m v) | d => d) (by rfl) (.inr hq1) (by rw [List.length_map]; exact Nat.le_of_lt (small1000 few)) dpAll_ints (fun d hd => ?_) (by intro _; rfl) (fun x d hd H2 R s2 hx kR => ?_) (fun D ys H2 s2 nD hD hys => ?_)
    · obtain ⟨v, _, rfl⟩ := List.mem_map.mp hd
      rfl
    · obtain ⟨v, _, rfl⟩ := List.mem_map.mp hd
      cases hx
      exact ⟨_, rfl, s, dx, _, rfl, s2 _ _ es, rfl, _, rfl, s, ns, m, v, rfl, hs.keep s2, m0, fun H' s' => kR _ _ s' (.int _)⟩
    · refine ⟨D, ys, rfl, .inl ⟨SqL.of hD, fun l nl => ⟨(by show 2 ≤ sizeLine; decide), fun p np => ?_⟩⟩⟩
      refine q p _ ((s2.trans (same_upd nl)).trans (same_upd np)) (.tup (SqT.of upd_same) (.cons (.int t) (.cons (.tup (seqT_keep (SqT.of upd_same) (same_upd np)) ?_) .nil)))
      rw [List.map_map] at hys
      rw [List.map_map]
      exact dpAll_keep ((same_upd nl).trans (same_upd np)) _ _ hys
theorem sc_rem : FnScope ["self", "remainder", "number", "barred", "value", "left"] ["self", "remainder", "number", "barred"] (defScope (inClass (topS 19) 7)) := ⟨rfl, rfl, rfl, by decide +kernel, rfl, by decide +kernel, by decide +kernel⟩
theorem ok_rem {f : Addr} {fd : FuncData} (F : L2.Fun K "_remaining" "Sorts._remaining" (inClass (topS 19) 7) f fd) (S : SoC K C) : FnOk P w K mg base CX0 1 f fd ["self", "remainder", "number", "barred"] (spRem K C) := by
  refine F.ok sc_rem (fun vs H Q E h => ?_) (fun cdv A outer s0 H vs Q E hr h => ?_)
  · obtain ⟨s, ns, m, r, n, b, avs, f, z, rfl, _⟩ := h
    rfl
  · obtain ⟨s, ns, m, r, n, b, avs, fu, z, rfl, ⟨dx, t, e, hq⟩, ⟨kvs, hb, hk⟩, hn, q⟩ := h
    refine ⟨_, (pss_cons (ps_set (i := 4) sc_rem.nd rfl (.inl rfl) (pv 1))
      (pss_cons (ps_set (i := 5) sc_rem.nd rfl (.inl rfl) (pv 2))
      (pss_cons (ps_while PassesOwn.never (PW.pt (pw_or (pt_cmpR op_in_seq (pv 4) (pe_fld (pv 0) rfl) (by rfl)) (pw_or (pt_cmp (pc_din (hu_of hr) (pv 4) (pv 3))) (pw_or1 (pt_cmpR op_gt (pv 5) pe_int (nomark _)))))) (pss_cons (ps_if (PW.pt (pw_and (pt_cmpR op_notIn_seq (pv 4) (pe_fld (pv 0) rfl) (by rfl)) (pw_and1 (pt_cmp (pc_dnotin (hu_of hr) (pv 4) (pv 3)))))) (pss_one (ps_aug (i := 5) sc_rem.nd rfl (.inl rfl) pe_int ip_sub)) pss_nil) (pss_one (ps_aug (i := 4) sc_rem.nd rfl (.inl rfl) (pe_fld (pv 0) rfl) ip_add))))
      (pss_one (ps_ret (pv 4)))))), ?_⟩
    have sqt : ∀ v : Int, inV (.int v) (ns.map V.int) = decide (v ∈ ns) := fun v => inV_ints v ns
    refine ⟨_, rfl, _, rfl, ?_⟩
    refine ⟨fun f σ H' => H' = H ∧ ∃ (v : Int) (l : Nat), σ = [some (.ref s), some (.int r), some (.int (n : Int)), some (.ref b), some (.int v), some (.int (l : Int))] ∧ nth (badB ns avs) m f v l = some z, ⟨fu, rfl, r, n, rfl, hn⟩, ?_⟩
    rintro f σ H' ⟨rfl, v, l, rfl, hf⟩
    match f, hf with
    | 0, hf => rw [nth] at hf; cases hf
    | f + 1, hf =>
      rw [nth_eq] at hf
      have named : ∀ (neg : Bool) (Q' : VK), Q' (.bl (if neg then !decide (v ∈ ns) else decide (v ∈ ns))) H' → rIn K neg (.int v) (.ref t) H' Q' := fun neg Q' h => ⟨t, _, rfl, .inr hq, rfl, ints_flat ns, by rw [sqt]; exact h⟩
      have get : DGet H' b (.int v) (valV kvs (Sum.inl v)) := DGet.k (k := Sum.inl v) hb
      have gv := hk v
      refine ⟨_, rfl, _, rfl, s, C, dx, _, _, rfl, e, S.i.cl, S.n1, rfl, named false _ ?_⟩
      by_cases h1 : v ∈ ns
      · have bad : badB ns avs v = true := by unfold badB; rw [decide_eq_true h1]; rfl
        rw [if_pos bad] at hf
        dsimp only
        rw [if_neg (by decide), decide_eq_true h1]
        refine ⟨_, rfl, iteT (iteT ⟨_, fun σ' H2 h => ⟨f, Nat.lt_succ_self f, h⟩, ?_⟩)⟩
        refine ⟨_, rfl, _, rfl, s, C, dx, _, _, rfl, e, S.i.cl, S.n1, rfl, named true _ ?_⟩
        dsimp only
        rw [if_pos rfl, decide_eq_true h1]
        refine ⟨_, rfl, iteF (iteF ?_)⟩
        exact ⟨_, rfl, _, rfl, s, C, dx, _, _, rfl, e, S.i.cl, S.n2, rfl, _, _, rfl, rfl, rfl, v + m, l, rfl, hf⟩
      · dsimp only
        rw [if_neg (by decide), decide_eq_false h1]
        refine ⟨_, rfl, iteF ?_⟩
        refine ⟨_, rfl, _, rfl, b, _, rfl, get, ?_⟩
        by_cases h2 : v ∈ avs
        · have bad : badB ns avs v = true := by unfold badB; rw [decide_eq_true h2, Bool.or_true]
          rw [if_pos bad] at hf
          rw [decide_eq_true h2] at gv
          rw [gv]
          refine ⟨_, rfl, iteT (iteT ⟨_, fun σ' H2 h => ⟨f, Nat.lt_succ_self f, h⟩, ?_⟩)⟩
          refine ⟨_, rfl, _, rfl, s, C, dx, _, _, rfl, e, S.i.cl, S.n1, rfl, named true _ ?_⟩
          dsimp only
          rw [if_pos rfl, decide_eq_false h1]
          refine ⟨_, rfl, iteT ?_⟩
          refine ⟨_, rfl, _, rfl, b, _, rfl, get, ?_⟩
          rw [gv]
          refine ⟨_, rfl, iteF ?_⟩
          exact ⟨_, rfl, _, rfl, s, C, dx, _, _, rfl, e, S.i.cl, S.n2, rfl, _, _, rfl, rfl, rfl, v + m, l, rfl, hf⟩
        · have bad : ¬ badB ns avs v = true := by unfold badB; rw [decide_eq_false h1, decide_eq_false h2]; decide
          rw [if_neg bad] at hf
          rw [decide_eq_false h2] at gv
          rw [gv]
          refine ⟨_, rfl, iteF ?_⟩
          match l, hf with
          | 0, hf =>
            refine ⟨_, rfl, _, _, rfl, rfl, _, rfl, iteF ?_⟩
            have ez : v = z := Option.some.inj hf
            subst ez
            exact ⟨_, rfl, q⟩
          | l + 1, hf =>
            have pos : decide ((0 : Int) < ((l + 1 : Nat) : Int)) = true := decide_eq_true (by omega)
            refine ⟨_, rfl, _, _, rfl, rfl, _, rfl, ?_⟩
            show if decide (((l + 1 : Nat) : Int) > 0) = true then _ else _
            rw [if_pos (decide_eq_true (by omega))]
            refine ⟨_, fun σ' H2 h => ⟨f, Nat.lt_succ_self f, h⟩, ?_⟩
            refine ⟨_, rfl, _, rfl, s, C, dx, _, _, rfl, e, S.i.cl, S.n1, rfl, named true _ ?_⟩
            dsimp only
            rw [if_pos rfl, decide_eq_false h1]
            refine ⟨_, rfl, iteT ?_⟩
            refine ⟨_, rfl, _, rfl, b, _, rfl, get, ?_⟩
            rw [gv]
            refine ⟨_, rfl, iteT ?_⟩
            refine ⟨_, rfl, _, _, rfl, rfl, ?_⟩
            refine ⟨_, rfl, _, rfl, s, C, dx, _, _, rfl, e, S.i.cl, S.n2, rfl, _, _, rfl, rfl, rfl, v + m, l, ?_, hf⟩
            have el : (((l + 1 : Nat) : Int) - 1) = (l : Int) := by omega
            show ([some (.ref s), some (.int r), some (.int (n : Int)), some (.ref b), some (.int (v + m)), some (.int (((l + 1 : Nat) : Int) - 1))] : List (Option V)) = _
            rw [el]
end
end My
set_option Elab.async false
set_option linter.all false
set_option maxRecDepth 100000
set_option maxHeartbeats 4000000
namespace My
open PySem PySem.Spec PyProof.Rows L2
/-- name = {k: v for x in xs} on one line, the name a local -/
theorem ps_setDc {X : Cx} {i : Nat} {y : Str} {py : Pos} {kx vx tg iter : Expr} {ifs : List Expr} {scope : Scope} {own : List (Str × Nat)} {pos spos : Pos} {wi : TI} {g : TG} {tt : TT} {tk tv : TE} (calm : X.calm = true) (nd : X.N.Nodup) (hy : X.N[i]? = some y) (loc : X.env.scope.names.lookup y = some .local)
    (sw : swapsWith (.DictComp kx vx [⟨tg, iter, ifs, 0⟩] scope pos) (some (.Name y py)) spos.line X.env = pure true) (hi : PI X tg iter wi) (ok : BlkOk X.N X.env.scope scope own)
    (hg : ∀ (s : Shared) (H : Hp) (C : Addr) (cl : List (Str × Addr)) (fp : List Addr), PG (X.blk s H scope (compEnvC scope cl C X.env) fp) tg g) (ht : ∀ (s : Shared) (H : Hp) (C : Addr) (cl : List (Str × Addr)) (fp : List Addr), PTs (X.blk s H scope (compEnvC scope cl C X.env) fp) ifs tt)
    (hk : ∀ (s : Shared) (H : Hp) (C : Addr) (cl : List (Str × Addr)) (fp : List Addr), PE (X.blk s H scope (compEnvC scope cl C X.env) fp) kx tk) (he : ∀ (s : Shared) (H : Hp) (C : Addr) (cl : List (Str × Addr)) (fp : List Addr), PE (X.blk s H scope (compEnvC scope cl C X.env) fp) vx tv)
    (hs : ∀ x, foldedSetIterable iter X.env x = pure x := by intro _; rfl) :
    PS X (.Assign [.Name y py] (.DictComp kx vx [⟨tg, iter, ifs, 0⟩] scope pos) spos) (tAsg (tDc wi g tt tk tv (own.map (·.2))) (gName i)) := by
  constructor
  intro pins s σ H D I h
  rw [exec_Assign_Name_used _ _ _ _ sw]
  apply wpAny_bind
  apply wpAny_standAt
  apply wpAny_bind
  show wpAny _ X.A (do let _ ← comprehension (.DictComp kx vx [⟨tg, iter, ifs, 0⟩] scope pos) scope X.env (firstIterPos [⟨tg, iter, ifs, 0⟩] pos) newDict false (eval iter X.env) (some (assign (.Name y py) X.env))) _ _ s
  have h' : tDc wi g tt tk tv (own.map (·.2)) σ H (fun x H1 => gName i x σ H1 D.nx) := h
  apply wpAny_bind
  refine thn (dc_core (Qf := fun _ s' => SP X pins D .next s') calm nd I hi ok hg ht hk he hs h' fun L C s' m H' I' q ns f => ?_) fun _ s' q => wpAny_pure (wpAny_pure q)
  show wpAny _ _ (assign (.Name y py) X.env (.ref L)) _ _ _
  obtain ⟨f0, f1, f2, f3, f4, f5⟩ := f
  refine wpAny_assign_Name (store_ok2 (v := V.ref L) I' nd hy (.inl loc) rfl (fun s2 I2 told => ?_) (.inr loc))
  obtain ⟨a, sb, ha⟩ := told
  have far : C ≠ a := by
    rcases ha with z | z
    · rw [z]; exact f1
    · exact fun e => f4 y a z e.symm
  exact ⟨m, ns.sameBut sb far, fun h3 sb3 => ⟨_, H', I2.turned (t' := s2.toks) (fun b o hb e => (sb3.2 b hb).trans e) f0 f1 f3 f4 f5, q⟩⟩
theorem sw_dc {kx vx : Expr} {gs : List Comprehension} {scope : Scope} {pos py : Pos} {y : Str} {l : Nat} {env : Env} (hk : env.scope.kind = .function) (hy : env.scope.names.lookup y = some .local) (hl : (py.line == pos.line) = true)
    (ha : (scope.names.any fun (n, k) => n == y && (k == .local || k == .cell)) = false) : swapsWith (.DictComp kx vx gs scope pos) (some (.Name y py)) l env = pure true := by
  have k1 : env.kindOf y = some .local := hy
  have k2 : env.blockKind = .function := by
    unfold Env.blockKind
    rw [hk]
    rfl
  unfold swapsWith
  simp only [k2, k1, ha, Expr.pos, hl]
  rfl
/-- {x: True for x in xs}, xs a list or a tuple of ints -/
theorem dcBar {K : PySem.W.Frag} {i j : Nat} {vs : List Nat} {σ : L2.St} {H : Hp} {a : Addr} {avs : List Int} {Q : VK} (hv : σ[i]? = some (some (.ref a))) (hs : SqV K H a (avs.map V.int)) (hz : avs.length ≤ 1000)
    (hw : ∀ x, wipe ((wipe σ vs).set j (some x)) vs = wipe σ vs) (hj : ∀ x, ((wipe σ vs).set j (some x))[j]? = some (some x))
    (hq : ∀ (D : Addr) (H' : Hp), Same H H' → H D = none → Barred H' D avs → Q (.ref D) H') : tDc (iSeq K (tVar i)) (gName j) tYes (tVar j) (tC (.bl true)) vs σ H Q := by
  have len : (avs.map V.int).length = avs.length := List.length_map ..
  have core : ∀ (D : Addr) (J : It) (G : Hp → Prop), H D = none → Walk J (avs.map V.int).length G (YAt (avs.map V.int)) → (∀ H', Same H H' → G H') → ∃ W : Nat → Nat → Hp → Prop, (∃ m, W 0 m (upd H D (.dK []))) ∧ ∀ i m H, W i m H →
      (J.stop i H ∧ Q (.ref D) H) ∨ (J.go i H ∧ ∃ Nx : Hp → Prop, (∀ H', Nx H' → ∃ m', m' < m ∧ W (i + 1) m' H') ∧ ∀ x H', J.yld i H x H' → gName j x (wipe σ vs) H' fun σ2 H2 => wipe σ2 vs = wipe σ vs ∧ tYes σ2 H2 fun b H3 =>
        if b = true then tVar j σ2 H3 fun y H4 => tC (.bl true) σ2 H4 fun z H5 => ∃ kvs k, y = kV k ∧ H5 D = some (.dK kvs) ∧ kvs.length < sizeLine ∧ Nx (upd H5 D (.dK (putK kvs k z))) else Nx H3) := by
    intro D J G nD w hG
    let Pv : Nat → Hp → Prop := fun i H' => Same H H' ∧ ∃ kvs : List (Key × V), H' D = some (.dK kvs) ∧ kvs.length ≤ i ∧ ∀ k : Int, (valV kvs (Sum.inl k)).isSome = decide (k ∈ avs.take i)
    refine ⟨fun i m H' => m = avs.length - i ∧ i ≤ avs.length ∧ Pv i H', ⟨avs.length, rfl, Nat.zero_le _, same_upd nD, [], upd_same, Nat.le_refl _, fun k => by simp [valV_nil]⟩, ?_⟩
    rintro i m H' ⟨rfl, hi, s1, kvs, hD, hl, hk⟩
    by_cases lt : i < avs.length
    · refine .inr ⟨w.goes i H' (by rw [len]; exact lt) (hG _ s1), Pv (i + 1), fun H2 p => ⟨avs.length - (i + 1), by omega, rfl, lt, p⟩, ?_⟩
      intro x H2 y
      obtain ⟨rfl, ex⟩ := w.yields i H' x H2 (by rw [len]; exact lt) (hG _ s1) y
      rw [List.getElem?_map, List.getElem?_eq_getElem lt] at ex
      have ex' : V.int avs[i] = x := Option.some.inj ex
      subst ex'
      refine ⟨hw _, ?_⟩
      unfold tYes
      dsimp only
      rw [if_pos rfl]
      refine ⟨_, hj _, kvs, Sum.inl avs[i], rfl, hD, Nat.lt_of_le_of_lt (Nat.le_trans hl (by omega)) (small1000 hz), ?_, ?_⟩
      · intro b o e
        rw [upd_ne (ne_of_none e nD)]
        exact s1 _ _ e
      · refine ⟨_, upd_same, ?_, fun k => ?_⟩
        · unfold putK
          split
          · rw [List.length_map]; omega
          · rw [List.length_append]; simp; omega
        · have mem : k ∈ avs.take (i + 1) ↔ k ∈ avs.take i ∨ k = avs[i] := by
            rw [List.take_add_one, List.getElem?_eq_getElem lt]
            show k ∈ avs.take i ++ [avs[i]] ↔ _
            rw [List.mem_append, List.mem_singleton]
          rw [valV_put]
          by_cases e : k = avs[i]
          · rw [if_pos (by rw [e]), decide_eq_true (mem.mpr (.inr e))]
            rfl
          · have ne : ¬ (Sum.inl k : Key) = Sum.inl avs[i] := fun z => e (Sum.inl.inj z)
            rw [if_neg ne, hk k]
            by_cases e2 : k ∈ avs.take i
            · rw [decide_eq_true e2, decide_eq_true (mem.mpr (.inl e2))]
            · rw [decide_eq_false e2, decide_eq_false (fun z => (mem.mp z).elim e2 e)]
    · have e : i = avs.length := by omega
      subst e
      rw [List.take_length] at hk
      have st := w.stops H' (hG _ s1)
      rw [len] at st
      exact .inl ⟨st, hq D H' s1 nD ⟨kvs, hD, hk⟩⟩
  rcases hs with hs | hs
  · exact .inl ⟨_, hv, a, rfl, ⟨_, hs⟩, fun D nD => core D _ _ nD (walk_list (K := K) (a := a)) fun H' s => s.seq hs⟩
  · exact .inr ⟨_, hv, a, rfl, ⟨_, hs⟩, fun D nD => core D _ _ nD (walk_tup (K := K) (a := a)) fun H' s => seqT_keep hs s⟩
/-- the value with number n in the sort k -/
def ValIs (ns : List Int) (m k : Int) (n : Nat) (avs : List Int) (r : Option Int) : Prop :=
  (∃ (j : Nat) (v : Int), k = (j : Int) ∧ ns[j]? = some v ∧ r = if n = 0 ∧ v ∉ avs then some v else none) ∨ ((ns.length : Int) ≤ k ∧ ∃ f z, nth (badB ns avs) m f (k - (ns.length : Int)) n = some z ∧ r = some z)
def spValueOf (K : PySem.W.Frag) (C NS : Addr) : Sp := fun vs H Q E => ∃ (s : Addr) (ns : List Int) (m : Int) (x y w : V), vs = [.ref s, x, y, w] ∧ SoAt K C H s ns m ∧
  ((∃ (k : Int) (n : Nat) (a : Addr) (avs : List Int) (r : Option Int), x = .int k ∧ y = .int (n : Int) ∧ w = .ref a ∧ 0 ≤ k ∧ k ≤ (ns.length : Int) + m - 1 ∧ SqV K H a (avs.map V.int) ∧ avs.length ≤ 1000 ∧ ValIs ns m k n avs r ∧ ∀ H', Same H H' → Q (optV r) H') ∨
   (∃ d : PyData, Dp K H x d ∧ tupD d = true ∧ dep d ≤ 6 ∧ (∃ t, TyOf K H x (.type t)) ∧ wholeV x (some 0) (some ((ns.length : Int) + m - 1)) = false ∧ ∀ (z : V) (dd : Addr) (H' : Hp), Same H H' → H dd = none → H' dd = some (.xd [("number", z)]) → Dp K H' z d → E (.ref NS) (some dd) H'))
structure PropM (P : Program) (w : World) (K : PySem.W.Frag) (mg : Str → Option Value) (base : Heap) (C : Addr) : Prop where
  ex : ∃ (p g : Addr) (fd : FuncData) (ps : List Str), PropOf K C "many" p g ∧ FnOk P w K mg base CX0 1 g fd ps (spMany K C) ∧ Binds K fd ps []
theorem pe_many {X : Cx} {C : Addr} {e : Expr} {te : TE} {j : Nat} {pos : Pos} (M : PropM X.prog X.w X.K X.mg X.base C) (S : SoC X.K C) (hr : Room j X.A) (hj : 2 ≤ j) (he : PE X e te) (hab : attributeBase e "many" X.env (eval e X.env) = eval e X.env := by rfl) :
    PE X (.Attribute e "many" pos) (tProp C (spMany X.K C) [] E0 te) := by
  obtain ⟨p, g, fd, ps, hp, F, b⟩ := M.ex
  exact pe_prop he S.i.cl hp F (hr.mono hj) b .nil pass0 hab
section
variable {P : Program} {w : World} {K : PySem.W.Frag} {mg : Str → Option Value} {base : Heap} {C : Addr}
theorem sc_valueof : FnScope ["self", "sort", "number", "avoided", "barred", "value"] ["self", "sort", "number", "avoided"] (defScope (inClass (topS 19) 6)) := ⟨rfl, rfl, rfl, by decide +kernel, rfl, by decide +kernel, by decide +kernel⟩
theorem ok_valueof {f NS : Addr} {fd : FuncData} {dvs : List V} (F : FunD K "value_of" "Sorts.value_of" (defArgs (inClass (topS 19) 6)) (defBody (inClass (topS 19) 6)) (defScope (inClass (topS 19) 6)) dvs [] f fd) (S : SoC K C) (cw : Cal P w K mg base 1 "is_whole" (spWhole K)) (M : PropM P w K mg base C) (m_len : mg "len" = none) (cR : C8.Met P w K mg base 1 C "_remaining" (spRem K C) []) (RN : Err P w K mg base "NoSort" NS "number") : FnOk P w K mg base (L2N.CX P w) 11 f fd ["self", "sort", "number", "avoided"] (spValueOf K C NS) := by
  refine F.ok sc_valueof (fun vs H Q E h => ?_) (fun cdv A outer s0 H vs Q E hr h => ?_)
  · obtain ⟨s, ns, m, x, y, w, rfl, _⟩ := h
    rfl
  · obtain ⟨s, ns, m, x, y, w, rfl, hs, h⟩ := h
    obtain ⟨dx, t, es, hq⟩ := id hs
    have len : (ns.map V.int).length = ns.length := List.length_map ..
    refine ⟨_, (pss_cons (ps_if (pt_not (pt_val (pe_c cw hr (by decide) rfl (pa_cons (pv 1) (pa_cons pe_int (pa_cons (pe_op op_sub (pe_many M S hr (by decide) (pv 0)) pe_int) pa_nil)))))) (pss_one (L2N.ps_raise rfl (L2N.takes_of rfl rfl rfl rfl) (pmk_err RN hr (by decide) (by rfl) (pv 1)))) pss_nil)
      (pss_cons (ps_setDc (i := 4) (own := [("value", 5)]) (g := gName 5) (tt := tYes) rfl sc_valueof.nd rfl rfl (sw_dc rfl rfl rfl (by decide +kernel)) (pi_seq (pv 3)) (blkOk_by (N := ["self", "sort", "number", "avoided", "barred", "value"]) (sc := defScope (inClass (topS 19) 6)) (by decide +kernel)) (fun _ _ _ _ _ => pg_name (i := 5) sc_valueof.nd rfl (Or.inl rfl)) (fun _ _ _ _ _ => pts_nil) (fun _ _ _ _ _ => (pv 5)) (fun _ _ _ _ _ => pe_bl))
      (pss_cons (ps_if (pt_cmpR op_lt (pv 1) (pe_callB call_len_seq (by rfl) m_len PySem.boot_len (pa_cons (pe_fld (pv 0) rfl) pa_nil)) (nomark _)) (pss_cons (ps_set (i := 5) sc_valueof.nd rfl (.inl rfl) (pe_ix ix_tup (pe_fld (pv 0) rfl) (pv 1) (fun _ _ => rfl))) (pss_one (ps_ret (pe_ifExp (PW.pt (pw_and (pt_cmpR op_eq (pv 2) pe_int (nomark _)) (pw_and1 (pt_cmp (pc_dnotin (hu_of hr) (pv 5) (pv 4)))))) (pv 5) pe_non)))) pss_nil)
      (pss_one (ps_ret (C8.pe_mt cR hr (by decide) (pv 0) (pa_cons (pe_op op_sub (pv 1) (pe_callB call_len_seq (by rfl) m_len PySem.boot_len (pa_cons (pe_fld (pv 0) rfl) pa_nil))) (pa_cons (pv 2) (pa_cons (pv 4) pa_nil))))))))), ?_⟩
    rcases h with ⟨k, n, a, avs, r, rfl, rfl, rfl, k0, k1, ha, few, hv, q⟩ | ⟨d, hd, ht, hn, ⟨ty, tx⟩, hw, q⟩
    · have e : wholeV (.int k) (some 0) (some ((ns.length : Int) + m - 1)) = true := by
        show (decide ((0 : Int) ≤ k) && decide (k ≤ (ns.length : Int) + m - 1)) = true
        rw [decide_eq_true k0, decide_eq_true k1]
        rfl
      refine ⟨_, rfl, _, rfl, s, dx, _, rfl, es, s, ns, m, rfl, hs, _, _, rfl, rfl, .int k, "int", some 0, some ((ns.length : Int) + m - 1), rfl, .int k, ?_⟩
      rw [e]
      refine ⟨_, rfl, iteF ?_⟩
      dsimp only [tNext, tSeq, tAsg]
      refine dcBar (avs := avs) (by rfl) ha few (by intro _; rfl) (by intro _; rfl) fun D H1 s1 nD hbar => ?_
      have es1 := s1 _ _ es
      have hq1 := seqT_keep hq s1
      refine ⟨_, rfl, _, rfl, s, C, dx, _, _, rfl, es1, S.i.cl, S.n1, rfl, t, _, rfl, .inr hq1, _, _, rfl, rfl, _, rfl, ?_⟩
      rw [len]
      by_cases lt : k < (ns.length : Int)
      · rw [decide_eq_true lt]
        rcases hv with ⟨j, v, rfl, hj, rfl⟩ | ⟨le, _⟩
        · refine iteT ⟨_, rfl, s, C, dx, _, _, rfl, es1, S.i.cl, S.n1, rfl, _, rfl, t, _, _, _, rfl, rfl, hq1, atI_nat (by rw [List.getElem?_map, hj]; rfl), ?_⟩
          obtain ⟨kvs, hD, hk⟩ := hbar
          have gv := hk v
          refine ⟨_, rfl, rfl, _, rfl, ?_⟩
          by_cases n0 : n = 0
          · subst n0
            refine iteT ⟨_, rfl, _, rfl, D, _, rfl, DGet.k (k := Sum.inl v) hD, ?_⟩
            by_cases hv2 : v ∈ avs
            · rw [decide_eq_true hv2] at gv
              rw [gv]
              rw [if_neg (fun z => z.2 hv2)] at q
              exact ⟨_, rfl, iteF (q _ s1)⟩
            · rw [decide_eq_false hv2] at gv
              rw [gv]
              rw [if_pos ⟨rfl, hv2⟩] at q
              exact ⟨_, rfl, iteT ⟨_, rfl, q _ s1⟩⟩
          · rw [if_neg (fun z => n0 z.1)] at q
            have ne : decide (V.int (n : Int) = V.int 0) = false := decide_eq_false fun z => n0 (by have := V.int.inj z; omega)
            rw [ne]
            exact iteF (iteF (q _ s1))
        · exact absurd le (by omega)
      · rw [decide_eq_false lt]
        rcases hv with ⟨j, v, rfl, hj, _⟩ | ⟨le, fu, z, hz, rfl⟩
        · have := (List.getElem?_eq_some_iff.mp hj).1
          exact absurd (show (j : Int) < (ns.length : Int) by omega) lt
        · refine iteF ⟨_, rfl, s, dx, _, rfl, es1, rfl, _, rfl, _, rfl, s, C, dx, _, _, rfl, es1, S.i.cl, S.n1, rfl, t, _, rfl, .inr hq1, _, _, rfl, rfl, _, rfl, _, rfl, ?_⟩
          rw [len]
          exact ⟨s, ns, m, k - (ns.length : Int), n, D, avs, fu, z, rfl, hs.keep s1, hbar, hz, q _ s1⟩
    · refine ⟨_, rfl, _, rfl, s, dx, _, rfl, es, s, ns, m, rfl, hs, _, _, rfl, rfl, x, ty, some 0, some ((ns.length : Int) + m - 1), rfl, tx, ?_⟩
      rw [hw]
      refine ⟨_, rfl, iteT ?_⟩
      exact ⟨_, rfl, x, d, rfl, hd, ht, hn, q⟩
end
end My
set_option Elab.async false
set_option linter.all false
set_option maxRecDepth 100000
set_option maxHeartbeats 4000000
namespace My
open PySem PySem.Spec PyProof.Rows L2
theorem tyOf_flat {K : PySem.W.Frag} {H : Hp} {x : V} (h : flatV x = true) : ∃ t, TyOf K H x (.type t) := by
  cases x with
  | non => exact ⟨_, .non⟩
  | bl b => exact ⟨_, .bl b⟩
  | int i => exact ⟨_, .int i⟩
  | str z => exact ⟨_, .str z⟩
  | _ => cases h
/-- a thing that is asked for as a sequence: none, or its items -/
def SeqIn (K : PySem.W.Frag) (H : Hp) (x : V) : Option (List V) → Prop
  | none => ∃ t, TyOf K H x (.type t) ∧ seqT t = false
  | some xs => ∃ a t, x = .ref a ∧ TyOf K H x (.type t) ∧ seqT t = true ∧ SqV K H a xs ∧ xs.length ≤ 1000 ∧ ∀ y ∈ xs, flatV y = true
def okN : Option (List V) → Bool
  | none => false
  | some xs => ascV xs && decide (xs.length ≤ 8)
def spSorts (K : PySem.W.Frag) (C B : Addr) : Sp := fun vs H Q E => ∃ (s dx : Addr) (x y : V) (o : Option (List V)), vs = [.ref s, x, y] ∧ H s = some (.ins C dx []) ∧ SeqIn K H x o ∧ (∃ ty, TyOf K H y (.type ty)) ∧
  (∀ xs, o = some xs → okN o = true → wholeV y (some 1) (some 6) = true → ∀ (t : Addr) (H' : Hp), (∀ b u, H b = some u → b ≠ s → H' b = some u) → H' s = some (.ins C dx [("named", .ref t), ("modulus", y)]) → SqT K H' t xs → Q .non H') ∧
  (okN o = false → ∀ (dd : Addr) (H' : Hp), Same H H' → H dd = none → H' dd = some (.xd [("what", .str "named")]) → E (.ref B) (some dd) H') ∧
  (okN o = true → wholeV y (some 1) (some 6) = false → ∀ (dd : Addr) (H' : Hp), Same H H' → H dd = none → H' dd = some (.xd [("what", .str "modulus")]) → E (.ref B) (some dd) H')
section
variable {P : Program} {w : World} {K : PySem.W.Frag} {mg : Str → Option Value} {base : Heap} {C : Addr}
theorem sc_sorts : FnScope ["self", "named", "modulus"] ["self", "named", "modulus"] (defScope (inClass (topS 19) 0)) := ⟨rfl, rfl, rfl, by decide +kernel, rfl, by decide +kernel, by decide +kernel⟩
theorem ok_sorts {f B : Addr} {fd : FuncData} {dvs : List V} (F : FunD K "__init__" "Sorts.__init__" (defArgs (inClass (topS 19) 0)) (defBody (inClass (topS 19) 0)) (defScope (inClass (topS 19) 0)) dvs [] f fd) (S : SoC K C) (ca : Cal P w K mg base 3 "is_ascending" (spAsc K)) (cw : Cal P w K mg base 1 "is_whole" (spWhole K)) (m_len : mg "len" = none) (m_tuple : mg "tuple" = none)
    (gN : ∃ u, mg "MOST_NAMED" = some u ∧ RelV (.int 8) u) (gM : ∃ u, mg "MOST_MODULUS" = some u ∧ RelV (.int 6) u) (RB : Err P w K mg base "BadSorts" B "what") : FnOk P w K mg base (L2N.CX P w) 11 f fd ["self", "named", "modulus"] (spSorts K C B) := by
  refine F.ok sc_sorts (fun vs H Q E h => ?_) (fun cdv A outer s0 H vs Q E hr h => ?_)
  · obtain ⟨s, dx, x, y, o, rfl, _⟩ := h
    rfl
  · obtain ⟨s, dx, x, y, o, rfl, es, ho, hy, q1, q2, q3⟩ := h
    refine ⟨_, (pss_cons (ps_if (PW.pt (pw_or (pt_not (pt_val (pe_c ca hr (by decide) rfl (pa_cons (pv 1) pa_nil)))) (pw_or1 (pt_cmpR op_gt (pe_callB call_len_seq (by rfl) m_len PySem.boot_len (pa_cons (pv 1) pa_nil)) (C8.pe_gc rfl gN) (nomark _))))) (pss_one (L2N.ps_raise rfl (L2N.takes_of rfl rfl rfl rfl) (pmk_err RB hr (by decide) (by rfl) pe_str))) pss_nil)
      (pss_cons (ps_if (pt_not (pt_val (pe_c cw hr (by decide) rfl (pa_cons (pv 2) (pa_cons pe_int (pa_cons (C8.pe_gc rfl gM) pa_nil)))))) (pss_one (L2N.ps_raise rfl (L2N.takes_of rfl rfl rfl rfl) (pmk_err RB hr (by decide) (by rfl) pe_str))) pss_nil)
      (pss_cons (ps_fld (pv 0) (pe_callTy call_tuple_of (by rfl) m_tuple (by decide +kernel) (pa_cons (pv 1) pa_nil)) rfl)
      (pss_one (ps_fld (pv 0) (pv 2) rfl))))), ?_⟩
    have raised : ∀ (what : Str) (H1 : Hp), Same H H1 → (∀ (dd : Addr) (H' : Hp), Same H H' → H dd = none → H' dd = some (.xd [("what", .str what)]) → E (.ref B) (some dd) H') → rErr K B "what" [.str what] H1 E := fun what H1 s1 k =>
      ⟨.str what, .str what, rfl, .str _, by rw [tupD], by rw [dep]; omega, fun z dd H' s2 nd ed hz => by
        cases hz
        exact k dd H' (s1.trans s2) (s1.free nd) ed⟩
    obtain ⟨tm, ty⟩ := hy
    cases o with
    | none =>
      obtain ⟨t, tx, nt⟩ := ho
      refine ⟨_, rfl, x, t, rfl, tx, .inl ⟨nt, fun H1 s1 => ⟨_, rfl, iteT (iteT ?_)⟩⟩⟩
      exact raised _ _ s1 (q2 rfl)
    | some xs =>
      obtain ⟨a, t, rfl, tx, et, hs, few, flat⟩ := ho
      refine ⟨_, rfl, _, t, rfl, tx, .inr ⟨et, a, xs, rfl, hs, Nat.le_of_lt (small1000 few), fun z hz => tyOf_flat (flat z hz), fun H1 s1 => ?_⟩⟩
      have hs1 := hs.keep s1
      refine ⟨_, rfl, ?_⟩
      by_cases h1 : ascV xs = true
      · rw [h1]
        refine iteF ⟨_, rfl, a, _, rfl, hs1, _, _, rfl, rfl, _, rfl, ?_⟩
        by_cases h2 : xs.length ≤ 8
        · have good : okN (some xs) = true := by
            show (ascV xs && decide (xs.length ≤ 8)) = true
            rw [h1, decide_eq_true h2]
            rfl
          have nle : decide ((8 : Int) < (xs.length : Int)) = false := decide_eq_false (by omega)
          show if decide ((xs.length : Int) > 8) = true then _ else _
          rw [if_neg (fun z => by have := of_decide_eq_true z; omega)]
          refine ⟨_, rfl, _, tm, some 1, some 6, rfl, TyOf.keep ty s1, ?_⟩
          by_cases h3 : wholeV y (some 1) (some 6) = true
          · rw [h3]
            refine ⟨_, rfl, iteF ?_⟩
            have fin : ∀ (t' : Addr) (H2 : Hp), Same H1 H2 → SqT K H2 t' xs → Q .non (upd (upd H2 s (.ins C dx (putF "named" (.ref t') []))) s (.ins C dx (putF "modulus" y (putF "named" (.ref t') [])))) := fun t' H2 s2 ht => by
              rw [upd_upd]
              have es2 := s2 _ _ (s1 _ _ es)
              refine q1 xs rfl good h3 t' _ (fun b u e nb => by rw [upd_ne nb]; exact s2 _ _ (s1 _ _ e)) upd_same ?_
              rcases ht with (ht | ⟨ob, ht⟩) | ht
              · exact .inl (.inl (by rw [upd_ne (fun z => by rw [z, es2] at ht; cases ht)]; exact ht))
              · exact .inl (.inr ⟨ob, by rw [upd_ne (fun z => by rw [z, es2] at ht; cases ht)]; exact ht⟩)
              · exact .inr ht
            have es1 := s1 _ _ es
            rcases hs1 with hl | htp
            · refine ⟨_, rfl, a, xs, rfl, .inl ⟨hl, fun l nl => ?_⟩⟩
              have ne : s ≠ l := ne_of_none es1 nl
              refine ⟨_, rfl, s, C, dx, [], rfl, by rw [upd_ne ne]; exact es1, S.i.cl, S.n1, by decide, ?_⟩
              refine ⟨_, rfl, _, rfl, s, C, dx, _, rfl, upd_same, S.i.cl, S.n2, (by show 1 < 1000; decide), ?_⟩
              exact fin l _ (same_upd nl) (SqT.of upd_same)
            · refine ⟨_, rfl, a, xs, rfl, .inr ⟨htp, ?_⟩⟩
              refine ⟨_, rfl, s, C, dx, [], rfl, es1, S.i.cl, S.n1, by decide, ?_⟩
              refine ⟨_, rfl, _, rfl, s, C, dx, _, rfl, upd_same, S.i.cl, S.n2, (by show 1 < 1000; decide), ?_⟩
              exact fin a _ (Same.refl _) htp
          · have h3' : wholeV y (some 1) (some 6) = false := by cases e : wholeV y (some 1) (some 6) with | true => exact absurd e h3 | false => rfl
            rw [h3']
            exact ⟨_, rfl, iteT (raised _ _ s1 (q3 good h3'))⟩
        · have bad : okN (some xs) = false := by
            show (ascV xs && decide (xs.length ≤ 8)) = false
            rw [decide_eq_false h2, Bool.and_false]
          show if decide ((xs.length : Int) > 8) = true then _ else _
          rw [if_pos (decide_eq_true (by omega))]
          exact raised _ _ s1 (q2 bad)
      · have h1' : ascV xs = false := by cases e : ascV xs with | true => exact absurd e h1 | false => rfl
        rw [h1']
        refine iteT (iteT (raised _ _ s1 (q2 ?_)))
        show (ascV xs && decide (xs.length ≤ 8)) = false
        rw [h1']
        rfl
end
end My
set_option Elab.async false
set_option linter.all false
set_option maxRecDepth 100000
set_option maxHeartbeats 4000000
namespace My
open PySem PySem.Spec PyProof.Rows L2
section
variable {P : Program} {w : World} {K : PySem.W.Frag} {mg : Str → Option Value} {base : Heap}
theorem sc__law_mix : FnScope ["_law_number", "_law_turn", "_law_once", "_law_twice"] ["_law_number", "_law_turn"] (defScope (topS 21)) := ⟨rfl, rfl, rfl, by decide +kernel, rfl, by decide +kernel, by decide +kernel⟩
theorem ok_mix {f : Addr} {fd : FuncData} (F : Fun K "_law_mix" "_law_mix" (topS 21) f fd) (mI : mg "int" = none) : FnOk P w K mg base CX0 1 f fd ["_law_number", "_law_turn"] (spMix 2147483647) := by
  refine F.ok sc__law_mix (fun vs H Q E h => ?_) (fun cdv A outer s H vs Q E hr h => ?_)
  · obtain ⟨n, t, rfl, _⟩ := h
    rfl
  · obtain ⟨n, t, rfl, n0, n1, t0, t1, k⟩ := h
    refine ⟨_, (pss_cons (ps_set (i := 2) sc__law_mix.nd rfl (.inl rfl) (pe_op op_mod (pe_callTy call_int1 (by rfl) mI boot_int (pa_cons (pe_op op_add (pe_op op_add (pe_op op_mul (pv 0) pe_int) (pe_op op_mul (pv 1) pe_int)) pe_int) pa_nil)) pe_int))
      (pss_cons (ps_set (i := 3) sc__law_mix.nd rfl (.inl rfl) (pe_op op_mod (pe_callTy call_int1 (by rfl) mI boot_int (pa_cons (pe_op op_add (pe_op op_add (pe_op op_mul (pv 2) (pv 2)) (pe_op op_mul (pe_op op_fdiv (pv 2) pe_int) pe_int)) (pe_op op_mul (pv 1) pe_int)) pa_nil)) pe_int))
      (pss_one (ps_ret (pe_op op_fdiv (pe_op op_mod (pe_callTy call_int1 (by rfl) mI boot_int (pa_cons (pe_op op_add (pe_op op_fdiv (pe_op op_mul (pv 3) (pv 3)) pe_int) (pv 2)) pa_nil)) pe_int) pe_int))))), ?_⟩
    refine ⟨_, rfl, _, _, rfl, rfl, .inr (by decide), ?_⟩
    refine ⟨_, rfl, _, _, rfl, rfl, .inr (by decide), _, _, rfl, rfl, _, _, rfl, rfl, .inl ⟨_, rfl, _, _, rfl, rfl, (by show (0 : Int) < 2147483647; decide), ?_⟩⟩
    have o0 := Int.emod_nonneg (n * 48271 + t * 16807 + 29) (show (2147483647 : Int) ≠ 0 by decide)
    have o1 := Int.emod_lt_of_pos (n * 48271 + t * 16807 + 29) (show (0 : Int) < 2147483647 by decide)
    refine ⟨_, rfl, _, rfl, _, _, rfl, rfl, .inl ⟨by omega, by omega⟩, ?_⟩
    refine ⟨_, rfl, _, _, rfl, rfl, ⟨by decide, by decide⟩, ?_⟩
    refine ⟨_, _, rfl, rfl, .inr (by decide), ?_⟩
    refine ⟨_, _, rfl, rfl, ?_⟩
    refine ⟨_, rfl, _, _, rfl, rfl, .inr (by decide), ?_⟩
    refine ⟨_, _, rfl, rfl, .inl ⟨_, rfl, _, _, rfl, rfl, (by show (0 : Int) < 2147483399; decide), ?_⟩⟩
    generalize e1 : (n * 48271 + t * 16807 + 29) % 2147483647 = once at o0 o1 ⊢
    generalize e2 : (once * once + once / 131 * 40692 + t * 69621) = big
    have w0 := Int.emod_nonneg big (show (2147483399 : Int) ≠ 0 by decide)
    have w1 := Int.emod_lt_of_pos big (show (0 : Int) < 2147483399 by decide)
    refine ⟨_, rfl, _, rfl, _, _, rfl, rfl, .inl ⟨by omega, by omega⟩, ?_⟩
    refine ⟨_, _, rfl, rfl, ⟨by decide, by decide⟩, ?_⟩
    refine ⟨_, rfl, _, _, rfl, rfl, .inl ⟨_, rfl, _, _, rfl, rfl, (by show (0 : Int) < 2147483563; decide), ?_⟩⟩
    exact ⟨_, _, rfl, rfl, ⟨by decide, by decide⟩, k _⟩
theorem sc__law_draw : FnScope ["_law_hand_here", "_law_many", "_law_cell", "_law_rest"] ["_law_hand_here", "_law_many"] (defScope (topS 23)) := ⟨rfl, rfl, rfl, by decide +kernel, rfl, by decide +kernel, by decide +kernel⟩
theorem ok_draw {f : Addr} {fd : FuncData} (F : Fun K "_law_draw" "_law_draw" (topS 23) f fd) (mI : mg "int" = none) (mL : mg "len" = none) (cM : Cal P w K mg base 1 "_law_mix" (spMix 2147483647)) : FnOk P w K mg base CX0 2 f fd ["_law_hand_here", "_law_many"] (spDraw 2147483629) := by
  refine F.ok sc__law_draw (fun vs H Q E h => ?_) (fun cdv A outer s H vs Q E hr h => ?_)
  · obtain ⟨a, c, m, rfl, _⟩ := h
    rfl
  · obtain ⟨a, c, m, rfl, hh, m0, m8, k⟩ := h
    refine ⟨_, (C8.pss_cut (ps_if (PW.pt (pw_and (pt_cmpR op_eq (pe_ix ix_list (pv 0) pe_int (fun _ _ => rfl)) pe_int (nomark _)) (pw_and1 (pt_cmpR op_lt (pe_ix ix_list (pv 0) pe_int (fun _ _ => rfl)) (pe_callB call_len_seq (by rfl) mL PySem.boot_len (pa_cons (pe_ix ix_list (pv 0) pe_int (fun _ _ => rfl)) pa_nil)) (nomark _))))) (pss_cons (ps_set (i := 2) sc__law_draw.nd rfl (.inl rfl) (pe_ix ix_list (pe_ix ix_list (pv 0) pe_int (fun _ _ => rfl)) (pe_ix ix_list (pv 0) pe_int (fun _ _ => rfl)) (fun _ _ => rfl))) (pss_cons (ps_asg (pe_op op_add (pe_ix ix_list (pv 0) pe_int (fun _ _ => rfl)) pe_int) (pg_sub (pv 0) pe_int set_list)) (pss_cons (ps_if (pt_cmpR op_lt (pv 2) (pe_op op_pow pe_int pe_int) (nomark _)) (pss_one (ps_ret (pe_op op_mod (pe_callTy call_int1 (by rfl) mI boot_int (pa_cons (pe_c cM hr (by decide) rfl (pa_cons (pe_op op_mod (pe_callTy call_int1 (by rfl) mI boot_int (pa_cons (pv 2) pa_nil)) pe_int) (pa_cons (pe_ix ix_list (pv 0) pe_int (fun _ _ => rfl)) pa_nil))) pa_nil)) (pv 1)))) pss_nil) (pss_one (ps_asg (pv 2) (pg_sub (pv 0) pe_int set_list)))))) pss_nil)
      (pss_cons (ps_if (pt_cmpR op_gt (pe_ix ix_list (pv 0) pe_int (fun _ _ => rfl)) pe_int (nomark _)) (pss_cons (ps_set (i := 3) sc__law_draw.nd rfl (.inl rfl) (pe_ix ix_list (pv 0) pe_int (fun _ _ => rfl))) (pss_cons (ps_asg (pe_op op_fdivW (pv 3) (pv 1)) (pg_sub (pv 0) pe_int set_list)) (pss_one (ps_ret (pe_op op_mod (pe_callTy call_int1 (by rfl) mI boot_int (pa_cons (pv 3) pa_nil)) (pv 1)))))) pss_nil)
      (pss_cons (ps_asg (pe_op op_mod (pe_callTy call_int1 (by rfl) mI boot_int (pa_cons (pe_op op_add (pe_ix ix_list (pv 0) pe_int (fun _ _ => rfl)) pe_int) pa_nil)) pe_int) (pg_sub (pv 0) pe_int set_list))
      (pss_one (ps_ret (pe_op op_mod (pe_callTy call_int1 (by rfl) mI boot_int (pa_cons (pe_c cM hr (by decide) rfl (pa_cons (pe_ix ix_list (pv 0) pe_int (fun _ _ => rfl)) (pa_cons (pe_ix ix_list (pv 0) pe_int (fun _ _ => rfl)) pa_nil))) pa_nil)) (pv 1))))))), ?_⟩
    obtain ⟨cs, l, h1, h2, hl, h63, hpos⟩ := hh.ex
    have hca := hh.ne
    obtain ⟨i, r, t, rfl, hi, r0, t0, t1⟩ := id hl
    -- behind the first if: slot 0 holds the hand, slot 1 the bound; the hand's list is some l
    refine ⟨fun σ H' => ∃ (l' : List V) (v2 : Option V), σ = [some (.ref a), some (.int m), v2, none] ∧ H' = upd H a (.lst l') ∧ HandL 2147483629 c cs.length l', ?_, ?_⟩
    · have eH : H = upd H a (.lst [.ref c, .int i, .int r, .int t]) := by
        funext b
        by_cases hb : b = a
        · rw [hb, upd_same, h1]
        · rw [upd_ne hb]
      refine ⟨_, rfl, a, _, _, _, rfl, rfl, SqL.of h1, atI_nat (j := 2) rfl, rfl, _, rfl, ite2 (fun e => ?_) (fun e => ?_)⟩
      · refine ⟨_, rfl, a, _, _, _, rfl, rfl, SqL.of h1, atI_nat (j := 1) rfl, _, rfl, a, _, _, _, rfl, rfl, SqL.of h1, atI_nat (j := 0) rfl, c, _, rfl, .inl (SqL.of h2), _, _, rfl, rfl, _, rfl, ?_⟩
        refine ite2 (fun e2 => ?_) (fun e2 => ⟨_, none, rfl, eH, hl⟩)
        have hic : i < cs.length := by
          have z := of_decide_eq_true e2
          rw [List.length_map] at z
          omega
        have r00 : r = 0 := V.int.inj (of_decide_eq_true e)
        have hx : (cs.map V.int)[i]? = some (.int cs[i]) := by
          rw [List.getElem?_map, List.getElem?_eq_getElem hic]
          rfl
        have hx0 : 0 ≤ cs[i] := hpos _ (List.getElem_mem hic)
        -- cell = hand[0][hand[1]]; hand[1] = hand[1] + 1
        refine ⟨_, rfl, a, _, _, _, rfl, rfl, SqL.of h1, atI_nat (j := 0) rfl, _, rfl, a, _, _, _, rfl, rfl, SqL.of h1, atI_nat (j := 1) rfl, c, _, _, _, rfl, rfl, SqL.of h2, atI_nat hx, ?_⟩
        refine ⟨_, rfl, a, _, _, _, rfl, rfl, SqL.of h1, atI_nat (j := 1) rfl, _, _, rfl, rfl, _, rfl, a, _, _, 1, rfl, rfl, h1, rfl, ?_⟩
        have ei : ((i : Int) + 1) = ((i + 1 : Nat) : Int) := by omega
        have hl1 : HandL 2147483629 c cs.length [.ref c, .int ((i : Int) + 1), .int r, .int t] := ⟨i + 1, r, t, by rw [ei], by omega, r0, t0, t1⟩
        have g1 : (upd H a (.lst ([V.ref c, V.int i, V.int r, V.int t].set 1 (.int ((i : Int) + 1))))) a = some (.lst [.ref c, .int ((i : Int) + 1), .int r, .int t]) := upd_same
        -- if cell < 10 ** 18
        refine ⟨_, rfl, _, _, rfl, rfl, ⟨by decide, by decide, by decide⟩, _, _, rfl, rfl, _, rfl, ite2 (fun e3 => ?_) (fun e3 => ?_)⟩
        · refine ⟨_, rfl, .inl ⟨_, rfl, _, _, rfl, rfl, (by show (0 : Int) < 2147483647; decide), _, rfl, a, _, _, _, rfl, rfl, SqL.of g1, atI_nat (j := 1) rfl, _, _, rfl, Int.emod_nonneg _ (by decide), ?_, by omega, by omega, fun v => .inl ⟨_, rfl, _, rfl, _, _, rfl, rfl, m0, ?_⟩⟩⟩
          · have := Int.emod_lt_of_pos cs[i] (show (0 : Int) < 2147483647 by decide)
            omega
          · exact k _ _ (Int.emod_nonneg _ (by omega)) (Int.emod_lt_of_pos _ m0) (Hand.put h2 hca hl1 h63 hpos)
        · refine ⟨_, rfl, _, rfl, a, _, _, 2, rfl, rfl, g1, rfl, ?_⟩
          exact ⟨_, _, rfl, upd_upd, i + 1, cs[i], t, by rw [← ei]; rfl, by omega, hx0, t0, t1⟩
      · exact ⟨_, none, rfl, eH, hl⟩
    · rintro σ H' ⟨l', v2, rfl, rfl, hl'⟩
      obtain ⟨i', r', t', rfl, hi', r0', t0', t1'⟩ := hl'
      have g1 : (upd H a (.lst [V.ref c, V.int i', V.int r', V.int t'])) a = some (.lst [.ref c, .int i', .int r', .int t']) := upd_same
      refine ⟨_, rfl, a, _, _, _, rfl, rfl, SqL.of g1, atI_nat (j := 2) rfl, _, _, rfl, rfl, _, rfl, ite2 (fun e => ?_) (fun e => ?_)⟩
      · -- the rest of a great cell
        refine ⟨_, rfl, a, _, _, _, rfl, rfl, SqL.of g1, atI_nat (j := 2) rfl, ?_⟩
        refine ⟨_, rfl, _, rfl, _, _, rfl, rfl, wide_div m0 m8 (by decide) (by decide), _, rfl, a, _, _, 2, rfl, rfl, g1, rfl, ?_⟩
        refine ⟨_, rfl, .inl ⟨_, rfl, _, rfl, _, _, rfl, rfl, m0, ?_⟩⟩
        rw [upd_upd]
        refine k _ _ (Int.emod_nonneg _ (by omega)) (Int.emod_lt_of_pos _ m0) (Hand.put h2 hca ⟨i', r' / m, t', rfl, hi', Int.ediv_nonneg r0' (by omega), t0', t1'⟩ h63 hpos)
      · refine ⟨_, rfl, a, _, _, _, rfl, rfl, SqL.of g1, atI_nat (j := 3) rfl, _, _, rfl, rfl, .inl ⟨_, rfl, _, _, rfl, rfl, (by show (0 : Int) < 2147483629; decide), _, rfl, a, _, _, 3, rfl, rfl, g1, rfl, ?_⟩⟩
        have g2 : (upd (upd H a (.lst [V.ref c, V.int i', V.int r', V.int t'])) a (.lst ([V.ref c, V.int i', V.int r', V.int t'].set 3 (.int ((t' + 1) % 2147483629))))) a = some (.lst [.ref c, .int i', .int r', .int ((t' + 1) % 2147483629)]) := upd_same
        refine ⟨_, rfl, a, _, _, _, rfl, rfl, SqL.of g2, atI_nat (j := 3) rfl, _, rfl, a, _, _, _, rfl, rfl, SqL.of g2, atI_nat (j := 1) rfl, _, _, rfl, Int.emod_nonneg _ (by decide), ?_, by omega, by omega, fun v => .inl ⟨_, rfl, _, rfl, _, _, rfl, rfl, m0, ?_⟩⟩
        · have := Int.emod_lt_of_pos (t' + 1) (show (0 : Int) < 2147483629 by decide)
          omega
        · rw [upd_upd]
          exact k _ _ (Int.emod_nonneg _ (by omega)) (Int.emod_lt_of_pos _ m0) (Hand.put h2 hca ⟨i', r', _, rfl, hi', r0', Int.emod_nonneg _ (by decide), Int.emod_lt_of_pos _ (by decide)⟩ h63 hpos)
theorem sc__law_hand : FnScope ["_law_script", "_law_total", "_law_k", "_law_cell"] ["_law_script"] (defScope (topS 22)) := ⟨rfl, rfl, rfl, by decide +kernel, rfl, by decide +kernel, by decide +kernel⟩
theorem ok_hand {f : Addr} {fd : FuncData} (F : Fun K "_law_hand" "_law_hand" (topS 22) f fd) (mI : mg "int" = none) (m_enumerate : mg "enumerate" = none) (mA : mg "abs" = none) : FnOk P w K mg base CX0 1 f fd ["_law_script"] (spHand 2147483629 K) := by
  refine F.ok sc__law_hand (fun vs H Q E h => ?_) (fun cdv A outer s H vs Q E hr h => ?_)
  · obtain ⟨a, ns, rfl, _⟩ := h
    rfl
  · obtain ⟨a, ns, rfl, hS, h63, k⟩ := h
    refine ⟨_, (pss_cons (ps_set (i := 1) sc__law_hand.nd rfl (.inl rfl) pe_int)
      (pss_cons (ps_for PassesOwn.never rfl (pi_enum (by rfl) m_enumerate (pa_cons (pv 0) pa_nil)) (pg_tup (by rfl) (pgs_cons (pg_name (i := 2) sc__law_hand.nd rfl (.inl rfl)) (pgs_cons (pg_name (i := 3) sc__law_hand.nd rfl (.inl rfl)) pgs_nil))) (pss_one (ps_set (i := 1) sc__law_hand.nd rfl (.inl rfl) (pe_op op_mod (pe_callTy call_int1 (by rfl) mI boot_int (pa_cons (pe_op op_add (pe_op op_mul (pv 1) pe_int) (pe_op op_mul (pe_callTy call_int1 (by rfl) mI boot_int (pa_cons (pv 3) pa_nil)) (pe_op op_add (pv 2) pe_int))) pa_nil)) pe_int))))
      (pss_one (ps_ret (pe_lst (pa_cons (pe_lc (own := [("_law_cell", 3)]) (g := gName 3) (tt := tYes) rfl sc__law_hand.nd (pi_seq (pv 0)) (blkOk_by (N := ["_law_script", "_law_total", "_law_k", "_law_cell"]) (sc := defScope (topS 22)) (by decide +kernel)) (fun _ _ _ _ _ => pg_name (i := 3) sc__law_hand.nd rfl (Or.inl rfl)) (fun _ _ _ _ _ => pts_nil) (fun _ _ _ _ _ => (pe_callB call_abs (by rfl) mA boot_abs (pa_cons (pe_callTy call_int1 (by rfl) mI boot_int (pa_cons (pv 3) pa_nil)) pa_nil)))) (pa_cons pe_int (pa_cons pe_int (pa_cons (pv 1) pa_nil))))))))), ?_⟩
    have len : (ns.map V.int).length = ns.length := List.length_map ..
    have at_ : ∀ {i : Nat} {x : V}, (ns.map V.int)[i]? = some x → i < ns.length ∧ ∃ z, x = V.int z := by
      intro i x e
      have lt := (List.getElem?_eq_some_iff.mp e).1
      rw [len] at lt
      rw [List.getElem?_map, List.getElem?_eq_getElem lt] at e
      exact ⟨lt, _, (Option.some.inj e).symm⟩
    refine ⟨_, rfl, a, _, rfl, hS, ?_⟩
    refine for_it (walk_enum (K := K) (a := a) (xs := ns.map V.int)) (fun i σ H' => Same H H' ∧ ∃ (t : Int) (v2 v3 : Option V), σ = [some (.ref a), some (.int t), v2, v3] ∧ 0 ≤ t ∧ t < 2147483629) ⟨Same.refl _, 0, _, _, rfl, by decide, by decide⟩ (fun i σ H' _ p => p.1.seq hS) ?_ ?_
    · rintro i x σ H1 H2 hi ⟨s1, t, v2, v3, rfl, t0, t1⟩ ⟨T, x1, x2, rfl, nT, rfl, ea, eb⟩
      have ea := Option.some.inj ea
      subst ea
      obtain ⟨lt, z, rfl⟩ := at_ eb
      have sT := same_upd (o := HO.tup [V.int (i : Nat), V.int z]) nT
      refine ⟨T, [.int (i : Nat), .int z], rfl, SqT.of upd_same, rfl, _, _, rfl, _, _, rfl, rfl, ?_⟩
      refine ⟨_, rfl, _, _, rfl, rfl, .inr (by decide), ?_⟩
      refine ⟨_, rfl, .inl ⟨_, rfl, _, rfl, _, _, rfl, rfl, _, _, rfl, rfl, .inr ⟨by omega, by omega⟩, _, _, rfl, rfl, .inl ⟨_, rfl, _, _, rfl, rfl, (by show (0 : Int) < 2147483629; decide), ?_⟩⟩⟩
      exact ⟨s1.trans sT, _, _, _, rfl, Int.emod_nonneg _ (by decide), Int.emod_lt_of_pos _ (by decide)⟩
    · rintro σ H1 ⟨s1, t, v2, v3, rfl, t0, t1⟩
      dsimp only [tRet, tLst, tCons]
      refine lcMap (f := fun x => match x with | .int z => .int (if z < 0 then -z else z) | x => x) (by rfl) (.inl (s1.seq hS)) (by rw [len]; exact Nat.le_of_lt (small1000 (by omega))) (by intro _; rfl) (fun x hx H2 R s2 kR => ?_) (fun D H2 s2 nD hD => ?_)
      · obtain ⟨z, _, rfl⟩ := List.mem_map.mp hx
        exact ⟨_, rfl, .inl ⟨_, rfl, _, rfl, kR _ (Same.refl _)⟩⟩
      · refine ⟨_, rfl, (by show 4 ≤ sizeLine; decide), fun p np => ?_⟩
        have npc : D ≠ p := ne_of_none hD np
        have eD : (ns.map V.int).map (fun x => match x with | .int z => .int (if z < 0 then -z else z) | x => x) = (ns.map fun z => if z < 0 then -z else z).map V.int := by
          rw [List.map_map, List.map_map]
          rfl
        rw [eD] at hD
        have s12 := s1.trans s2
        refine k p D _ (s12.trans (same_upd np)) (s12.free np) (s1.free nD) ⟨ns.map fun z => if z < 0 then -z else z, _, upd_same, by rw [upd_ne npc]; exact hD, ⟨0, 0, t, rfl, Nat.zero_le _, by decide, t0, t1⟩, by rw [List.length_map]; exact h63, ?_⟩
        intro x hx
        obtain ⟨z, _, rfl⟩ := List.mem_map.mp hx
        split <;> omega
end
end My
set_option Elab.async false
set_option linter.all false
set_option maxRecDepth 100000
set_option maxHeartbeats 4000000
namespace My
open PySem PySem.Spec PyProof.Rows L2
/-! ### the heap without the hand's list -/
def off (H : Hp) (a : Addr) : Hp := fun b => if b = a then none else H b
theorem off_ne {H : Hp} {a b : Addr} (h : b ≠ a) : off H a b = H b := if_neg h
theorem off_self {H : Hp} {a : Addr} : off H a a = none := if_pos rfl
theorem off_same {H : Hp} {a : Addr} : Same (off H a) H := fun b o e => by
  by_cases h : b = a
  · rw [h, off_self] at e
    cases e
  · rw [off_ne h] at e
    exact e
theorem off_keep {H H' : Hp} {a : Addr} (s : Same H H') : Same (off H a) (off H' a) := fun b o e => by
  by_cases h : b = a
  · rw [h, off_self] at e
    cases e
  · rw [off_ne h] at e ⊢
    exact s _ _ e
theorem off_put {H : Hp} {a : Addr} {o : HO} : off (upd H a o) a = off H a := by
  funext b
  by_cases h : b = a
  · rw [h, off_self, off_self]
  · rw [off_ne h, off_ne h, upd_ne h]
theorem off_at {H : Hp} {a b : Addr} {o : HO} (h : off H a b = some o) : H b = some o ∧ b ≠ a := by
  by_cases e : b = a
  · rw [e, off_self] at h
    cases h
  · rw [off_ne e] at h
    exact ⟨h, e⟩
abbrev MH : Int := 2147483629
/-- ready for a def of the law that draws -/
theorem Hand.some {H : Hp} {a c : Addr} (h : Hand MH H a c) : ∃ l, H a = some (.lst l) := by
  obtain ⟨cs, l, e, _⟩ := h.ex
  exact ⟨l, e⟩
theorem Hand.new {H : Hp} {a c p : Addr} (h : Hand MH H a c) (n : H p = none) : p ≠ a := fun z => by
  obtain ⟨l, e⟩ := h.some
  rw [z, e] at n
  cases n
/-- f(hand): what is given satisfies R over the heap without the hand's list, where nothing that stood is lost -/
def After (a c : Addr) (H : Hp) (R : Hp → V → Prop) (Q : VK) : Prop := ∀ (v : V) (H' : Hp), Hand MH H' a c → Same (off H a) (off H' a) → R (off H' a) v → Q v H'
theorem rd_draw {a c : Addr} {H : Hp} {m : Int} {Q : VK} {E : XK} (h : Hand MH H a c) (m0 : 0 < m) (m8 : m.natAbs < 2 ^ 8000) (q : ∀ (v : Int) (H' : Hp), 0 ≤ v → v < m → Hand MH H' a c → off H' a = off H a → Q (.int v) H') : spDraw MH [.ref a, .int m] H Q E :=
  ⟨a, c, m, rfl, h, m0, m8, fun v l v0 v1 h' => q v _ v0 v1 h' off_put⟩
theorem small8000 {m : Int} (h0 : 0 ≤ m) (h : m < 2 ^ 64) : m.natAbs < 2 ^ 8000 := by
  have h1 : m.natAbs < 2 ^ 64 := by omega
  exact lt8000 h1
/-! ### the promises of the law's small defs -/
/-- exact(told, due), both stand for the same data without lists -/
def spExact (K : PySem.W.Frag) (n : Nat) : Sp := fun vs H Q _ => ∃ (x y : V) (d : PyData), vs = [x, y] ∧ Dp K H x d ∧ Dp K H y d ∧ tupD d = true ∧ dep d ≤ n ∧ ∀ H', Same H H' → Q (.bl true) H'
/-- .. within an except suite: plain things, nothing is made -/
def spExact0 : Sp := fun vs H Q _ => ∃ x : V, vs = [x, x] ∧ flatV x = true ∧ Q (.bl true) H
def spTake (K : PySem.W.Frag) : Sp := fun vs H Q _ => ∃ (a c p : Addr) (xs : List V), vs = [.ref a, .ref p] ∧ Hand MH H a c ∧ off H a p = some (.lst xs) ∧
  After a c H (fun G v => ∃ q, v = .ref q ∧ (G q = some (.lst xs) ∨ G q = some (.tup xs))) Q
def spVal : Sp := fun vs H Q _ => ∃ (a c : Addr), vs = [.ref a] ∧ Hand MH H a c ∧ After a c H (fun _ v => ∃ z : Int, v = .int z ∧ 0 ≤ z ∧ z ≤ 1000000000) Q
/-- ascending values, at most eight -/
def Asc (ns : List Int) : Prop := ns.Pairwise (· < ·) ∧ ns.length ≤ 8 ∧ ∀ n ∈ ns, 0 ≤ n ∧ n ≤ 1000000000
def spNamed (K : PySem.W.Frag) : Sp := fun vs H Q _ => ∃ (a c p : Addr), vs = [.ref a, .int 8, .ref p] ∧ Hand MH H a c ∧ off H a p = some (.lst []) ∧
  After a c H (fun G v => ∃ q ns, v = .ref q ∧ G q = some (.lst (ns.map V.int)) ∧ Asc ns) Q
def spSort (K : PySem.W.Frag) : Sp := fun vs H Q _ => ∃ (p : Addr) (ns : List Int) (m v : Int), vs = [.ref p, .int m, .int v] ∧ SqL K H p (ns.map V.int) ∧ 0 < m ∧ Q (.int (place ns m v)) H
def spKind (K : PySem.W.Frag) : Sp := fun vs H Q _ => ∃ (p r q : Addr) (ns : List Int) (m t : Int) (us : List Int), vs = [.ref p, .int m, .ref r] ∧ SqL K H p (ns.map V.int) ∧ 0 < m ∧ SqT K H r [.int t, .ref q] ∧ SqT K H q (us.map V.int) ∧ us.length ≤ 1000 ∧
  ∀ b H', Same H H' → Dp K H' (.ref b) (.tuple [.int t, .tuple ((us.map (place ns m)).map PyData.int)]) → Q (.ref b) H'
section
variable {P : Program} {w : World} {K : PySem.W.Frag} {mg : Str → Option Value} {base : Heap}
theorem sc__law_take : FnScope ["_law_hand_here", "_law_rows"] ["_law_hand_here", "_law_rows"] (defScope (topS 25)) := ⟨rfl, rfl, rfl, by decide +kernel, rfl, by decide +kernel, by decide +kernel⟩
theorem ok_take {f : Addr} {fd : FuncData} (F : L2.Fun K "_law_take" "_law_take" (topS 25) f fd) (cD : Cal P w K mg base 2 "_law_draw" (spDraw MH)) (m_list : mg "list" = none) (m_tuple : mg "tuple" = none) : FnOk P w K mg base CX0 3 f fd ["_law_hand_here", "_law_rows"] (spTake K) := by
  refine F.ok sc__law_take (fun vs H Q E h => ?_) (fun cdv A outer s0 H vs Q E hr h => ?_)
  · obtain ⟨a, c, p, xs, rfl, _⟩ := h
    rfl
  · obtain ⟨a, c, p, xs, rfl, hh, hp, q⟩ := h
    refine ⟨_, (pss_one (ps_ret (pe_ifExp (pt_cmpR op_eq (pe_c cD hr (by decide) rfl (pa_cons (pv 0) (pa_cons pe_int pa_nil))) pe_int (nomark _)) (pe_callTy call_list_of (by rfl) m_list (by decide +kernel) (pa_cons (pv 1) pa_nil)) (pe_callTy call_tuple_of (by rfl) m_tuple (by decide +kernel) (pa_cons (pv 1) pa_nil))))), ?_⟩
    refine ⟨_, rfl, a, c, _, rfl, hh, (by decide), (small8000 (by decide) (by decide)), fun v1 l1 v1a v1b h1 => ?_⟩
    generalize e1 : upd H a (.lst l1) = H1 at h1 ⊢
    have o1 : off H1 a = off H a := by
      rw [← e1]
      exact off_put
    clear e1
    refine ⟨rfl, _, rfl, ?_⟩
    have hp1 : H1 p = some (.lst xs) := (off_at (by rw [o1]; exact hp)).1
    have new : ∀ (o : HO) (l : Addr), H1 l = none → (o = .lst xs ∨ o = .tup xs) → Q (.ref l) (upd H1 l o) := fun o l nl ho => by
      have ne := h1.new nl
      refine q _ _ (h1.keep (same_upd nl)) (by rw [← o1]; exact off_keep (same_upd nl)) ⟨l, rfl, ?_⟩
      rw [off_ne ne, upd_same]
      exact ho.imp (fun z => by rw [z]) (fun z => by rw [z])
    by_cases e : v1 = 0
    · subst e
      exact iteT ⟨_, rfl, p, xs, rfl, .inl (SqL.of hp1), fun l nl => new _ l nl (.inl rfl)⟩
    · have ne : decide (V.int v1 = V.int 0) = false := decide_eq_false fun z => e (V.int.inj z)
      rw [ne]
      exact iteF ⟨_, rfl, p, xs, rfl, .inl ⟨SqL.of hp1, fun l nl => new _ l nl (.inr rfl)⟩⟩
theorem sc__law_value : FnScope ["_law_hand_here", "_law_way"] ["_law_hand_here"] (defScope (topS 26)) := ⟨rfl, rfl, rfl, by decide +kernel, rfl, by decide +kernel, by decide +kernel⟩
theorem ok_value {f : Addr} {fd : FuncData} (F : L2.Fun K "_law_value" "_law_value" (topS 26) f fd) (cD : Cal P w K mg base 2 "_law_draw" (spDraw MH)) : FnOk P w K mg base CX0 3 f fd ["_law_hand_here"] spVal := by
  refine F.ok sc__law_value (fun vs H Q E h => ?_) (fun cdv A outer s0 H vs Q E hr h => ?_)
  · obtain ⟨a, c, rfl, _⟩ := h
    rfl
  · obtain ⟨a, c, rfl, hh, q⟩ := h
    refine ⟨_, (pss_cons (ps_set (i := 1) sc__law_value.nd rfl (.inl rfl) (pe_c cD hr (by decide) rfl (pa_cons (pv 0) (pa_cons pe_int pa_nil))))
      (pss_cons (ps_if (pt_cmpR op_lt (pv 1) pe_int (nomark _)) (pss_one (ps_ret (pe_c cD hr (by decide) rfl (pa_cons (pv 0) (pa_cons pe_int pa_nil))))) pss_nil)
      (pss_cons (ps_if (pt_cmpR op_eq (pv 1) pe_int (nomark _)) (pss_one (ps_ret (pe_c cD hr (by decide) rfl (pa_cons (pv 0) (pa_cons pe_int pa_nil))))) pss_nil)
      (pss_one (ps_ret (pe_ifExp (pt_cmpR op_eq (pv 1) pe_int (nomark _)) (pe_c cD hr (by decide) rfl (pa_cons (pv 0) (pa_cons (pe_op op_add (pe_op op_pow pe_int pe_int) pe_int) pa_nil))) (pe_op op_sub (pe_op op_pow pe_int pe_int) (pe_c cD hr (by decide) rfl (pa_cons (pv 0) (pa_cons pe_int pa_nil)))))))))), ?_⟩
    have m0 : ∀ {m : Int}, 0 < m → m < 2 ^ 64 → m.natAbs < 2 ^ 8000 := fun h0 h => small8000 (by omega) h
    have fin : ∀ (H1 H2 : Hp) (z : Int), off H1 a = off H a → off H2 a = off H1 a → Hand MH H2 a c → 0 ≤ z → z ≤ 1000000000 → Q (.int z) H2 := fun H1 H2 z o1 o2 h2 z0 z1 => q _ H2 h2 (by rw [o2, o1]; exact Same.refl _) ⟨z, rfl, z0, z1⟩
    refine ⟨_, rfl, a, c, _, rfl, hh, (by decide), (small8000 (by decide) (by decide)), fun v1 l1 v1a v1b h1 => ?_⟩
    generalize e1 : upd H a (.lst l1) = H1 at h1 ⊢
    have o1 : off H1 a = off H a := by
      rw [← e1]
      exact off_put
    clear e1
    refine ⟨_, rfl, _, _, rfl, rfl, _, rfl, ite2 (fun e => ?_) (fun e => ?_)⟩
    · refine ⟨_, rfl, a, c, _, rfl, h1, (by decide), (small8000 (by decide) (by decide)), fun v2 l2 v2a v2b h2 => ?_⟩
      generalize e2 : upd H1 a (.lst l2) = H2 at h2 ⊢
      have o2 : off H2 a = off H1 a := by
        rw [← e2]
        exact off_put
      clear e2

      exact fin H1 H2 v2 o1 o2 h2 v2a (by omega)
    · refine ⟨_, rfl, rfl, _, rfl, ite2 (fun e => ?_) (fun e => ?_)⟩
      · refine ⟨_, rfl, a, c, _, rfl, h1, (by decide), (small8000 (by decide) (by decide)), fun v2 l2 v2a v2b h2 => ?_⟩
        generalize e2 : upd H1 a (.lst l2) = H2 at h2 ⊢
        have o2 : off H2 a = off H1 a := by
          rw [← e2]
          exact off_put
        clear e2
        exact fin H1 H2 v2 o1 o2 h2 v2a (by omega)
      · refine ⟨_, rfl, rfl, _, rfl, ite2 (fun e => ?_) (fun e => ?_)⟩
        · refine ⟨_, rfl, _, _, rfl, rfl, ⟨by decide, by decide, by decide⟩, _, _, rfl, rfl, ?_⟩
          refine ⟨a, c, _, rfl, h1, (by show (0 : Int) < 10 ^ 9 + 1; decide), (small8000 (by show (0 : Int) ≤ 10 ^ 9 + 1; decide) (by show (10 ^ 9 + 1 : Int) < 2 ^ 64; decide)), fun v2 l2 v2a v2b h2 => ?_⟩
          generalize e2 : upd H1 a (.lst l2) = H2 at h2 ⊢
          have o2 : off H2 a = off H1 a := by
            rw [← e2]
            exact off_put
          clear e2
          exact fin H1 H2 v2 o1 o2 h2 v2a (by have : v2 < (10 : Int) ^ 9 + 1 := v2b; omega)
        · refine ⟨_, _, rfl, rfl, ⟨by decide, by decide, by decide⟩, ?_⟩
          refine ⟨_, rfl, a, c, _, rfl, h1, (by decide), (small8000 (by decide) (by decide)), fun v2 l2 v2a v2b h2 => ?_⟩
          generalize e2 : upd H1 a (.lst l2) = H2 at h2 ⊢
          have o2 : off H2 a = off H1 a := by
            rw [← e2]
            exact off_put
          clear e2
          exact ⟨_, _, rfl, rfl, fin H1 H2 _ o1 o2 h2 (by show (0 : Int) ≤ 10 ^ 9 - v2; omega) (by show (10 : Int) ^ 9 - v2 ≤ 1000000000; omega)⟩
end
end My
set_option Elab.async false
set_option linter.all false
set_option maxRecDepth 100000
set_option maxHeartbeats 4000000
namespace My
open PySem PySem.Spec PyProof.Rows L2
/-- [k for k in range(n) if not t] where t is always true: the empty list -/
theorem lcNone {tt : TT} {te : TE} {ta : TA} {i : Nat} {vs : List Nat} {σ : L2.St} {H : Hp} {n : Nat} {Q : VK} (hz : n ≤ 1000)
    (hr : ∀ R : List V → Hp → Prop, R [.int (n : Int)] H → ta σ H R)
    (hw : ∀ x, wipe ((wipe σ vs).set i (some x)) vs = wipe σ vs)
    (ht : ∀ (k : Nat) (H' : Hp) (R : Bool → Hp → Prop), k < n → Same H H' → (∀ H'', Same H' H'' → R false H'') → tt ((wipe σ vs).set i (some (.int (k : Nat)))) H' R)
    (hq : ∀ (D : Addr) (H' : Hp), Same H H' → H D = none → H' D = some (.lst []) → Q (.ref D) H') : tLc (iRng1 ta) (gName i) tt te vs σ H Q := by
  refine hr _ ⟨(n : Int), rfl, by omega, by omega, fun D nD => lc_range (lo := 0) (n := n) (fun k H' => Same H H' ∧ H' D = some (.lst [])) ⟨same_upd nD, upd_same⟩ ?_ fun H' p => hq D H' p.1 nD p.2⟩
  rintro k H' hk ⟨s1, hD⟩
  refine ⟨hw _, ?_⟩
  have e0 : (0 : Int) + (k : Int) = (k : Int) := Int.zero_add _
  rw [e0]
  refine ht k H' _ hk s1 fun H2 s2 => ?_
  rw [if_neg (by decide)]
  exact ⟨s1.trans s2, s2 _ _ hD⟩
section
variable {P : Program} {w : World} {K : PySem.W.Frag} {mg : Str → Option Value} {base : Heap}
theorem sc__law_exact : FnScope ["_law_told", "_law_due", "_law_k"] ["_law_told", "_law_due"] (defScope (topS 24)) := ⟨rfl, rfl, rfl, by decide +kernel, rfl, by decide +kernel, by decide +kernel⟩
theorem exact_flat {X : Cx} {σ : L2.St} : True := trivial
theorem ok_exact {f : Addr} {fd : FuncData} (F : Fun K "_law_exact" "_law_exact" (topS 24) f fd) (mf : mg "_law_exact" = some (.ref f)) (b : Binds K fd ["_law_told", "_law_due"] []) (m_isinstance : mg "isinstance" = none) (m_int : mg "int" = none) (m_bool : mg "bool" = none) (m_str : mg "str" = none) (m_tuple : mg "tuple" = none) (m_len : mg "len" = none) (m_range : mg "range" = none) : ∀ n : Nat, FnOk P w K mg base CX0 (n + 1) f fd ["_law_told", "_law_due"] (spExact K n) := by
  intro n
  induction n with
  | zero =>
    refine F.ok sc__law_exact (fun vs H Q E h => ?_) (fun cdv A outer s H vs Q E hr h => ?_)
    · obtain ⟨x, y, d, rfl, _⟩ := h
      rfl
    · obtain ⟨x, y, d, rfl, hx, hy, ht, hn, q⟩ := h
      refine ⟨_, (pss_cons (ps_if (pt_val (pe_callB call_isi (by rfl) m_isinstance (by decide +kernel) (pa_cons (pv 1) (pa_cons (pe_bltn (v := .ty "tuple") (by rfl) m_tuple (by decide +kernel) rfl) pa_nil)))) pss_never pss_nil)
      (pss_cons (ps_if (pt_cmpR op_isN (pv 1) pe_non (nomark _)) (pss_one (ps_ret (pe_cmpR op_isN (pv 0) pe_non (nomark _)))) pss_nil)
      (pss_cons (ps_if (pt_val (pe_callB call_isi (by rfl) m_isinstance (by decide +kernel) (pa_cons (pv 1) (pa_cons (pe_bltn (v := .ty "bool") (by rfl) m_bool (by decide +kernel) rfl) pa_nil)))) (pss_one (ps_ret (pe_ifExp (pt_truth (pv 1) (by intro _; rfl)) (pe_cmpR op_isBl (pv 0) pe_bl (nomark _)) (pe_cmpR op_isBl (pv 0) pe_bl (nomark _))))) pss_nil)
      (pss_cons (ps_if (pt_val (pe_callB call_isi (by rfl) m_isinstance (by decide +kernel) (pa_cons (pv 1) (pa_cons (pe_bltn (v := .ty "str") (by rfl) m_str (by decide +kernel) rfl) pa_nil)))) (pss_one (ps_ret (pe_and (pe_callB call_isi (by rfl) m_isinstance (by decide +kernel) (pa_cons (pv 0) (pa_cons (pe_bltn (v := .ty "str") (by rfl) m_str (by decide +kernel) rfl) pa_nil))) (pe_one (pe_cmpR op_eq (pv 0) (pv 1) (nomark _)))))) pss_nil)
      (pss_one (ps_ret (pe_and (pe_callB call_isi (by rfl) m_isinstance (by decide +kernel) (pa_cons (pv 0) (pa_cons (pe_bltn (v := .ty "int") (by rfl) m_int (by decide +kernel) rfl) pa_nil))) (pe_and (pe_not (pe_callB call_isi (by rfl) m_isinstance (by decide +kernel) (pa_cons (pv 0) (pa_cons (pe_bltn (v := .ty "bool") (by rfl) m_bool (by decide +kernel) rfl) pa_nil)))) (pe_one (pe_cmpR op_eq (pv 0) (pv 1) (nomark _))))))))))), ?_⟩
      refine ⟨_, rfl, _, _, _, _, _, rfl, .ty "tuple", dp_ty hy, kit_dTuple d, _, rfl, ?_⟩
      cases d with
      | list ds => rw [tupD] at ht; cases ht
      | dict ds => rw [tupD] at ht; cases ht
      | tuple ds => rw [dep] at hn; omega
      | none =>
        cases hx
        cases hy
        exact iteF ⟨_, rfl, rfl, _, rfl, iteT ⟨_, rfl, rfl, q _ (Same.refl _)⟩⟩
      | bool v =>
        cases hx
        cases hy
        refine iteF ⟨_, rfl, rfl, _, rfl, iteF ⟨_, rfl, _, _, _, _, true, rfl, .ty "bool", .base (.bl v), kit_ty (by decide +kernel), _, rfl, iteT ?_⟩⟩
        refine ⟨_, rfl, _, rfl, ?_⟩
        cases v with
        | true => exact iteT ⟨_, rfl, _, _, rfl, rfl, q _ (Same.refl _)⟩
        | false => exact iteF ⟨_, rfl, _, _, rfl, rfl, q _ (Same.refl _)⟩
      | str v =>
        cases hx
        cases hy
        refine iteF ⟨_, rfl, rfl, _, rfl, iteF ⟨_, rfl, _, _, _, _, false, rfl, .ty "bool", .base (.str v), kit_ty (by decide +kernel), _, rfl, iteF ?_⟩⟩
        refine ⟨_, rfl, _, _, _, _, true, rfl, .ty "str", .base (.str v), kit_ty (by decide +kernel), _, rfl, iteT ?_⟩
        refine ⟨_, rfl, _, _, _, _, true, rfl, .ty "str", .base (.str v), kit_ty (by decide +kernel), _, rfl, iteT ?_⟩
        refine ⟨_, rfl, _, rfl, by simp [scal], ?_⟩
        rw [decide_eq_true rfl]
        exact q _ (Same.refl _)
      | int v =>
        cases hx
        cases hy
        refine iteF ⟨_, rfl, rfl, _, rfl, iteF ⟨_, rfl, _, _, _, _, false, rfl, .ty "bool", .base (.int v), kit_ty (by decide +kernel), _, rfl, iteF ?_⟩⟩
        refine ⟨_, rfl, _, _, _, _, false, rfl, .ty "str", .base (.int v), kit_ty (by decide +kernel), _, rfl, iteF ?_⟩
        refine ⟨_, rfl, _, _, _, _, true, rfl, .ty "int", .base (.int v), kit_ty (by decide +kernel), _, rfl, iteT ?_⟩
        refine ⟨_, rfl, _, _, _, _, false, rfl, .ty "bool", .base (.int v), kit_ty (by decide +kernel), _, rfl, _, rfl, iteT ?_⟩
        refine ⟨_, rfl, _, rfl, by simp [scal], ?_⟩
        rw [decide_eq_true rfl]
        exact q _ (Same.refl _)
  | succ n ih =>
    have cI : Cal P w K mg base (n + 1) "_law_exact" (spExact K n) := ⟨⟨f, fd, _, ih, mf, F.kp, b⟩⟩
    refine F.ok sc__law_exact (fun vs H Q E h => ?_) (fun cdv A outer s H vs Q E hr h => ?_)
    · obtain ⟨x, y, d, rfl, _⟩ := h
      rfl
    · obtain ⟨x, y, d, rfl, hx, hy, ht, hn, q⟩ := h
      refine ⟨_, (pss_cons (ps_if (pt_val (pe_callB call_isi (by rfl) m_isinstance (by decide +kernel) (pa_cons (pv 1) (pa_cons (pe_bltn (v := .ty "tuple") (by rfl) m_tuple (by decide +kernel) rfl) pa_nil)))) (pss_cons (ps_if (PW.pt (pw_or (pt_not (pt_val (pe_callB call_isi (by rfl) m_isinstance (by decide +kernel) (pa_cons (pv 0) (pa_cons (pe_bltn (v := .ty "tuple") (by rfl) m_tuple (by decide +kernel) rfl) pa_nil))))) (pw_or1 (pt_cmpR op_ne (pe_callB call_len_seq (by rfl) m_len PySem.boot_len (pa_cons (pv 0) pa_nil)) (pe_callB call_len_seq (by rfl) m_len PySem.boot_len (pa_cons (pv 1) pa_nil)) (nomark _))))) (pss_one (ps_ret pe_bl)) pss_nil) (pss_one (ps_ret (pe_cmpR (op_eqD hr.units) (pe_lc (own := [("_law_k", 2)]) (g := gName 2) rfl sc__law_exact.nd (pi_range1 (by rfl) m_range (pa_cons (pe_callB call_len_seq (by rfl) m_len PySem.boot_len (pa_cons (pv 1) pa_nil)) pa_nil)) (blkOk_by (N := ["_law_told", "_law_due", "_law_k"]) (sc := defScope (topS 24)) (by decide +kernel)) (fun _ _ _ _ _ => pg_name (i := 2) sc__law_exact.nd rfl (Or.inl rfl)) (fun _ _ _ _ _ => (pts_one (pt_not (pt_val (pe_c cI hr (Nat.le_refl _) rfl (pa_cons (pe_ix (show IxR _ (rIxT K) from ix_tup) (pv 0) (pv 2) (fun _ _ => rfl)) (pa_cons (pe_ix (show IxR _ (rIxT K) from ix_tup) (pv 1) (pv 2) (fun _ _ => rfl)) pa_nil))))))) (fun _ _ _ _ _ => (pv 2))) (pe_lst pa_nil) (nomark _))))) pss_nil)
      (pss_cons (ps_if (pt_cmpR op_isN (pv 1) pe_non (nomark _)) (pss_one (ps_ret (pe_cmpR op_isN (pv 0) pe_non (nomark _)))) pss_nil)
      (pss_cons (ps_if (pt_val (pe_callB call_isi (by rfl) m_isinstance (by decide +kernel) (pa_cons (pv 1) (pa_cons (pe_bltn (v := .ty "bool") (by rfl) m_bool (by decide +kernel) rfl) pa_nil)))) (pss_one (ps_ret (pe_ifExp (pt_truth (pv 1) (by intro _; rfl)) (pe_cmpR op_isBl (pv 0) pe_bl (nomark _)) (pe_cmpR op_isBl (pv 0) pe_bl (nomark _))))) pss_nil)
      (pss_cons (ps_if (pt_val (pe_callB call_isi (by rfl) m_isinstance (by decide +kernel) (pa_cons (pv 1) (pa_cons (pe_bltn (v := .ty "str") (by rfl) m_str (by decide +kernel) rfl) pa_nil)))) (pss_one (ps_ret (pe_and (pe_callB call_isi (by rfl) m_isinstance (by decide +kernel) (pa_cons (pv 0) (pa_cons (pe_bltn (v := .ty "str") (by rfl) m_str (by decide +kernel) rfl) pa_nil))) (pe_one (pe_cmpR op_eq (pv 0) (pv 1) (nomark _)))))) pss_nil)
      (pss_one (ps_ret (pe_and (pe_callB call_isi (by rfl) m_isinstance (by decide +kernel) (pa_cons (pv 0) (pa_cons (pe_bltn (v := .ty "int") (by rfl) m_int (by decide +kernel) rfl) pa_nil))) (pe_and (pe_not (pe_callB call_isi (by rfl) m_isinstance (by decide +kernel) (pa_cons (pv 0) (pa_cons (pe_bltn (v := .ty "bool") (by rfl) m_bool (by decide +kernel) rfl) pa_nil)))) (pe_one (pe_cmpR op_eq (pv 0) (pv 1) (nomark _))))))))))), ?_⟩
      refine ⟨_, rfl, _, _, _, _, _, rfl, .ty "tuple", dp_ty hy, kit_dTuple d, _, rfl, ?_⟩
      cases d with
      | list ds => rw [tupD] at ht; cases ht
      | dict ds => rw [tupD] at ht; cases ht
      | tuple ds =>
        refine iteT ?_
        rw [tupD, Bool.and_eq_true] at ht
        obtain ⟨t1, t2⟩ := ht
        have few := of_decide_eq_true t1
        rw [dep] at hn
        refine ⟨_, rfl, _, _, _, _, _, rfl, .ty "tuple", dp_ty hx, kit_dTuple _, _, rfl, iteF ?_⟩
        cases hx with
        | @tup a xs _ hs hall =>
          cases hy with
          | @tup b ys _ hs' hall' =>
            have lx := dpAll_len hall
            have ly := dpAll_len hall'
            refine ⟨_, rfl, a, _, rfl, .inr hs, _, rfl, b, _, rfl, .inr hs', rfl, ?_⟩
            have e0 : decide (V.int (xs.length : Int) = V.int (ys.length : Int)) = true := decide_eq_true (by rw [lx, ly])
            rw [e0]
            refine ⟨_, rfl, iteF ?_⟩
            dsimp only [tNext, tRet, tOp]
            refine lcNone (n := ds.length) (by omega) (fun R h => ⟨_, rfl, b, _, rfl, .inr hs', by rw [ly]; exact h⟩) (by intro _; rfl) (fun k H' R hk s1 kR => ?_) (fun D H' s1 nD hD => ?_)
            · have ed := List.getElem?_eq_getElem hk
              obtain ⟨x, ex, hx⟩ := dpAll_getD (dpAll_keep s1 _ _ hall) ed
              obtain ⟨y, ey, hy⟩ := dpAll_getD (dpAll_keep s1 _ _ hall') ed
              have md := List.getElem_mem hk
              refine ⟨_, rfl, _, rfl, a, _, _, _, rfl, rfl, seqT_keep hs s1, atI_nat ex, _, rfl, _, rfl, b, _, _, _, rfl, rfl, seqT_keep hs' s1, atI_nat ey, x, y, _, rfl, hx, hy, tupDs_mem t2 md, ?_, fun H2 s2 => ⟨_, rfl, kR _ s2⟩⟩
              have := depAll_mem md
              omega
            · refine ⟨Nat.zero_le _, fun l nl => ⟨.list [], .list [], .lst (SqL.of (same_upd nl _ _ hD)) .nil, .lst (SqL.of upd_same) .nil, by decide +kernel, by decide +kernel, ?_⟩⟩
              exact q _ (s1.trans (same_upd nl))
      | none =>
        cases hx
        cases hy
        exact iteF ⟨_, rfl, rfl, _, rfl, iteT ⟨_, rfl, rfl, q _ (Same.refl _)⟩⟩
      | bool v =>
        cases hx
        cases hy
        refine iteF ⟨_, rfl, rfl, _, rfl, iteF ⟨_, rfl, _, _, _, _, true, rfl, .ty "bool", .base (.bl v), kit_ty (by decide +kernel), _, rfl, iteT ?_⟩⟩
        refine ⟨_, rfl, _, rfl, ?_⟩
        cases v with
        | true => exact iteT ⟨_, rfl, _, _, rfl, rfl, q _ (Same.refl _)⟩
        | false => exact iteF ⟨_, rfl, _, _, rfl, rfl, q _ (Same.refl _)⟩
      | str v =>
        cases hx
        cases hy
        refine iteF ⟨_, rfl, rfl, _, rfl, iteF ⟨_, rfl, _, _, _, _, false, rfl, .ty "bool", .base (.str v), kit_ty (by decide +kernel), _, rfl, iteF ?_⟩⟩
        refine ⟨_, rfl, _, _, _, _, true, rfl, .ty "str", .base (.str v), kit_ty (by decide +kernel), _, rfl, iteT ?_⟩
        refine ⟨_, rfl, _, _, _, _, true, rfl, .ty "str", .base (.str v), kit_ty (by decide +kernel), _, rfl, iteT ?_⟩
        refine ⟨_, rfl, _, rfl, by simp [scal], ?_⟩
        rw [decide_eq_true rfl]
        exact q _ (Same.refl _)
      | int v =>
        cases hx
        cases hy
        refine iteF ⟨_, rfl, rfl, _, rfl, iteF ⟨_, rfl, _, _, _, _, false, rfl, .ty "bool", .base (.int v), kit_ty (by decide +kernel), _, rfl, iteF ?_⟩⟩
        refine ⟨_, rfl, _, _, _, _, false, rfl, .ty "str", .base (.int v), kit_ty (by decide +kernel), _, rfl, iteF ?_⟩
        refine ⟨_, rfl, _, _, _, _, true, rfl, .ty "int", .base (.int v), kit_ty (by decide +kernel), _, rfl, iteT ?_⟩
        refine ⟨_, rfl, _, _, _, _, false, rfl, .ty "bool", .base (.int v), kit_ty (by decide +kernel), _, rfl, _, rfl, iteT ?_⟩
        refine ⟨_, rfl, _, rfl, by simp [scal], ?_⟩
        rw [decide_eq_true rfl]
        exact q _ (Same.refl _)
end
end My
set_option Elab.async false
set_option linter.all false
set_option maxRecDepth 100000
set_option maxHeartbeats 4000000
namespace My
open PySem PySem.Spec PyProof.Rows L2 L2H
section
variable {P : Program} {w : World} {K : PySem.W.Frag} {mg : Str → Option Value} {base : Heap}
theorem hand_put {H : Hp} {a c D : Addr} {o : HO} (h : Hand MH H a c) (ne : D ≠ a) (nc : D ≠ c) : Hand MH (upd H D o) a c := by
  obtain ⟨cs, l, h1, h2, r⟩ := h.ex
  exact ⟨cs, l, by rw [upd_ne (Ne.symm ne)]; exact h1, by rw [upd_ne (Ne.symm nc)]; exact h2, r⟩
theorem Hand.newC {H : Hp} {a c p : Addr} (h : Hand MH H a c) (n : H p = none) : p ≠ c := fun z => by
  obtain ⟨cs, l, h1, h2, r⟩ := h.ex
  rw [z, h2] at n
  cases n
theorem ok_exactH {f : Addr} {fd : FuncData} (F : L2.Fun K "_law_exact" "_law_exact" (topS 24) f fd) (m_isinstance : mg "isinstance" = none) (m_int : mg "int" = none) (m_bool : mg "bool" = none) (m_str : mg "str" = none) (m_tuple : mg "tuple" = none) : FnH P w K mg base CX0 1 f fd ["_law_told", "_law_due"] spExact0 := by
  obtain ⟨oc, od, kV, doc, pm, an, cdv, ct, osl, rfl, lk, hcd⟩ := F.ex
  refine fn_ofH lk hcd sc__law_exact (fun vs H Q E h => ?_) fun A outer s H vs Q E p hot hr h => ?_
  · obtain ⟨x, rfl, _⟩ := h
    rfl
  · obtain ⟨x, rfl, hx, q⟩ := h
    refine ⟨_, (pss_cons (ps_if (pt_val (pe_callB call_isi (by rfl) m_isinstance (by decide +kernel) (pa_cons (pv 1) (pa_cons (pe_bltn (v := .ty "tuple") (by rfl) m_tuple (by decide +kernel) rfl) pa_nil)))) pss_never pss_nil)
      (pss_cons (ps_if (pt_cmpR op_isN (pv 1) pe_non (nomark _)) (pss_one (ps_ret (pe_cmpR op_isN (pv 0) pe_non (nomark _)))) pss_nil)
      (pss_cons (ps_if (pt_val (pe_callB call_isi (by rfl) m_isinstance (by decide +kernel) (pa_cons (pv 1) (pa_cons (pe_bltn (v := .ty "bool") (by rfl) m_bool (by decide +kernel) rfl) pa_nil)))) (pss_one (ps_ret (pe_ifExp (pt_truth (pv 1) (by intro _; rfl)) (pe_cmpR op_isBl (pv 0) pe_bl (nomark _)) (pe_cmpR op_isBl (pv 0) pe_bl (nomark _))))) pss_nil)
      (pss_cons (ps_if (pt_val (pe_callB call_isi (by rfl) m_isinstance (by decide +kernel) (pa_cons (pv 1) (pa_cons (pe_bltn (v := .ty "str") (by rfl) m_str (by decide +kernel) rfl) pa_nil)))) (pss_one (ps_ret (pe_and (pe_callB call_isi (by rfl) m_isinstance (by decide +kernel) (pa_cons (pv 0) (pa_cons (pe_bltn (v := .ty "str") (by rfl) m_str (by decide +kernel) rfl) pa_nil))) (pe_one (pe_cmpR op_eq (pv 0) (pv 1) (nomark _)))))) pss_nil)
      (pss_one (ps_ret (pe_and (pe_callB call_isi (by rfl) m_isinstance (by decide +kernel) (pa_cons (pv 0) (pa_cons (pe_bltn (v := .ty "int") (by rfl) m_int (by decide +kernel) rfl) pa_nil))) (pe_and (pe_not (pe_callB call_isi (by rfl) m_isinstance (by decide +kernel) (pa_cons (pv 0) (pa_cons (pe_bltn (v := .ty "bool") (by rfl) m_bool (by decide +kernel) rfl) pa_nil)))) (pe_one (pe_cmpR op_eq (pv 0) (pv 1) (nomark _))))))))))), ?_⟩
    cases x with
    | non => exact ⟨_, rfl, _, _, _, _, false, rfl, .ty "tuple", .base .non, kit_ty (by decide +kernel), _, rfl, iteF ⟨_, rfl, rfl, _, rfl, iteT ⟨_, rfl, rfl, q⟩⟩⟩
    | bl v =>
      refine ⟨_, rfl, _, _, _, _, false, rfl, .ty "tuple", .base (.bl v), kit_ty (by decide +kernel), _, rfl, iteF ⟨_, rfl, rfl, _, rfl, iteF ⟨_, rfl, _, _, _, _, true, rfl, .ty "bool", .base (.bl v), kit_ty (by decide +kernel), _, rfl, iteT ?_⟩⟩⟩
      refine ⟨_, rfl, _, rfl, ?_⟩
      cases v with
      | true => exact iteT ⟨_, rfl, _, _, rfl, rfl, q⟩
      | false => exact iteF ⟨_, rfl, _, _, rfl, rfl, q⟩
    | str v =>
      refine ⟨_, rfl, _, _, _, _, false, rfl, .ty "tuple", .base (.str v), kit_ty (by decide +kernel), _, rfl, iteF ⟨_, rfl, rfl, _, rfl, iteF ⟨_, rfl, _, _, _, _, false, rfl, .ty "bool", .base (.str v), kit_ty (by decide +kernel), _, rfl, iteF ?_⟩⟩⟩
      refine ⟨_, rfl, _, _, _, _, true, rfl, .ty "str", .base (.str v), kit_ty (by decide +kernel), _, rfl, iteT ?_⟩
      refine ⟨_, rfl, _, _, _, _, true, rfl, .ty "str", .base (.str v), kit_ty (by decide +kernel), _, rfl, iteT ?_⟩
      refine ⟨_, rfl, _, rfl, by simp [scal], ?_⟩
      rw [decide_eq_true rfl]
      exact q
    | int v =>
      refine ⟨_, rfl, _, _, _, _, false, rfl, .ty "tuple", .base (.int v), kit_ty (by decide +kernel), _, rfl, iteF ⟨_, rfl, rfl, _, rfl, iteF ⟨_, rfl, _, _, _, _, false, rfl, .ty "bool", .base (.int v), kit_ty (by decide +kernel), _, rfl, iteF ?_⟩⟩⟩
      refine ⟨_, rfl, _, _, _, _, false, rfl, .ty "str", .base (.int v), kit_ty (by decide +kernel), _, rfl, iteF ?_⟩
      refine ⟨_, rfl, _, _, _, _, true, rfl, .ty "int", .base (.int v), kit_ty (by decide +kernel), _, rfl, iteT ?_⟩
      refine ⟨_, rfl, _, _, _, _, false, rfl, .ty "bool", .base (.int v), kit_ty (by decide +kernel), _, rfl, _, rfl, iteT ?_⟩
      refine ⟨_, rfl, _, rfl, by simp [scal], ?_⟩
      rw [decide_eq_true rfl]
      exact q
    | _ => cases hx
theorem sc__law_named : FnScope ["_law_hand_here", "_law_most", "_law_pool", "_law_told", "_law_k"] ["_law_hand_here", "_law_most", "_law_pool"] (defScope (topS 27)) := ⟨rfl, rfl, rfl, by decide +kernel, rfl, by decide +kernel, by decide +kernel⟩
theorem ok_named {f : Addr} {fd : FuncData} (F : L2.Fun K "_law_named" "_law_named" (topS 27) f fd) (cD : Cal P w K mg base 2 "_law_draw" (spDraw MH)) (cV : Cal P w K mg base 3 "_law_value" spVal) (m_len : mg "len" = none) (m_range : mg "range" = none) (m_sorted : mg "sorted" = none) (m_set : mg "set" = none) : FnOk P w K mg base CX0 4 f fd ["_law_hand_here", "_law_most", "_law_pool"] (spNamed K) := by
  refine F.ok sc__law_named (fun vs H Q E h => ?_) (fun cdv A outer s0 H vs Q E hr h => ?_)
  · obtain ⟨a, c, p, rfl, _⟩ := h
    rfl
  · obtain ⟨a, c, p, rfl, hh, hp, q⟩ := h
    refine ⟨_, (pss_cons (ps_set (i := 3) sc__law_named.nd rfl (.inl rfl) (pe_lst pa_nil))
      (pss_cons (ps_for PassesOwn.never rfl (pi_range1 (by rfl) m_range (pa_cons (pe_c cD hr (by decide) rfl (pa_cons (pv 0) (pa_cons (pe_op op_add (pv 1) pe_int) pa_nil))) pa_nil)) (pg_name (i := 4) sc__law_named.nd rfl (.inl rfl)) (pss_one (ps_expr (pe_bm PySem.F.plainAttrs_list PySem.F.slot_list_append PySem.F.type_list_append mt_append (pv 3) (pa_cons (pe_ifExp (PW.pt (pw_and (pt_truth (pv 2) (by intro _; rfl)) (pw_and1 (pt_cmpR op_eq (pe_c cD hr (by decide) rfl (pa_cons (pv 0) (pa_cons pe_int pa_nil))) pe_int (nomark _))))) (pe_ix ix_list (pv 2) (pe_c cD hr (by decide) rfl (pa_cons (pv 0) (pa_cons (pe_callB call_len_seq (by rfl) m_len PySem.boot_len (pa_cons (pv 2) pa_nil)) pa_nil))) (fun _ _ => rfl)) (pe_c cV hr (by decide) rfl (pa_cons (pv 0) pa_nil))) pa_nil)))))
      (pss_one (ps_ret (pe_callB (cr_sortedSet rfl) (by rfl) m_sorted (by decide +kernel) (pa_cons (pe_callTy (cr_setL rfl) (by rfl) m_set (by decide +kernel) (pa_cons (pv 3) pa_nil)) pa_nil)))))), ?_⟩
    refine ⟨Nat.zero_le _, fun D nD => ?_⟩
    generalize e0 : upd H D _ = H0
    have s0 := gs e0 nD
    have hD0 := ga e0
    clear e0
    have neD : D ≠ a := hh.new nD
    have ncD : D ≠ c := hh.newC nD
    have hh0 := hh.keep s0
    refine ⟨_, rfl, _, rfl, _, _, rfl, rfl, a, c, _, rfl, hh0, (by show (0 : Int) < 8 + 1; decide), (small8000 (by show (0 : Int) ≤ 8 + 1; decide) (by show (8 + 1 : Int) < 2 ^ 64; decide)), fun v1 l1 v1a v1b h1 => ?_⟩
    generalize e1 : upd H0 a (.lst l1) = H1 at h1 ⊢
    have o1 : off H1 a = off H0 a := by
      rw [← e1]
      exact off_put
    clear e1
    refine ⟨v1, rfl, by omega, by omega, ?_⟩
    have s1 : Same (off H a) (off H1 a) := by
      rw [o1]
      exact off_keep s0
    have hD1 : off H1 a D = some (.lst []) := by
      rw [o1, off_ne neD]
      exact hD0
    refine for_range (lo := 0) (n := v1.toNat) (fun i σ H' => Hand MH H' a c ∧ Same (off H a) (off H' a) ∧ (∃ v4, σ = [some (.ref a), some (.int 8), some (.ref p), some (.ref D), v4]) ∧ ∃ ns : List Int, off H' a D = some (.lst (ns.map V.int)) ∧ ns.length = i ∧ ∀ n ∈ ns, 0 ≤ n ∧ n ≤ 1000000000) ⟨h1, s1, ⟨_, rfl⟩, [], hD1, rfl, by simp⟩ ?_ ?_
    · rintro i σ H2 hi ⟨h2, s2, ⟨v4, rfl⟩, ns, hD2, ln, hv⟩
      have hD2' := (off_at hD2).1
      refine ⟨_, rfl, .inl ⟨rfl, _, SqL.of hD2'⟩, ?_⟩
      refine ⟨_, rfl, _, .inl ⟨[], SqL.of (off_at (s2 _ _ hp)).1, rfl⟩, iteF (iteF ?_)⟩
      refine ⟨_, rfl, a, c, rfl, h2, fun v H3 h3 o3 hz => ?_⟩
      obtain ⟨z, rfl, z0, z1⟩ := hz
      have hD3 := o3 _ _ hD2
      refine ⟨D, _, _, rfl, rfl, (off_at hD3).1, small1000 (by rw [List.length_map]; omega), ?_⟩
      have ll : Hand MH (upd H3 D (.lst (ns.map V.int ++ [V.int z]))) a c := hand_put h3 neD ncD
      refine ⟨ll, fun b o e => ?_, ⟨_, rfl⟩, ns ++ [z], ?_, by rw [List.length_append, ln]; rfl, ?_⟩
      · have nb : b ≠ D := fun y => by rw [y, off_ne neD, nD] at e; cases e
        have e3 := o3 _ _ (s2 _ _ e)
        have na := (off_at e3).2
        rw [off_ne na, upd_ne nb]
        exact (off_at e3).1
      · rw [off_ne neD, upd_same, List.map_append]
        rfl
      · intro n hn
        rcases List.mem_append.mp hn with y | y
        · exact hv n y
        · rw [List.mem_singleton.mp y]
          exact ⟨z0, z1⟩
    · rintro σ H2 ⟨h2, s2, ⟨v4, rfl⟩, ns, hD2, ln, hv⟩
      have few : ns.length ≤ 8 := by omega
      refine ⟨_, rfl, D, ns, rfl, SqL.of (off_at hD2).1, by omega, fun S cn nS hc => ?_⟩
      refine ⟨S, _, cn, rfl, upd_same, by omega, fun ms L pw mem len nL => ?_⟩
      have sL : Same H2 (upd (upd H2 S (SetO w S (fun j => decide (j ∈ ns)) cn)) L (.lst (ms.map V.int))) := (same_upd nS).trans (same_upd nL)
      have neL : L ≠ a := (h2.keep (same_upd nS)).new nL
      refine q _ _ (h2.keep sL) (s2.trans (off_keep sL)) ⟨L, ms, rfl, by rw [off_ne neL, upd_same], pw, by omega, fun n hn => hv n (of_decide_eq_true ((mem n).mp hn))⟩
end
end My
set_option Elab.async false
set_option linter.all false
set_option maxRecDepth 100000
set_option maxHeartbeats 4000000
namespace My
open PySem PySem.Spec PyProof.Rows L2
/-! ### a caught exception asked for its class -/
def rIsX (K : PySem.W.Frag) (a : Addr) (cls : Value) (d : Option Addr) : List V → Hp → VK → Prop := fun xs H Q => ∃ (D : Addr) (c : V) (u : Value) (b : Bool) (dd : Addr) (fs : List (Str × V)), xs = [.ref a, c] ∧ cls = .ref D ∧ ExT K D ∧ d = some dd ∧ H dd = some (.xd fs) ∧ ClsV c u ∧ PySem.W.kitOne K (.ref D) u = some b ∧ Q (.bl b) H
theorem call_isX {X : Cx} {a : Addr} {oe : Obj} {cls : Value} {d : Option Addr} {pn : List (Addr × Obj)} (hz : Zc cls d oe) (hf : ∃ vs, oe.data = .fields vs) : CallR (X.suite a ((a, oe) :: pn)) (.builtin "isinstance") (rIsX X.K a cls d) := by
  rintro pins s σ H xs us Q I r ⟨D, c, u, b, dd, fs, rfl, rfl, T, rfl, hd, k, e, q⟩
  obtain ⟨u1, u2, rfl, r1, r2⟩ := vals2 r
  have e2 := k.eq r2
  subst e2
  obtain rfl : u1 = Value.ref a := r1
  obtain ⟨at_, _⟩ := I.pin (a, oe) (List.mem_append_left _ List.mem_cons_self)
  obtain ⟨vs, dat⟩ := hf
  obtain ⟨mA, hns, _⟩ := (show ObjOk X.prog X.w H s.heap dd (.xd fs) from I.hok dd _ hd)
  obtain ⟨od, ho, _⟩ := lookIn_ns hns
  have J : PySem.W.InstAt s.heap a oe D (some od) := ⟨at_, hz.1, by unfold PySem.W.notCls; rw [dat] <;> rfl, by rw [hz.2]; exact ho⟩
  exact PySem.W.kia_one (PySem.W.kitx_exc T.isc T.atr T.atg T.o.exC T.cl T.gt T.tk T.ob) I.kIn J e (fun z => nomatch z) fun tk => ⟨.bl b, H, I.tok tk, rfl, q⟩
theorem in_yes (v : Int) (ns : List Int) : (if false = true then !inV (.int v) (ns.map V.int) else inV (.int v) (ns.map V.int)) = decide (v ∈ ns) := by
  rw [if_neg (fun z => nomatch z)]
  exact inV_ints v ns
theorem in_not (v : Int) (ns : List Int) : (if true = true then !inV (.int v) (ns.map V.int) else inV (.int v) (ns.map V.int)) = !decide (v ∈ ns) := by
  rw [if_pos rfl, inV_ints v ns]
theorem first_at : ∀ {ns : List Int} {v : Int}, v ∈ ns → ∃ j : Nat, ns[j]? = some v ∧ ∀ i : Nat, i < j → ns[i]? ≠ some v
  | n :: ns, v, h => by
    by_cases e : n = v
    · exact ⟨0, by rw [e]; rfl, fun i hi => by omega⟩
    · rcases List.mem_cons.mp h with z | z
      · exact absurd z.symm e
      · obtain ⟨j, h1, h2⟩ := first_at z
        refine ⟨j + 1, h1, fun i hi => ?_⟩
        match i, hi with
        | 0, _ => exact fun z => e (Option.some.inj z)
        | i + 1, hi => exact h2 i (by omega)
theorem eqV_refl (v : Int) : eqV (.int v) (.int v) = true := by simp [eqV]
theorem eqV_ne {u v : Int} (h : u ≠ v) : eqV (.int u) (.int v) = false := by simp [eqV, h]
theorem tyV_list {K : PySem.W.Frag} {H : Hp} {p : Addr} {xs : List V} (h : SqL K H p xs) : tyV K "list" (.ref p) H := .inl ⟨rfl, xs, h⟩
/-! ### made -/
structure MkS (P : Program) (w : World) (K : PySem.W.Frag) (mg : Str → Option Value) (base : Heap) (C B : Addr) : Prop where
  ex : ∃ (fI : Addr) (fd : FuncData) (ps : List Str), Mk K C fI ∧ FnOk P w K mg base (L2N.CX P w) 11 fI fd ps (spSorts K C B) ∧ Binds K fd ps [] ∧ mg "Sorts" = some (.ref C)
def madeOk (ns : List Int) (m : Int) : PyData := .tuple [.str "made", .tuple (ns.map .int), .int m, .int ((ns.length : Int) + m)]
def madeBad (what : Str) : PyData := .tuple [.str "bad", .str what]
def spMade (K : PySem.W.Frag) : Sp := fun vs H Q _ => ∃ (x y : V) (o : Option (List V)), vs = [x, y] ∧ SeqIn K H x o ∧ (∃ ty, TyOf K H y (.type ty)) ∧
  ((∃ (ns : List Int) (m : Int), o = some (ns.map V.int) ∧ okN o = true ∧ y = .int m ∧ 1 ≤ m ∧ m ≤ 6 ∧ ∀ p H', Same H H' → Dp K H' (.ref p) (madeOk ns m) → Q (.ref p) H') ∨
   (okN o = false ∧ ∀ p H', Same H H' → Dp K H' (.ref p) (madeBad "named") → Q (.ref p) H') ∨
   (okN o = true ∧ wholeV y (some 1) (some 6) = false ∧ ∀ p H', Same H H' → Dp K H' (.ref p) (madeBad "modulus") → Q (.ref p) H'))
theorem SeqIn.keep {K : PySem.W.Frag} {H H' : Hp} {x : V} {o : Option (List V)} (h : SeqIn K H x o) (s : Same H H') : SeqIn K H' x o := by
  cases o with
  | none =>
    obtain ⟨t, tx, nt⟩ := h
    exact ⟨t, TyOf.keep tx s, nt⟩
  | some xs =>
    obtain ⟨a, t, e, tx, et, hs, few, fl⟩ := h
    exact ⟨a, t, e, TyOf.keep tx s, et, hs.keep s, few, fl⟩
section
variable {P : Program} {w : World} {K : PySem.W.Frag} {mg : Str → Option Value} {base : Heap} {C : Addr}
theorem sc__law_sort : FnScope ["_law_named_here", "_law_modulus", "_law_value_here"] ["_law_named_here", "_law_modulus", "_law_value_here"] (defScope (topS 28)) := ⟨rfl, rfl, rfl, by decide +kernel, rfl, by decide +kernel, by decide +kernel⟩
theorem ok_sort {f : Addr} {fd : FuncData} (F : L2.Fun K "_law_sort" "_law_sort" (topS 28) f fd) (m_len : mg "len" = none) (m_int : mg "int" = none) : FnOk P w K mg base CX0 1 f fd ["_law_named_here", "_law_modulus", "_law_value_here"] (spSort K) := by
  refine F.ok sc__law_sort (fun vs H Q E h => ?_) (fun cdv A outer s0 H vs Q E hr h => ?_)
  · obtain ⟨p, ns, m, v, rfl, _⟩ := h
    rfl
  · obtain ⟨p, ns, m, v, rfl, hp, m0, q⟩ := h
    refine ⟨_, (pss_one (ps_ret (pe_ifExp (pt_cmpR op_in_seq (pv 2) (pv 0) (by rfl)) (pe_bm PySem.F.plainAttrs_list PySem.F.slot_list_index PySem.F.type_list_index mt_index (pv 0) (pa_cons (pv 2) pa_nil)) (pe_op op_add (pe_callB call_len_seq (by rfl) m_len PySem.boot_len (pa_cons (pv 0) pa_nil)) (pe_op op_modN (pe_callTy call_int1 (by rfl) m_int boot_int (pa_cons (pv 2) pa_nil)) (pv 1)))))), ?_⟩
    have len : (ns.map V.int).length = ns.length := List.length_map ..
    refine ⟨_, rfl, _, rfl, p, _, rfl, .inl hp, rfl, ints_flat ns, _, congrArg V.bl (in_yes v ns), ?_⟩
    by_cases h : v ∈ ns
    · rw [decide_eq_true h]
      obtain ⟨j, hj, hno⟩ := first_at h
      have hl := (List.getElem?_eq_some_iff.mp hj).1
      refine iteT ⟨_, rfl, ?_⟩
      refine ⟨tyV_list hp, _, rfl, p, _, _, j, .int v, rfl, rfl, hp, rfl, ints_flat ns, by rw [List.getElem?_map, hj]; rfl, eqV_refl v, fun i z hi ez => ?_, ?_⟩
      · rw [List.getElem?_map] at ez
        have hi' : i < ns.length := by omega
        rw [List.getElem?_eq_getElem hi'] at ez
        have ez' : V.int ns[i] = z := Option.some.inj ez
        subst ez'
        exact eqV_ne fun y => hno i hi (by rw [List.getElem?_eq_getElem hi', y])
      · have e := placeN_at m ns 0 j v hj hno
        rw [Nat.zero_add] at e
        show Q (.int (j : Nat)) H
        rw [← e]
        exact q
    · rw [decide_eq_false h]
      refine iteF ⟨_, rfl, p, _, rfl, .inl hp, _, rfl, .inl ⟨_, rfl, _, rfl, _, _, rfl, rfl, by omega, _, _, rfl, rfl, ?_⟩⟩
      have e := placeN_not m ns 0 v h
      rw [Nat.zero_add] at e
      rw [len, Int.fmod_eq_emod_of_nonneg _ (Int.le_of_lt m0)]
      show Q (.int ((ns.length : Int) + v % m)) H
      have e' : (ns.length : Int) + v % m = place ns m v := e.symm
      rw [e']
      exact q
theorem sc__law_kind : FnScope ["_law_named_here", "_law_modulus", "_law_row", "_law_value_here"] ["_law_named_here", "_law_modulus", "_law_row"] (defScope (topS 29)) := ⟨rfl, rfl, rfl, by decide +kernel, rfl, by decide +kernel, by decide +kernel⟩
theorem ok_kind {f : Addr} {fd : FuncData} (F : L2.Fun K "_law_kind" "_law_kind" (topS 29) f fd) (cS : Cal P w K mg base 1 "_law_sort" (spSort K)) (m_tuple : mg "tuple" = none) : FnOk P w K mg base CX0 2 f fd ["_law_named_here", "_law_modulus", "_law_row"] (spKind K) := by
  refine F.ok sc__law_kind (fun vs H Q E h => ?_) (fun cdv A outer s0 H vs Q E hr h => ?_)
  · obtain ⟨p, r, q, ns, m, t, us, rfl, _⟩ := h
    rfl
  · obtain ⟨p, r, b, ns, m, t, us, rfl, hp, m0, hr1, hb, few, q⟩ := h
    refine ⟨_, (pss_one (ps_ret (pe_tup (pa_cons (pe_ix ix_tup (pv 2) pe_int (fun _ _ => rfl)) (pa_cons (pe_callTy call_tuple_of (by rfl) m_tuple (by decide +kernel) (pa_cons (pe_lc (own := [("_law_value_here", 3)]) (g := gName 3) (tt := tYes) rfl sc__law_kind.nd (pi_seq (pe_ix ix_tup (pv 2) pe_int (fun _ _ => rfl))) (blkOk_by (N := ["_law_named_here", "_law_modulus", "_law_row", "_law_value_here"]) (sc := defScope (topS 29)) (by decide +kernel)) (fun _ _ _ _ _ => pg_name (i := 3) sc__law_kind.nd rfl (Or.inl rfl)) (fun _ _ _ _ _ => pts_nil) (fun _ _ _ _ _ => (pe_c cS hr (by decide) rfl (pa_cons (pv 0) (pa_cons (pv 1) (pa_cons (pv 3) pa_nil)))))) pa_nil)) pa_nil))))), ?_⟩
    refine ⟨_, rfl, r, _, _, _, rfl, rfl, hr1, atI_nat (j := 0) rfl, ?_⟩
    dsimp only [tCB, tCons, tNil]
    refine lcDg (a := b) (ds := us.map PyData.int) (g := fun d => match d with | .int v => .int (place ns m v) | d => d) (fun R h => ⟨_, rfl, r, _, _, _, rfl, rfl, hr1, atI_nat (j := 1) rfl, h⟩) (.inr hb) (by rw [List.length_map]; exact Nat.le_of_lt (small1000 few)) dpAll_ints (fun d hd => ?_) (by intro _; rfl) (fun x d hd H2 R s2 hx kR => ?_) (fun D ys H2 s2 nD hD hys => ?_)
    · obtain ⟨v, _, rfl⟩ := List.mem_map.mp hd
      rfl
    · obtain ⟨v, _, rfl⟩ := List.mem_map.mp hd
      cases hx
      exact ⟨_, rfl, _, rfl, _, rfl, p, ns, m, v, rfl, s2.seq hp, m0, kR _ _ (Same.refl _) (.int _)⟩
    · refine ⟨D, ys, rfl, .inl ⟨SqL.of hD, fun l nl => ⟨(by show 2 ≤ sizeLine; decide), fun z nz => ?_⟩⟩⟩
      refine q z _ ((s2.trans (same_upd nl)).trans (same_upd nz)) (.tup (SqT.of upd_same) (.cons (.int t) (.cons (.tup (seqT_keep (SqT.of upd_same) (same_upd nz)) ?_) .nil)))
      rw [List.map_map] at hys
      rw [List.map_map]
      exact dpAll_keep ((same_upd nl).trans (same_upd nz)) _ _ hys
end
end My
set_option Elab.async false
set_option linter.all false
set_option maxRecDepth 100000
set_option maxHeartbeats 4000000
namespace My
open PySem PySem.Spec PyProof.Rows L2
/-- sort_of and value_of as methods that may raise -/
structure MtS (P : Program) (w : World) (K : PySem.W.Frag) (mg : Str → Option Value) (base : Heap) (C : Addr) (m : Str) (sp : Sp) (ds : List V) : Prop where
  ex : ∃ (f : Addr) (fd : FuncData) (ps : List Str) (us : List Value), Meth K C m f ∧ FnOk P w K mg base (L2N.CX P w) 11 f fd ps sp ∧ Binds K fd ps us ∧ Vals ds us
theorem pe_mtX {X : Cx} {C : Addr} {m : Str} {sp : Sp} {ds : List V} {W : WX} {j : Nat} {o e : Expr} {es : List Expr} {ta : TE} {t : TA} {apos pos : Pos} (c : MtS X.prog X.w X.K X.mg X.base C m sp ds) (cl : Cls X.K C) (tk : L2N.Takes X W) (hr : Room j X.A) (hj : 11 ≤ j) (he : PE X o ta) (ha : PA X (e :: es) t) {pl : Sem Bool}
    (h1 : starEach (e :: es) X.env = (false, eval e X.env) :: starEach es X.env := by rfl) (h2 : (backTo pos (starEach es X.env)).any (·.1) = false := by rfl)
    (h3 : eval (.Call (.Attribute o m apos) (e :: es) [] pos) X.env = (do
      let ov ← eval o X.env
      standAt apos.atName
      let (f, first) ← holding [ov] (getMethod ov m pl)
      callWith pos f first (backTo pos (starEach (e :: es) X.env)) (backToKw pos (keywordEach [] X.env))) := by rfl) : PE X (.Call (.Attribute o m apos) (e :: es) [] pos) (tMtS C m sp ds (WE W) ta t) := by
  obtain ⟨f, fd, ps, us, hm, F, b, v⟩ := c.ex
  exact pe_mtS (pl := pl) he cl hm F (hr.mono hj) b v (fun σ => L2N.passAt tk σ) ha h1 h2 h3
theorem pe_mkX {X : Cx} {C B : Addr} {W : WX} {j : Nat} {e : Expr} {es : List Expr} {t : TA} {p pos : Pos} (c : MkS X.prog X.w X.K X.mg X.base C B) (tk : L2N.Takes X W) (hr : Room j X.A) (hj : 12 ≤ j) (hg : Gl X "Sorts") (ha : PA X (e :: es) t)
    (h1 : starEach (e :: es) X.env = (false, eval e X.env) :: starEach es X.env := by rfl) (h2 : (backTo pos (starEach es X.env)).any (·.1) = false := by rfl) : PE X (.Call (.Name "Sorts" p) (e :: es) [] pos) (tMkS C (spSorts X.K C B) (WE W) t) := by
  obtain ⟨fI, fd, ps, M, F, b, g⟩ := c.ex
  exact pe_mkS M F (hr.mono hj) hg g b (fun σ => L2N.passAt tk σ) ha (by decide) h1 h2
/-- a raise that is never met -/
theorem takesF {X : Cx} : L2N.Takes X (fun _ _ _ _ => False) := takes0N
/-- what an except clause asks: this class is caught by that one -/
def Caught (K : PySem.W.Frag) (D C : Addr) (b : Bool) : Prop := PySem.W.exmOne K (.ref D) (.ref C) = some b
def askedD (ns : List Int) (m : Int) (x : V) (d : PyData) : PyData := match x with
  | .int v => if 0 ≤ v ∧ v ≤ 1000000000 then .int (place ns m v) else .tuple [.str "no value", d]
  | _ => .tuple [.str "no value", d]
/-- sort_of, asked for a thing that is no value -/
def spAsked (K : PySem.W.Frag) (C : Addr) : Sp := fun vs H Q _ => ∃ (s : Addr) (ns : List Int) (m : Int) (x : V) (d : PyData), vs = [.ref s, x] ∧ SoAt K C H s ns m ∧ 0 < m ∧ Dp K H x d ∧ tupD d = true ∧ dep d ≤ 6 ∧ (∃ t, TyOf K H x (.type t)) ∧ valueV x = false ∧
  ∀ p H', Same H H' → Dp K H' (.ref p) (.tuple [.str "no value", d]) → Q (.ref p) H'
section
variable {P : Program} {w : World} {K : PySem.W.Frag} {mg : Str → Option Value} {base : Heap} {C : Addr}
theorem sc__law_made : FnScope ["_law_named_here", "_law_modulus", "raised", "_law_made_here"] ["_law_named_here", "_law_modulus"] (defScope (topS 30)) := ⟨rfl, rfl, rfl, by decide +kernel, rfl, by decide +kernel, by decide +kernel⟩
theorem ok_made {f : Addr} {fd : FuncData} (F : L2.Fun K "_law_made" "_law_made" (topS 30) f fd) {B : Addr} (S : SoC K C) (M : MkS P w K mg base C B) (PM : PropM P w K mg base C) (RB : Err P w K mg base "BadSorts" B "what") (hB : Caught K B B true) : FnOk P w K mg base CX0 13 f fd ["_law_named_here", "_law_modulus"] (spMade K) := by
  refine F.ok sc__law_made (fun vs H Q E h => ?_) (fun cdv A outer s0 H vs Q E hr h => ?_)
  · obtain ⟨x, y, o, rfl, _⟩ := h
    rfl
  · obtain ⟨x, y, o, rfl, ho, hy, h⟩ := h
    refine ⟨_, (pss_one (L2N.ps_try_as (i := 2) rfl rfl sc__law_made.nd rfl rfl ⟨rfl, by decide, .inl RB.gx⟩ takesF (fun W pn xe tk _ => (pss_cons (ps_set (i := 3) sc__law_made.nd rfl (.inl rfl) (show PE _ _ (tMkS C (spSorts K C B) (WE W) _) from pe_mkX M tk hr (by decide) (by rfl) (pa_cons (pv 0) (pa_cons (pv 1) pa_nil)))) (pss_one (ps_ret (pe_tup (pa_cons pe_str (pa_cons (show PE _ _ (tFld K (tVar 3) "named") from pe_fld (pv 3) rfl) (pa_cons (show PE _ _ (tFld K (tVar 3) "modulus") from pe_fld (pv 3) rfl) (pa_cons (show PE _ _ (tProp C (spMany K C) [] E0 (tVar 3)) from pe_many PM S hr (by decide) (pv 3)) pa_nil))))))))) (fun a oe cls d pn hz hf => (pss_one (ps_ret (pe_tup (pa_cons pe_str (pa_cons (pe_xf RB.xf RB.nf hz.zc hf (pv 2)) pa_nil)))))))), ?_⟩
    refine ⟨_, rfl, _, rfl, fun s dx ns nd ne => ?_⟩
    generalize eJ : upd (upd H dx _) s _ = J
    have aJ : J s = some (.ins C dx []) := by rw [← eJ, upd_same]
    have sJ : Same H J := by
      rw [← eJ]
      exact (same_upd nd).trans (same_upd (by rw [upd_ne (Ne.symm ne)]; exact ns))
    clear eJ
    refine ⟨s, dx, x, y, o, rfl, aJ, ho.keep sJ, hy.imp fun _ h => TyOf.keep h sJ, fun xs eo hN hM t H1 kp es ht => ⟨rfl, ?_⟩, fun hN dd H1 s1 ndd ed => ?_, fun hN hM dd H1 s1 ndd ed => ?_⟩
    · subst eo
      rcases h with ⟨is, m, e, _, rfl, m1, m6, q⟩ | ⟨hF, _⟩ | ⟨_, hF, _⟩
      · have e' : xs = is.map V.int := Option.some.inj e
        subst e'
        have sH : Same H H1 := fun b u e => kp b u (sJ _ _ e) (fun z => by rw [z] at e; rw [ns] at e; cases e)
        refine ⟨_, rfl, s, C, dx, _, _, rfl, es, S.i.cl, S.n1, rfl, ?_⟩
        refine ⟨_, rfl, s, C, dx, _, _, rfl, es, S.i.cl, S.n2, rfl, ?_⟩
        refine ⟨_, rfl, s, dx, _, rfl, es, s, is, m, rfl, ⟨dx, t, es, ht⟩, (by show 4 ≤ sizeLine; decide), fun p np => ?_⟩
        exact q p _ (sH.trans (same_upd np)) (.tup (SqT.of upd_same) (.cons (.str _) (.cons (.tup (seqT_keep ht (same_upd np)) dpAll_ints) (.cons (.int m) (.cons (.int _) .nil)))))
      · rw [hN] at hF; cases hF
      · rw [hM] at hF; cases hF
    · refine ⟨true, hB, fun _ a na => ?_, fun z => nomatch z⟩
      rcases h with ⟨is, m, e, hF, _⟩ | ⟨_, q⟩ | ⟨hF, _⟩
      · rw [hN] at hF; cases hF
      · refine ⟨_, rfl, rfl, rfl, dd, _, _, rfl, ed, rfl, (by show 2 ≤ sizeLine; decide), fun p np => ?_⟩
        exact q p _ ((sJ.trans s1).trans (same_upd np)) (.tup (SqT.of upd_same) (.cons (.str _) (.cons (.str _) .nil)))
      · rw [hN] at hF; cases hF
    · refine ⟨true, hB, fun _ a na => ?_, fun z => nomatch z⟩
      rcases h with ⟨is, m, e, _, rfl, m1, m6, _⟩ | ⟨hF, _⟩ | ⟨_, _, q⟩
      · have hT : wholeV (.int m) (some 1) (some 6) = true := by
          show (decide ((1 : Int) ≤ m) && decide (m ≤ 6)) = true
          rw [decide_eq_true m1, decide_eq_true m6]
          rfl
        rw [hM] at hT; cases hT
      · rw [hN] at hF; cases hF
      · refine ⟨_, rfl, rfl, rfl, dd, _, _, rfl, ed, rfl, (by show 2 ≤ sizeLine; decide), fun p np => ?_⟩
        exact q p _ ((sJ.trans s1).trans (same_upd np)) (.tup (SqT.of upd_same) (.cons (.str _) (.cons (.str _) .nil)))
theorem sc__law_sort_asked : FnScope ["_law_sorts", "_law_value_here", "raised"] ["_law_sorts", "_law_value_here"] (defScope (topS 33)) := ⟨rfl, rfl, rfl, by decide +kernel, rfl, by decide +kernel, by decide +kernel⟩
theorem ok_asked {f : Addr} {fd : FuncData} (F : L2.Fun K "_law_sort_asked" "_law_sort_asked" (topS 33) f fd) {BV : Addr} (S : SoC K C) (M : MtS P w K mg base C "sort_of" (spSortOf K C BV) []) (RV : Err P w K mg base "BadValue" BV "value") (hB : Caught K BV BV true) : FnOk P w K mg base CX0 13 f fd ["_law_sorts", "_law_value_here"] (spAsked K C) := by
  refine F.ok sc__law_sort_asked (fun vs H Q E h => ?_) (fun cdv A outer s0 H vs Q E hr h => ?_)
  · obtain ⟨s, ns, m, x, d, rfl, _⟩ := h
    rfl
  · obtain ⟨s, ns, m, x, d, rfl, hs, m0, hd, ht, hn, tx, hv, q⟩ := h
    refine ⟨_, (pss_one (L2N.ps_try_as (i := 2) rfl rfl sc__law_sort_asked.nd rfl rfl ⟨rfl, by decide, .inl RV.gx⟩ takesF (fun W pn xe tk _ => (pss_one (ps_ret (show PE _ _ (tMtS C "sort_of" (spSortOf K C BV) [] (WE W) _ _) from pe_mtX M S.i.cl tk hr (by decide) (pv 0) (pa_cons (pv 1) pa_nil))))) (fun a oe cls d pn hz hf => (pss_one (ps_ret (pe_tup (pa_cons pe_str (pa_cons (pe_xf RV.xf RV.nf hz.zc hf (pv 2)) pa_nil)))))))), ?_⟩
    obtain ⟨dx, t, es, hq⟩ := id hs
    refine ⟨_, rfl, s, dx, _, rfl, es, rfl, _, rfl, s, ns, m, x, d, rfl, hs, m0, hd, ht, hn, tx, .inr ⟨hv, fun y dd H1 s1 ndd ed hy => ?_⟩⟩
    refine ⟨true, hB, fun _ a na => ?_, fun z => nomatch z⟩
    refine ⟨_, rfl, rfl, rfl, dd, _, _, rfl, ed, rfl, (by show 2 ≤ sizeLine; decide), fun p np => ?_⟩
    exact q p _ (s1.trans (same_upd np)) (.tup (SqT.of upd_same) (.cons (.str _) (.cons (dp_keep (same_upd np) _ _ hy) .nil)))
end
end My
set_option Elab.async false
set_option linter.all false
set_option maxRecDepth 100000
set_option maxHeartbeats 4000000
namespace My
open PySem PySem.Spec PyProof.Rows L2
theorem sm6 {m : Int} (h0 : 0 ≤ m) (h : m ≤ 1000000) : m.natAbs < 2 ^ 8000 := small8000 h0 (Int.lt_of_le_of_lt h (by decide))
theorem cut_hi (xs : List V) (n : Nat) : cutV xs none (some (n : Int)) = xs.take n := by
  show (xs.drop (HT.sIx xs.length 0 none)).take (HT.sIx xs.length xs.length (some (n : Int)) - HT.sIx xs.length 0 none) = xs.take n
  rw [HT.sIx_none, HT.sIx_nat, List.drop_zero, Nat.sub_zero]
  by_cases h : n ≤ xs.length
  · rw [Nat.min_eq_left h]
  · rw [Nat.min_eq_right (by omega), List.take_length, List.take_of_length_le (by omega)]
theorem cut_lo (xs : List V) (n : Nat) : cutV xs (some (n : Int)) none = xs.drop n := by
  show (xs.drop (HT.sIx xs.length 0 (some (n : Int)))).take (HT.sIx xs.length xs.length none - HT.sIx xs.length 0 (some (n : Int))) = xs.drop n
  rw [HT.sIx_none, HT.sIx_nat]
  by_cases h : n ≤ xs.length
  · rw [Nat.min_eq_left h, List.take_of_length_le (by rw [List.length_drop]; omega)]
  · rw [Nat.min_eq_right (by omega), List.drop_length, List.drop_eq_nil_of_le (by omega)]
    simp
theorem not_asc_mem {xs : List V} {x : V} (h : x ∈ xs) (hv : valueV x = false) : okN (some xs) = false := by
  have e : xs.all valueV = false := by
    cases q : xs.all valueV with
    | false => rfl
    | true =>
      have := List.all_eq_true.mp q x h
      rw [hv] at this
      cases this
  show (ascV xs && decide (xs.length ≤ 8)) = false
  unfold ascV
  rw [e]
  rfl
theorem not_asc_two {x y : V} {xs : List V} (h : ltV x y = false) : okN (some (x :: y :: xs)) = false := by
  show (ascV (x :: y :: xs) && decide ((x :: y :: xs).length ≤ 8)) = false
  have e : ascV (x :: y :: xs) = false := by
    unfold ascV
    rw [List.drop_succ_cons, List.drop_zero, List.zipWith_cons_cons, List.all_cons, h]
    simp
  rw [e]
  rfl
theorem rev_not_asc {n m : Int} {ns : List Int} (h : (n :: m :: ns).Pairwise (· < ·)) : okN (some ((n :: m :: ns).map V.int).reverse) = false := by
  have e : ∃ x y zs, (n :: m :: ns).reverse = x :: y :: zs ∧ y < x := by
    have hr : (n :: m :: ns).reverse.Pairwise (fun a b => b < a) := List.pairwise_reverse.mpr h
    have hl : (n :: m :: ns).reverse.length = ns.length + 2 := by simp
    match q : (n :: m :: ns).reverse, hr, hl with
    | [], _, hl => simp at hl
    | [x], _, hl => simp at hl
    | x :: y :: zs, hr, _ =>
      have h1 := (List.pairwise_cons.mp hr).1 y (List.mem_cons_self ..)
      exact ⟨x, y, zs, rfl, h1⟩
  obtain ⟨x, y, zs, e, lt⟩ := e
  rw [← List.map_reverse, e]
  exact not_asc_two (by show decide (x < y) = false; exact decide_eq_false (by omega))
/-- a wrong thing in the place of the named values -/
def spOddN (K : PySem.W.Frag) : Sp := fun vs H Q _ => ∃ (a c p : Addr) (ns : List Int), vs = [.ref a, .ref p] ∧ Hand MH H a c ∧ off H a p = some (.lst (ns.map V.int)) ∧ Asc ns ∧
  After a c H (fun J v => ∃ o, SeqIn K J v o ∧ okN o = false) Q
theorem seq_lst {K : PySem.W.Frag} {H : Hp} {l : Addr} {xs : List V} (e : H l = some (.lst xs)) (few : xs.length ≤ 1000) (fl : ∀ y ∈ xs, flatV y = true) : SeqIn K H (.ref l) (some xs) := ⟨l, "list", rfl, .lst e, rfl, .inl (SqL.of e), few, fl⟩
theorem seq_tup {K : PySem.W.Frag} {H : Hp} {l : Addr} {xs : List V} (e : H l = some (.tup xs)) (few : xs.length ≤ 1000) (fl : ∀ y ∈ xs, flatV y = true) : SeqIn K H (.ref l) (some xs) := ⟨l, "tuple", rfl, .tup e, rfl, .inr (SqT.of e), few, fl⟩
theorem flat_ints (ns : List Int) : ∀ y ∈ ns.map V.int, flatV y = true := fun y h => by
  obtain ⟨n, _, rfl⟩ := List.mem_map.mp h
  rfl
section
variable {P : Program} {w : World} {K : PySem.W.Frag} {mg : Str → Option Value} {base : Heap} {C : Addr}
theorem sc__law_odd_named : FnScope ["_law_hand_here", "_law_named_here", "_law_way", "_law_odd", "_law_at"] ["_law_hand_here", "_law_named_here"] (defScope (topS 31)) := ⟨rfl, rfl, rfl, by decide +kernel, rfl, by decide +kernel, by decide +kernel⟩
theorem ok_oddn {f : Addr} {fd : FuncData} (F : L2.Fun K "_law_odd_named" "_law_odd_named" (topS 31) f fd) (cD : Cal P w K mg base 2 "_law_draw" (spDraw MH)) (m_len : mg "len" = none) (m_list : mg "list" = none) (m_range : mg "range" = none) (m_reversed : mg "reversed" = none) : FnOk P w K mg base CX0 3 f fd ["_law_hand_here", "_law_named_here"] (spOddN K) := by
  refine F.ok sc__law_odd_named (fun vs H Q E h => ?_) (fun cdv A outer s0 H vs Q E hr h => ?_)
  · obtain ⟨a, c, p, ns, rfl, _⟩ := h
    rfl
  · obtain ⟨a, c, p, ns, rfl, hh, hp, asc, q⟩ := h
    refine ⟨_, (pss_cons (ps_set (i := 2) sc__law_odd_named.nd rfl (.inl rfl) (pe_c cD hr (by decide) rfl (pa_cons (pv 0) (pa_cons pe_int pa_nil))))
      (pss_cons (ps_if (pt_cmpR op_lt (pv 2) pe_int (nomark _)) (pss_one (ps_ret (pe_ix ix_list (pe_lst (pa_cons pe_non (pa_cons pe_int (pa_cons pe_str (pa_cons (pe_listRg rfl (by rfl) m_list (prg_1 (by rfl) m_range pe_int)) pa_nil))))) (pv 2) (fun _ _ => rfl)))) pss_nil)
      (pss_cons (ps_if (pt_cmpR op_lt (pv 2) pe_int (nomark _)) (pss_cons (ps_set (i := 3) sc__law_odd_named.nd rfl (.inl rfl) (pe_ix ix_list (pe_lst (pa_cons (pe_op op_sub (pe_un un_neg pe_int) (pe_c cD hr (by decide) rfl (pa_cons (pv 0) (pa_cons pe_int pa_nil)))) (pa_cons (pe_op op_add (pe_op op_add (pe_op op_pow pe_int pe_int) pe_int) (pe_c cD hr (by decide) rfl (pa_cons (pv 0) (pa_cons pe_int pa_nil)))) (pa_cons pe_non (pa_cons pe_str pa_nil))))) (pe_op op_sub (pv 2) pe_int) (fun _ _ => rfl))) (pss_cons (ps_set (i := 4) sc__law_odd_named.nd rfl (.inl rfl) (pe_c cD hr (by decide) rfl (pa_cons (pv 0) (pa_cons (pe_op op_add (pe_callB call_len_seq (by rfl) m_len PySem.boot_len (pa_cons (pv 1) pa_nil)) pe_int) pa_nil)))) (pss_one (ps_ret (pe_ifExp (pt_cmpR op_lt (pv 4) pe_int (nomark _)) (pe_slice sl_list (pe_op op_cat (pe_op op_cat (pe_slice sl_list (pv 1) po_none (po_some (pv 4))) (pe_lst (pa_cons (pv 3) pa_nil))) (pe_slice sl_list (pv 1) (po_some (pv 4)) po_none)) po_none (po_some pe_int)) (pe_lst (pa_cons (pv 3) pa_nil))))))) pss_nil)
      (pss_cons (ps_if (pt_cmpR op_eq (pv 2) pe_int (nomark _)) (pss_one (ps_ret (pe_ifExp (pt_truth (pv 1) (by intro _; rfl)) (pe_slice sl_list (pe_op op_cat (pe_slice sl_list (pv 1) po_none (po_some pe_int)) (pv 1)) po_none (po_some pe_int)) (pe_lst (pa_cons pe_int (pa_cons pe_int pa_nil)))))) pss_nil)
      (pss_one (ps_ret (pe_ifExp (pt_cmpR op_gt (pe_callB call_len_seq (by rfl) m_len PySem.boot_len (pa_cons (pv 1) pa_nil)) pe_int (nomark _)) (pe_lstRev rfl (by rfl) m_list (by rfl) m_reversed (pv 1)) (pe_tup (pa_cons pe_int (pa_cons pe_int pa_nil)))))))))), ?_⟩
    have len : (ns.map V.int).length = ns.length := List.length_map ..
    have l8 := asc.2.1
    refine ⟨_, rfl, a, c, _, rfl, hh, (by decide), (small8000 (by decide) (by decide)), fun v1 l1 v1a v1b h1 => ?_⟩
    generalize e1 : upd H a (.lst l1) = H1 at h1 ⊢
    have o1 : off H1 a = off H a := by
      rw [← e1]
      exact off_put
    clear e1
    have s1 : Same (off H a) (off H1 a) := by
      rw [o1]
      exact Same.refl _
    have hp1 : H1 p = some (.lst (ns.map V.int)) := (off_at (s1 _ _ hp)).1
    have plain : ∀ (H2 : Hp) (x : V) (t : String), Hand MH H2 a c → Same (off H a) (off H2 a) → TyOf K (off H2 a) x (.type t) → seqT t = false → Q x H2 := fun H2 x t h2 s2 tx nt => q x H2 h2 s2 ⟨none, ⟨t, tx, nt⟩, rfl⟩
    have made : ∀ (H2 : Hp) (l : Addr) (xs : List V), Hand MH H2 a c → Same (off H a) (off H2 a) → H2 l = none → xs.length ≤ 1000 → (∀ y ∈ xs, flatV y = true) → okN (some xs) = false → Q (.ref l) (upd H2 l (.lst xs)) := fun H2 l xs h2 s2 nl few fl bad => by
      have ne := h2.new nl
      exact q _ _ (h2.keep (same_upd nl)) (s2.trans (off_keep (same_upd nl))) ⟨some xs, seq_lst (by rw [off_ne ne, upd_same]) few fl, bad⟩
    refine ⟨_, rfl, _, _, rfl, rfl, _, rfl, ite2 (fun e => ?_) (fun e => ?_)⟩
    · have lt := of_decide_eq_true e
      refine ⟨_, rfl, RgOk.of_le (by decide) (by decide) (by decide) (by decide), fun r nr => ⟨(by show 4 ≤ sizeLine; decide), fun l nl => ⟨_, rfl, ?_⟩⟩⟩
      generalize eJ : upd H1 r _ = J at nl ⊢
      have sJ := gs eJ nr
      have aJ := ga eJ
      clear eJ
      generalize eL : upd J l _ = L
      have sL := gs eL nl
      have aL := ga eL
      clear eL
      have hL := (h1.keep sJ).keep sL
      have s3 : Same (off H a) (off L a) := s1.trans (off_keep (sJ.trans sL))
      have four : v1 = 0 ∨ v1 = 1 ∨ v1 = 2 ∨ v1 = 3 := by omega
      rcases four with rfl | rfl | rfl | rfl
      · exact ⟨l, _, _, _, rfl, rfl, SqL.of aL, atI_nat (j := 0) rfl, plain L _ _ hL s3 .non rfl⟩
      · exact ⟨l, _, _, _, rfl, rfl, SqL.of aL, atI_nat (j := 1) rfl, plain L _ _ hL s3 (.int 7) rfl⟩
      · exact ⟨l, _, _, _, rfl, rfl, SqL.of aL, atI_nat (j := 2) rfl, plain L _ _ hL s3 (.str _) rfl⟩
      · refine ⟨l, _, _, _, rfl, rfl, SqL.of aL, atI_nat (j := 3) rfl, ?_⟩
        have ne := h1.new nr
        refine q _ _ hL s3 ⟨some (rgV 0 9), seq_lst (by rw [off_ne ne]; exact sL _ _ aJ) (by decide) (by decide), by decide +kernel⟩
    · refine ⟨_, rfl, _, _, rfl, rfl, _, rfl, ite2 (fun e2 => ?_) (fun e2 => ?_)⟩
      · have ge : ¬ v1 < 4 := fun z => e (decide_eq_true z)
        have lt := of_decide_eq_true e2
        -- the four odd things, of which one is taken
        refine ⟨_, rfl, _, rfl, a, c, _, rfl, h1, (by decide), (small8000 (by decide) (by decide)), fun v2 l2 v2a v2b h2 => ?_⟩
        generalize e2 : upd H1 a (.lst l2) = H2 at h2 ⊢
        have o2 : off H2 a = off H1 a := by
          rw [← e2]
          exact off_put
        clear e2
        refine ⟨_, _, rfl, rfl, ?_⟩
        refine ⟨_, _, rfl, rfl, ⟨by decide, by decide, by decide⟩, _, _, rfl, rfl, ?_⟩
        refine ⟨_, rfl, a, c, _, rfl, h2, (by decide), (small8000 (by decide) (by decide)), fun v3 l3 v3a v3b h3 => ?_⟩
        generalize e3 : upd H2 a (.lst l3) = H3 at h3 ⊢
        have o3 : off H3 a = off H2 a := by
          rw [← e3]
          exact off_put
        clear e3
        refine ⟨_, _, rfl, rfl, (by show 4 ≤ sizeLine; decide), fun l nl => ?_⟩
        generalize eL : upd H3 l _ = L
        have sL := gs eL nl
        have aL := ga eL
        clear eL
        have hL := h3.keep sL
        have sH : Same (off H a) (off L a) := by
          have o31 : off H3 a = off H a := by rw [o3, o2, o1]
          rw [← o31]
          exact off_keep sL
        have odd : ∃ x : V, atI [V.int (-1 - v2), V.int (10 ^ 9 + 1 + v3), V.non, V.str "3"] (v1 - 4) = some x ∧ valueV x = false ∧ flatV x = true := by
          have four : v1 = 4 ∨ v1 = 5 ∨ v1 = 6 ∨ v1 = 7 := by omega
          rcases four with rfl | rfl | rfl | rfl
          · refine ⟨_, atI_nat (j := 0) rfl, ?_, rfl⟩
            show (decide ((0 : Int) ≤ -1 - v2) && decide (-1 - v2 ≤ 1000000000)) = false
            rw [decide_eq_false (by omega)]
            rfl
          · refine ⟨_, atI_nat (j := 1) rfl, ?_, rfl⟩
            show (decide ((0 : Int) ≤ 10 ^ 9 + 1 + v3) && decide (10 ^ 9 + 1 + v3 ≤ 1000000000)) = false
            rw [decide_eq_false (show ¬ (10 : Int) ^ 9 + 1 + v3 ≤ 1000000000 by omega), Bool.and_false]
          · exact ⟨_, atI_nat (j := 2) rfl, rfl, rfl⟩
          · exact ⟨_, atI_nat (j := 3) rfl, rfl, rfl⟩
        obtain ⟨x, ex, hx, fx⟩ := odd
        refine ⟨_, rfl, _, _, rfl, rfl, l, _, _, x, rfl, rfl, SqL.of aL, ex, ?_⟩
        have hpL : L p = some (.lst (ns.map V.int)) := (off_at (sH _ _ hp)).1
        refine ⟨_, rfl, _, rfl, p, _, rfl, .inl (SqL.of hpL), _, _, rfl, rfl, a, c, _, rfl, hL, (by rw [len]; omega), (sm6 (by rw [len]; omega) (by rw [len]; omega)), fun v4 l4 v4a v4b h4 => ?_⟩
        generalize e4 : upd L a (.lst l4) = H4 at h4 ⊢
        have o4 : off H4 a = off L a := by
          rw [← e4]
          exact off_put
        clear e4
        have s4 : Same (off H a) (off H4 a) := by
          rw [o4]
          exact sH
        have hp4 : H4 p = some (.lst (ns.map V.int)) := (off_at (s4 _ _ hp)).1
        have hv4 : v4 ≤ ns.length := by rw [len] at v4b; omega
        obtain ⟨k, rfl⟩ : ∃ k : Nat, v4 = (k : Int) := ⟨v4.toNat, by omega⟩
        refine ⟨_, rfl, _, _, rfl, rfl, _, rfl, ite2 (fun e8 => ?_) (fun e8 => ?_)⟩
        · have k8 : k < 8 := by have := of_decide_eq_true e8; omega
          refine ⟨_, rfl, _, rfl, _, rfl, p, _, rfl, SqL.of hp4, fun b1 n1 => ?_⟩
          generalize g1 : upd H4 b1 _ = J1
          have t1 := gs g1 n1
          have w1 := ga g1
          clear g1
          rw [cut_hi] at w1
          refine ⟨_, rfl, (by show 1 ≤ sizeLine; decide), fun b2 n2 => ?_⟩
          generalize g2 : upd J1 b2 _ = J2
          have t2 := gs g2 n2
          have w2 := ga g2
          clear g2
          have sz : ∀ {n : Nat}, n ≤ 1000 → n ≤ sizeLine := fun h => Nat.le_of_lt (small1000 h)
          have lt : ((ns.map V.int).take k).length ≤ 8 := by rw [List.length_take, len]; omega
          have ld : ((ns.map V.int).drop k).length ≤ 8 := by rw [List.length_drop, len]; omega
          refine ⟨_, _, _, _, rfl, rfl, t2 _ _ w1, w2, sz (by show _ + 1 ≤ 1000; omega), fun b3 n3 => ?_⟩
          generalize g3 : upd J2 b3 _ = J3
          have t3 := gs g3 n3
          have w3 := ga g3
          clear g3
          refine ⟨_, rfl, _, rfl, _, rfl, p, _, rfl, SqL.of (t3 _ _ (t2 _ _ (t1 _ _ hp4))), fun b4 n4 => ?_⟩
          generalize g4 : upd J3 b4 _ = J4
          have t4 := gs g4 n4
          have w4 := ga g4
          clear g4
          rw [cut_lo] at w4
          refine ⟨_, _, _, _, rfl, rfl, t4 _ _ w3, w4, sz (by simp only [List.length_append, List.length_cons, List.length_nil]; omega), fun b5 n5 => ?_⟩
          generalize g5 : upd J4 b5 _ = J5
          have t5 := gs g5 n5
          have w5 := ga g5
          clear g5
          refine ⟨_, rfl, b5, _, rfl, SqL.of w5, fun b6 n6 => ?_⟩
          have tt := (((t1.trans t2).trans t3).trans t4).trans t5
          rw [show cutV ((ns.map V.int).take k ++ [x] ++ (ns.map V.int).drop k) none (some 8) = ((ns.map V.int).take k ++ [x] ++ (ns.map V.int).drop k).take 8 from cut_hi _ 8]
          refine made J5 b6 _ (h4.keep tt) (s4.trans (off_keep tt)) n6 (Nat.le_trans (List.length_take_le _ _) (by decide)) (fun y hy => ?_) (not_asc_mem (x := x) ?_ hx)
          · have hy' := List.mem_of_mem_take hy
            rcases List.mem_append.mp hy' with h | h
            · rcases List.mem_append.mp h with h | h
              · exact flat_ints ns y (List.mem_of_mem_take h)
              · rw [List.mem_singleton.mp h]; exact fx
            · exact flat_ints ns y (List.mem_of_mem_drop h)
          · have e1 : ((ns.map V.int).take k).length = k := by rw [List.length_take, len]; omega
            refine List.mem_of_getElem? (i := k) ?_
            rw [List.getElem?_take, if_pos k8, List.getElem?_append_left (by rw [List.length_append, e1]; simp), List.getElem?_append_right (Nat.le_of_eq e1), e1, Nat.sub_self]
            rfl
        · refine ⟨_, rfl, (by show 1 ≤ sizeLine; decide), fun b1 n1 => ?_⟩
          exact made H4 b1 [x] h4 s4 n1 (by show 1 ≤ 1000; decide) (fun y hy => by rw [List.mem_singleton.mp hy]; exact fx) (not_asc_mem (List.mem_singleton.mpr rfl) hx)
      · refine ⟨_, rfl, rfl, _, rfl, ite2 (fun e3 => ?_) (fun e3 => ?_)⟩
        · refine ⟨_, rfl, _, .inl ⟨_, SqL.of hp1, rfl⟩, ?_⟩
          cases ns with
          | nil =>
            refine iteF ⟨(by show 2 ≤ sizeLine; decide), fun b1 n1 => ?_⟩
            exact made H1 b1 [.int 4, .int 4] h1 s1 n1 (by show 2 ≤ 1000; decide) (by decide) (by decide +kernel)
          | cons n ns =>
            refine iteT ⟨_, rfl, _, rfl, p, _, rfl, SqL.of hp1, fun b1 n1 => ?_⟩
            generalize g1 : upd H1 b1 _ = J1
            have t1 := gs g1 n1
            have w1 := ga g1
            clear g1
            rw [show cutV ((n :: ns).map V.int) none (some 1) = ((n :: ns).map V.int).take 1 from cut_hi _ 1] at w1
            have sz : ∀ {n : Nat}, n ≤ 1000 → n ≤ sizeLine := fun h => Nat.le_of_lt (small1000 h)
            refine ⟨_, rfl, _, _, _, _, rfl, rfl, w1, t1 _ _ hp1, sz (by rw [List.length_take, len]; omega), fun b2 n2 => ?_⟩
            generalize g2 : upd J1 b2 _ = J2
            have t2 := gs g2 n2
            have w2 := ga g2
            clear g2
            refine ⟨_, rfl, b2, _, rfl, SqL.of w2, fun b3 n3 => ?_⟩
            rw [show cutV (((n :: ns).map V.int).take 1 ++ (n :: ns).map V.int) none (some 8) = (((n :: ns).map V.int).take 1 ++ (n :: ns).map V.int).take 8 from cut_hi _ 8]
            have tt := t1.trans t2
            refine made J2 b3 _ (h1.keep tt) (s1.trans (off_keep tt)) n3 (Nat.le_trans (List.length_take_le _ _) (by decide)) (fun y hy => ?_) ?_
            · have hy' := List.mem_of_mem_take hy
              rcases List.mem_append.mp hy' with h | h
              · exact flat_ints _ y (List.mem_of_mem_take h)
              · exact flat_ints _ y h
            · exact not_asc_two (x := .int n) (y := .int n) (by show decide (n < n) = false; simp)
        · refine ⟨_, rfl, p, _, rfl, .inl (SqL.of hp1), _, _, rfl, rfl, _, rfl, ?_⟩
          rw [len]
          match ns, asc, hp1, len with
          | [], _, _, _ =>
            refine iteF ⟨(by show 2 ≤ sizeLine; decide), fun b1 n1 => ?_⟩
            have ne := h1.new n1
            exact q _ _ (h1.keep (same_upd n1)) (s1.trans (off_keep (same_upd n1))) ⟨some [.int 5, .int 3], seq_tup (by rw [off_ne ne, upd_same]) (by decide) (by decide), by decide +kernel⟩
          | [n], _, _, _ =>
            refine iteF ⟨(by show 2 ≤ sizeLine; decide), fun b1 n1 => ?_⟩
            have ne := h1.new n1
            exact q _ _ (h1.keep (same_upd n1)) (s1.trans (off_keep (same_upd n1))) ⟨some [.int 5, .int 3], seq_tup (by rw [off_ne ne, upd_same]) (by decide) (by decide), by decide +kernel⟩
          | n :: m :: ns, asc, hp1, len =>
            have two : decide ((((n :: m :: ns).length : Nat) : Int) > 1) = true := decide_eq_true (by simp only [List.length_cons]; omega)
            rw [two]
            refine iteT ⟨_, rfl, p, _, rfl, SqL.of hp1, fun b1 n1 => ?_⟩
            refine made H1 b1 _ h1 s1 n1 (by rw [List.length_reverse, len]; have := asc.2.1; omega) (fun y hy => flat_ints _ y (List.mem_reverse.mp hy)) (rev_not_asc asc.1)
end
end My
set_option Elab.async false
set_option linter.all false
set_option maxRecDepth 100000
set_option maxHeartbeats 4000000
namespace My
open PySem PySem.Spec PyProof.Rows L2
def spSome (K : PySem.W.Frag) : Sp := fun vs H Q _ => ∃ (a c p : Addr) (ns : List Int), vs = [.ref a, .ref p] ∧ Hand MH H a c ∧ off H a p = some (.lst (ns.map V.int)) ∧ Asc ns ∧
  After a c H (fun _ v => ∃ z : Int, v = .int z ∧ 0 ≤ z ∧ z ≤ 1000000000) Q
/-- the due value with number n -/
def spDue (K : PySem.W.Frag) : Sp := fun vs H Q _ => ∃ (p q : Addr) (ns avs : List Int) (m k : Int) (n : Nat) (r : Option Int), vs = [.ref p, .int m, .int k, .int (n : Int), .ref q] ∧ SqL K H p (ns.map V.int) ∧ SqL K H q (avs.map V.int) ∧
  ((∃ (j : Nat) (v : Int), k = (j : Int) ∧ ns[j]? = some v ∧ r = if n = 0 ∧ v ∉ avs then some v else none) ∨ ((ns.length : Int) ≤ k ∧ ∃ z, nth (badB ns avs) m 140 (k - (ns.length : Int)) n = some z ∧ r = some z)) ∧ Q (optV r) H
section
variable {P : Program} {w : World} {K : PySem.W.Frag} {mg : Str → Option Value} {base : Heap} {C : Addr}
theorem sc__law_some_value : FnScope ["_law_hand_here", "_law_named_here", "_law_way", "_law_value_here"] ["_law_hand_here", "_law_named_here"] (defScope (topS 34)) := ⟨rfl, rfl, rfl, by decide +kernel, rfl, by decide +kernel, by decide +kernel⟩
theorem ok_some {f : Addr} {fd : FuncData} (F : L2.Fun K "_law_some_value" "_law_some_value" (topS 34) f fd) (cD : Cal P w K mg base 2 "_law_draw" (spDraw MH)) (cV : Cal P w K mg base 3 "_law_value" spVal) (m_len : mg "len" = none) : FnOk P w K mg base CX0 4 f fd ["_law_hand_here", "_law_named_here"] (spSome K) := by
  refine F.ok sc__law_some_value (fun vs H Q E h => ?_) (fun cdv A outer s0 H vs Q E hr h => ?_)
  · obtain ⟨a, c, p, ns, rfl, _⟩ := h
    rfl
  · obtain ⟨a, c, p, ns, rfl, hh, hp, asc, q⟩ := h
    refine ⟨_, (pss_cons (ps_set (i := 2) sc__law_some_value.nd rfl (.inl rfl) (pe_c cD hr (by decide) rfl (pa_cons (pv 0) (pa_cons pe_int pa_nil))))
      (pss_cons (ps_if (PW.pt (pw_and (pt_truth (pv 1) (by intro _; rfl)) (pw_and1 (pt_cmpR op_lt (pv 2) pe_int (nomark _))))) (pss_cons (ps_set (i := 3) sc__law_some_value.nd rfl (.inl rfl) (pe_op op_add (pe_ix ix_list (pv 1) (pe_c cD hr (by decide) rfl (pa_cons (pv 0) (pa_cons (pe_callB call_len_seq (by rfl) m_len PySem.boot_len (pa_cons (pv 1) pa_nil)) pa_nil))) (fun _ _ => rfl)) (pe_op op_mul (pv 2) (pe_op op_sub (pe_c cD hr (by decide) rfl (pa_cons (pv 0) (pa_cons pe_int pa_nil))) pe_int)))) (pss_one (ps_ret (pe_ifExp (pt_chain op_le op_le pe_int (pv 3) (pe_op op_pow pe_int pe_int)) (pv 3) pe_int)))) pss_nil)
      (pss_one (ps_ret (pe_c cV hr (by decide) rfl (pa_cons (pv 0) pa_nil)))))), ?_⟩
    have len : (ns.map V.int).length = ns.length := List.length_map ..
    have l8 := asc.2.1
    refine ⟨_, rfl, a, c, _, rfl, hh, (by decide), (small8000 (by decide) (by decide)), fun v1 l1 v1a v1b h1 => ?_⟩
    generalize e1 : upd H a (.lst l1) = H1 at h1 ⊢
    have o1 : off H1 a = off H a := by
      rw [← e1]
      exact off_put
    clear e1
    have s1 : Same (off H a) (off H1 a) := by
      rw [o1]
      exact Same.refl _
    have hp1 : H1 p = some (.lst (ns.map V.int)) := (off_at (s1 _ _ hp)).1
    have last : ∀ (H2 : Hp), Hand MH H2 a c → off H2 a = off H1 a → spVal [.ref a] H2 Q E0 := fun H2 h2 o2 => ⟨a, c, rfl, h2, fun v H3 h3 s3 hv => q v H3 h3 (by rw [o2] at s3; exact s1.trans s3) hv⟩
    refine ⟨_, rfl, _, .inl ⟨_, SqL.of hp1, rfl⟩, ?_⟩
    cases ns with
    | nil => exact iteF (iteF ⟨_, rfl, last H1 h1 rfl⟩)
    | cons n0 ns0 =>
      generalize en : n0 :: ns0 = ns at *
      have pos : 0 < ns.length := by rw [← en]; simp
      have tru : (!(ns.map V.int).isEmpty) = true := by
        rw [← en]
        rfl
      rw [tru]
      refine iteT ⟨_, rfl, _, _, rfl, rfl, _, rfl, ite2 (fun e => ?_) (fun e => ?_)⟩
      · have lt := of_decide_eq_true e
        refine ⟨_, rfl, _, rfl, _, rfl, p, _, rfl, .inl (SqL.of hp1), a, c, _, rfl, h1, (by rw [len]; omega), (sm6 (by rw [len]; omega) (by rw [len]; omega)), fun v2 l2 v2a v2b h2 => ?_⟩
        generalize e2 : upd H1 a (.lst l2) = H2 at h2 ⊢
        have o2 : off H2 a = off H1 a := by
          rw [← e2]
          exact off_put
        clear e2
        have s2 : Same (off H a) (off H2 a) := by
          rw [o2]
          exact s1
        have hp2 : H2 p = some (.lst (ns.map V.int)) := (off_at (s2 _ _ hp)).1
        obtain ⟨k, rfl⟩ : ∃ k : Nat, v2 = (k : Int) := ⟨v2.toNat, by omega⟩
        have kl : k < ns.length := by rw [len] at v2b; omega
        refine ⟨p, _, _, .int ns[k], rfl, rfl, SqL.of hp2, atI_nat (by rw [List.getElem?_map, List.getElem?_eq_getElem kl]; rfl), ?_⟩
        refine ⟨_, rfl, ?_⟩
        refine ⟨_, rfl, a, c, _, rfl, h2, (by decide), (small8000 (by decide) (by decide)), fun v3 l3 v3a v3b h3 => ?_⟩
        generalize e3 : upd H2 a (.lst l3) = H3 at h3 ⊢
        have o3 : off H3 a = off H2 a := by
          rw [← e3]
          exact off_put
        clear e3
        refine ⟨_, _, rfl, rfl, ?_⟩
        refine ⟨_, _, rfl, rfl, .inl ⟨by omega, by omega⟩, ?_⟩
        refine ⟨_, _, rfl, rfl, ?_⟩
        have s3 : Same (off H a) (off H3 a) := by
          rw [o3]
          exact s2
        refine ⟨_, rfl, _, _, rfl, rfl, _, rfl, ?_⟩
        by_cases g0 : (0 : Int) ≤ ns[k] + v1 * (v3 - 7)
        · rw [if_pos (decide_eq_true g0)]
          refine ⟨_, _, rfl, rfl, ⟨by decide, by decide, by decide⟩, _, _, rfl, rfl, ?_⟩
          refine ⟨_, rfl, ite2 (fun g1 => ?_) (fun g1 => ?_)⟩
          · have g1' : ns[k] + v1 * (v3 - 7) ≤ (10 : Int) ^ 9 := of_decide_eq_true g1
            exact ⟨_, rfl, q _ H3 h3 s3 ⟨ns[k] + v1 * (v3 - 7), rfl, g0, by omega⟩⟩
          · exact q _ H3 h3 s3 ⟨0, rfl, by decide, by decide⟩
        · rw [if_neg (fun z => g0 (of_decide_eq_true z))]
          exact ⟨_, rfl, iteF (q _ H3 h3 s3 ⟨0, rfl, by decide, by decide⟩)⟩
      · exact ⟨_, rfl, last H1 h1 rfl⟩
theorem sc__law_due_value : FnScope ["_law_named_here", "_law_modulus", "_law_sort_here", "_law_number", "_law_avoided", "_law_value_here", "_law_left", "_law_k"] ["_law_named_here", "_law_modulus", "_law_sort_here", "_law_number", "_law_avoided"] (defScope (topS 36)) := ⟨rfl, rfl, rfl, by decide +kernel, rfl, by decide +kernel, by decide +kernel⟩
theorem ok_due {f : Addr} {fd : FuncData} (F : L2.Fun K "_law_due_value" "_law_due_value" (topS 36) f fd) (m_len : mg "len" = none) (m_range : mg "range" = none) : FnOk P w K mg base CX0 1 f fd ["_law_named_here", "_law_modulus", "_law_sort_here", "_law_number", "_law_avoided"] (spDue K) := by
  refine F.ok sc__law_due_value (fun vs H Q E h => ?_) (fun cdv A outer s0 H vs Q E hr h => ?_)
  · obtain ⟨p, q, ns, avs, m, k, n, r, rfl, _⟩ := h
    rfl
  · obtain ⟨p, b, ns, avs, m, k, n, r, rfl, hp, hb, hv, q⟩ := h
    refine ⟨_, (pss_cons (ps_if (pt_cmpR op_lt (pv 2) (pe_callB call_len_seq (by rfl) m_len PySem.boot_len (pa_cons (pv 0) pa_nil)) (nomark _)) (pss_one (ps_ret (pe_ifExp (PW.pt (pw_and (pt_cmpR op_eq (pv 3) pe_int (nomark _)) (pw_and1 (pt_cmpR op_notIn_seq (pe_ix ix_list (pv 0) (pv 2) (fun _ _ => rfl)) (pv 4) (by rfl))))) (pe_ix ix_list (pv 0) (pv 2) (fun _ _ => rfl)) pe_non))) pss_nil)
      (pss_cons (ps_set (i := 5) sc__law_due_value.nd rfl (.inl rfl) (pe_op op_sub (pv 2) (pe_callB call_len_seq (by rfl) m_len PySem.boot_len (pa_cons (pv 0) pa_nil))))
      (pss_cons (ps_set (i := 6) sc__law_due_value.nd rfl (.inl rfl) (pv 3))
      (pss_cons (ps_for PassesOwn.never rfl (pi_range1 (by rfl) m_range (pa_cons pe_int pa_nil)) (pg_name (i := 7) sc__law_due_value.nd rfl (.inl rfl)) (pss_cons (ps_if (PW.pt (pw_and (pt_cmpR op_notIn_seq (pv 5) (pv 0) (by rfl)) (pw_and1 (pt_cmpR op_notIn_seq (pv 5) (pv 4) (by rfl))))) (pss_cons (ps_if (pt_cmpR op_eq (pv 6) pe_int (nomark _)) (pss_one (ps_ret (pv 5))) pss_nil) (pss_one (ps_set (i := 6) sc__law_due_value.nd rfl (.inl rfl) (pe_op op_sub (pv 6) pe_int)))) pss_nil) (pss_one (ps_set (i := 5) sc__law_due_value.nd rfl (.inl rfl) (pe_op op_add (pv 5) (pv 1))))))
      (pss_one (ps_ret pe_non)))))), ?_⟩
    have len : (ns.map V.int).length = ns.length := List.length_map ..
    refine ⟨_, rfl, _, rfl, p, _, rfl, .inl hp, _, _, rfl, rfl, _, rfl, ?_⟩
    rw [len]
    by_cases lt : k < (ns.length : Int)
    · rw [decide_eq_true lt]
      rcases hv with ⟨j, v, rfl, hj, rfl⟩ | ⟨le, _⟩
      · refine iteT ⟨_, rfl, rfl, _, rfl, ?_⟩
        have ix : atI (ns.map V.int) (j : Int) = some (.int v) := atI_nat (by rw [List.getElem?_map, hj]; rfl)
        by_cases n0 : n = 0
        · subst n0
          refine iteT ⟨_, rfl, _, rfl, p, _, _, _, rfl, rfl, hp, ix, _, rfl, b, _, rfl, .inl hb, rfl, ints_flat avs, _, congrArg V.bl (in_not v avs), ?_⟩
          by_cases hv2 : v ∈ avs
          · rw [decide_eq_true hv2]
            rw [if_neg (fun z => z.2 hv2)] at q
            exact iteF q
          · rw [decide_eq_false hv2]
            rw [if_pos ⟨rfl, hv2⟩] at q
            exact iteT ⟨_, rfl, _, rfl, p, _, _, _, rfl, rfl, hp, ix, q⟩
        · rw [if_neg (fun z => n0 z.1)] at q
          have ne : decide (V.int (n : Int) = V.int 0) = false := decide_eq_false fun z => n0 (by have := V.int.inj z; omega)
          rw [ne]
          exact iteF (iteF q)
      · exact absurd le (by omega)
    · rw [decide_eq_false lt]
      rcases hv with ⟨j, v, rfl, hj, _⟩ | ⟨le, z, hz, rfl⟩
      · have := (List.getElem?_eq_some_iff.mp hj).1
        exact absurd (show (j : Int) < (ns.length : Int) by omega) lt
      · refine iteF ⟨_, rfl, _, rfl, p, _, rfl, .inl hp, _, _, rfl, rfl, ?_⟩
        rw [len]
        refine ⟨_, rfl, 140, rfl, by decide, by decide, ?_⟩
        refine for_range (lo := 0) (n := 140) (fun i σ H' => H' = H ∧ ∃ (v : Int) (l : Nat) (x7 : Option V), σ = [some (.ref p), some (.int m), some (.int k), some (.int (n : Int)), some (.ref b), some (.int v), some (.int (l : Int)), x7] ∧ nth (badB ns avs) m (140 - i) v l = some z) ⟨rfl, _, n, _, rfl, hz⟩ ?_ ?_
        · rintro i σ H' hi ⟨rfl, v, l, x7, rfl, hf⟩
          have f1 : 140 - i = (139 - i) + 1 := by omega
          rw [f1, nth_eq] at hf
          have f2 : 140 - (i + 1) = 139 - i := by omega
          refine ⟨_, rfl, _, rfl, p, _, rfl, .inl hp, rfl, ints_flat ns, _, congrArg V.bl (in_not v ns), ?_⟩
          by_cases h1 : v ∈ ns
          · have bad : badB ns avs v = true := by unfold badB; rw [decide_eq_true h1]; rfl
            rw [if_pos bad] at hf
            rw [decide_eq_true h1]
            refine iteF (iteF ⟨_, rfl, _, rfl, _, _, rfl, rfl, rfl, v + m, l, _, rfl, ?_⟩)
            rw [f2]
            exact hf
          · rw [decide_eq_false h1]
            refine iteT ⟨_, rfl, _, rfl, b, _, rfl, .inl hb, rfl, ints_flat avs, _, congrArg V.bl (in_not v avs), ?_⟩
            by_cases h2 : v ∈ avs
            · have bad : badB ns avs v = true := by unfold badB; rw [decide_eq_true h2, Bool.or_true]
              rw [if_pos bad] at hf
              rw [decide_eq_true h2]
              refine iteF ⟨_, rfl, _, rfl, _, _, rfl, rfl, rfl, v + m, l, _, rfl, ?_⟩
              rw [f2]
              exact hf
            · have bad : ¬ badB ns avs v = true := by unfold badB; rw [decide_eq_false h1, decide_eq_false h2]; decide
              rw [if_neg bad] at hf
              rw [decide_eq_false h2]
              refine iteT ⟨_, rfl, rfl, _, rfl, ?_⟩
              match l, hf with
              | 0, hf =>
                have ez : v = z := Option.some.inj hf
                subst ez
                exact iteT ⟨_, rfl, q⟩
              | l + 1, hf =>
                have ne : decide (V.int ((l + 1 : Nat) : Int) = V.int 0) = false := decide_eq_false fun z => by have := V.int.inj z; omega
                rw [ne]
                refine iteF ⟨_, rfl, _, _, rfl, rfl, ?_⟩
                refine ⟨_, rfl, _, rfl, _, _, rfl, rfl, rfl, v + m, l, some (.int ((0 : Int) + (i : Int))), ?_, by rw [f2]; exact hf⟩
                have el : (((l + 1 : Nat) : Int) - 1) = (l : Int) := by omega
                show ([some (.ref p), some (.int m), some (.int k), some (.int (n : Int)), some (.ref b), some (.int (v + m)), some (.int (((l + 1 : Nat) : Int) - 1)), some (.int ((0 : Int) + (i : Int)))] : List (Option V)) = _
                rw [el]
        · rintro σ H' ⟨rfl, v, l, x7, rfl, hf⟩
          rw [show 140 - 140 = 0 from rfl, nth] at hf
          cases hf
end
end My
set_option Elab.async false
set_option linter.all false
set_option maxRecDepth 100000
set_option maxHeartbeats 4000000
namespace My
open PySem PySem.Spec PyProof.Rows L2
theorem asc_ltV : ∀ {ns : List Int}, ns.Pairwise (· < ·) → (List.zipWith ltV (ns.map V.int) ((ns.map V.int).drop 1)).all id = true
  | [], _ => rfl
  | [n], _ => rfl
  | n :: m :: ns, h => by
    have ih := asc_ltV (List.pairwise_cons.mp h).2
    have lt := (List.pairwise_cons.mp h).1 m (List.mem_cons_self ..)
    have e : (List.zipWith ltV ((n :: m :: ns).map V.int) (((n :: m :: ns).map V.int).drop 1)).all id = (ltV (.int n) (.int m) && (List.zipWith ltV ((m :: ns).map V.int) (((m :: ns).map V.int).drop 1)).all id) := rfl
    rw [e, ih, show ltV (.int n) (.int m) = true from decide_eq_true lt]
    rfl
theorem okN_asc {ns : List Int} (h : Asc ns) : okN (some (ns.map V.int)) = true := by
  show (ascV (ns.map V.int) && decide ((ns.map V.int).length ≤ 8)) = true
  unfold ascV
  rw [asc_ltV h.1, List.length_map, decide_eq_true h.2.1]
  have e : (ns.map V.int).all valueV = true := by
    rw [List.all_eq_true]
    intro x hx
    obtain ⟨n, hn, rfl⟩ := List.mem_map.mp hx
    obtain ⟨a, b⟩ := h.2.2 n hn
    show (decide ((0 : Int) ≤ n) && decide (n ≤ 1000000000)) = true
    rw [decide_eq_true a, decide_eq_true b]
    rfl
  rw [e]
  rfl
theorem asc_one {z : Int} (h0 : 0 ≤ z) (h1 : z ≤ 1000000000) : Asc [z] := ⟨List.pairwise_singleton .., (by show 1 ≤ 8; decide), fun n hn => by rw [List.mem_singleton.mp hn]; exact ⟨h0, h1⟩⟩
theorem asc_drop {ns : List Int} (h : Asc ns) : Asc ns.dropLast := ⟨h.1.sublist (List.dropLast_sublist ns), Nat.le_trans (by rw [List.length_dropLast]; omega) h.2.1, fun n hn => h.2.2 n (List.dropLast_subset ns hn)⟩
theorem cut_m1 (xs : List V) : cutV xs none (some (-1)) = xs.dropLast := by
  show (xs.drop (HT.sIx xs.length 0 none)).take (HT.sIx xs.length xs.length (some (-1)) - HT.sIx xs.length 0 none) = xs.dropLast
  rw [HT.sIx_none, List.drop_zero, Nat.sub_zero, List.dropLast_eq_take]
  congr 1
  unfold HT.sIx
  dsimp only
  split <;> omega
/-- Sorts(x, m) of good things -/
theorem mk_good {K : PySem.W.Frag} {C B : Addr} {H : Hp} {x : V} {ns : List Int} {m : Int} {R : Hp → Prop} {E : XK} {s dx : Addr} (hx : SeqIn K H x (some (ns.map V.int))) (ok : okN (some (ns.map V.int)) = true) (m1 : 1 ≤ m) (m6 : m ≤ 6)
    (fs : H s = none) (nd : H dx = none) (ne : dx ≠ s) (q : ∀ H', Same H H' → SoAt K C H' s ns m → R H') : spSorts K C B [.ref s, x, .int m] (upd (upd H dx (.own s)) s (.ins C dx [])) (fun v H2 => v = .non ∧ R H2) E := by
  generalize eJ : upd (upd H dx _) s _ = J
  have aJ : J s = some (.ins C dx []) := by rw [← eJ, upd_same]
  have sJ : Same H J := by
    rw [← eJ]
    exact (same_upd nd).trans (same_upd (by rw [upd_ne (Ne.symm ne)]; exact fs))
  have hT : wholeV (.int m) (some 1) (some 6) = true := by
    show (decide ((1 : Int) ≤ m) && decide (m ≤ 6)) = true
    rw [decide_eq_true m1, decide_eq_true m6]
    rfl
  refine ⟨s, dx, x, .int m, _, rfl, aJ, hx.keep sJ, ⟨_, .int m⟩, fun xs eo _ _ t H1 kp es ht => ⟨rfl, ?_⟩, fun hF => ?_, fun _ hF => ?_⟩
  · have e' : ns.map V.int = xs := Option.some.inj eo
    subst e'
    exact q H1 (fun b u e => kp b u (sJ _ _ e) (fun z => by rw [z, fs] at e; cases e)) ⟨dx, t, es, ht⟩
  · rw [ok] at hF; cases hF
  · rw [hT] at hF; cases hF
structure EqC (P : Program) (w : World) (K : PySem.W.Frag) (mg : Str → Option Value) (base : Heap) (C : Addr) : Prop where
  ex : ∃ (f : Addr) (fd : FuncData) (ps : List Str), FnOk P w K mg base CX0 1 f fd ps (spEqS K C) ∧ PySem.W.findIn K (.ref C) "__eq__" = some (some (.ref f)) ∧ PySem.W.isFn K (.ref f) = true ∧ Binds K fd ps []
  nT : PySem.W.notFirst K C (.type "tuple") = true
  nN : PySem.W.notFirst K C (.type "NoneType") = true
  kT : PySem.W.kitOne K (.type "tuple") (.ref C) = some false
  kN : PySem.W.kitOne K (.type "NoneType") (.ref C) = some false
theorem op_eqS {X : Cx} {C : Addr} {j : Nat} (c : EqC X.prog X.w X.K X.mg X.base C) (hr : Room j X.A) (hj : 1 ≤ j) : OpR X (compareOp .Eq) (rEqOwn X.K C (spEqS X.K C)) := by
  obtain ⟨f, fd, ps, F, h1, h2, b⟩ := c.ex
  exact op_eqOwn F (hr.mono hj) h1 h2 b
theorem eq_two {K : PySem.W.Frag} {C : Addr} {H : Hp} {s o : Addr} {ns ns' : List Int} {m m' : Int} {Q : VK} (S : SoC K C) (hs : SoAt K C H s ns m) (ho : SoAt K C H o ns' m') (q : Q (.bl (decide (ns = ns') && decide (m = m'))) H) : rEqOwn K C (spEqS K C) (.ref s) (.ref o) H Q := by
  obtain ⟨dx, t, es, hq⟩ := id hs
  obtain ⟨dx', t', es', hq'⟩ := id ho
  exact ⟨s, dx, _, .ref C, rfl, es, .base (.ins es' S.i.cl S.i.ha S.i.hn S.i.htk S.i.hm), by simp [PySem.W.notFirst], s, ns, m, .ref o, rfl, hs, .inl ⟨o, ns', m', rfl, ho, ⟨_, rfl⟩, q⟩⟩
theorem eq_out {K : PySem.W.Frag} {C : Addr} {H : Hp} {s : Addr} {ns : List Int} {m : Int} {Q : VK} {y : V} {t : Value} (hs : SoAt K C H s ns m) (ty : TyX K H y t) (nf : PySem.W.notFirst K C t = true) (k : PySem.W.kitOne K t (.ref C) = some false) (q : Q (.bl false) H) : rEqOwn K C (spEqS K C) (.ref s) y H Q := by
  obtain ⟨dx, t', es, hq⟩ := id hs
  exact ⟨s, dx, _, t, rfl, es, ty, nf, s, ns, m, y, rfl, hs, .inr ⟨t, ty, k, ⟨_, rfl⟩, q⟩⟩
def spEqual (K : PySem.W.Frag) (C : Addr) : Sp := fun vs H Q _ => ∃ (a c s p : Addr) (ns : List Int) (m : Int), vs = [.ref a, .ref s, .ref p, .int m] ∧ Hand MH H a c ∧ SoAt K C (off H a) s ns m ∧ off H a p = some (.lst (ns.map V.int)) ∧ Asc ns ∧ 1 ≤ m ∧ m ≤ 6 ∧
  After a c H (fun _ v => v = .bl true) Q
section
variable {P : Program} {w : World} {K : PySem.W.Frag} {mg : Str → Option Value} {base : Heap} {C : Addr}
theorem sc__law_equal : FnScope ["_law_hand_here", "_law_sorts", "_law_named_here", "_law_modulus", "_law_other"] ["_law_hand_here", "_law_sorts", "_law_named_here", "_law_modulus"] (defScope (topS 38)) := ⟨rfl, rfl, rfl, by decide +kernel, rfl, by decide +kernel, by decide +kernel⟩
theorem ok_equal {f : Addr} {fd : FuncData} (F : L2.Fun K "_law_equal" "_law_equal" (topS 38) f fd) {BS : Addr} (S : SoC K C) (M : MkS P w K mg base C BS) (EQ : EqC P w K mg base C) (cV : Cal P w K mg base 3 "_law_value" spVal) (m_tuple : mg "tuple" = none) (m_list : mg "list" = none) : FnOk P w K mg base CX0 13 f fd ["_law_hand_here", "_law_sorts", "_law_named_here", "_law_modulus"] (spEqual K C) := by
  refine F.ok sc__law_equal (fun vs H Q E h => ?_) (fun cdv A outer s0 H vs Q E hr h => ?_)
  · obtain ⟨a, c, s, p, ns, m, rfl, _⟩ := h
    rfl
  · obtain ⟨a, c, s, p, ns, m, rfl, hh, hs, hp, asc, m1, m6, q⟩ := h
    refine ⟨_, (pss_cons (ps_if (PW.pt (pw_or (pt_not (pt_cmpR (op_eqS EQ hr (by decide)) (pe_mkX M takesF hr (by decide) (by rfl) (pa_cons (pe_callTy call_tuple_of (by rfl) m_tuple (by decide +kernel) (pa_cons (pv 2) pa_nil)) (pa_cons (pv 3) pa_nil))) (pv 1) (nomark _))) (pw_or1 (pt_not (pt_cmpR (op_eqS EQ hr (by decide)) (pv 1) (pe_mkX M takesF hr (by decide) (by rfl) (pa_cons (pe_callTy call_list_of (by rfl) m_list (by decide +kernel) (pa_cons (pv 2) pa_nil)) (pa_cons (pv 3) pa_nil))) (nomark _)))))) (pss_one (ps_ret pe_bl)) pss_nil)
      (pss_cons (ps_set (i := 4) sc__law_equal.nd rfl (.inl rfl) (pe_ifExp (pt_truth (pv 2) (by intro _; rfl)) (pe_slice sl_list (pv 2) po_none (po_some (pe_un un_neg pe_int))) (pe_lst (pa_cons (pe_c cV hr (by decide) rfl (pa_cons (pv 0) pa_nil)) pa_nil))))
      (pss_cons (ps_if (PW.pt (pw_or (pt_cmpR (op_eqS EQ hr (by decide)) (pe_mkX M takesF hr (by decide) (by rfl) (pa_cons (pv 4) (pa_cons (pv 3) pa_nil))) (pv 1) (nomark _)) (pw_or1 (pt_cmpR (op_eqS EQ hr (by decide)) (pe_mkX M takesF hr (by decide) (by rfl) (pa_cons (pv 2) (pa_cons (pe_op op_add (pe_op op_mod (pv 3) pe_int) pe_int) pa_nil))) (pv 1) (nomark _))))) (pss_one (ps_ret pe_bl)) pss_nil)
      (pss_one (ps_ret (pe_and (pe_not (pe_cmpR (op_eqS EQ hr (by decide)) (pv 1) (pe_tup (pa_cons (pe_callTy call_tuple_of (by rfl) m_tuple (by decide +kernel) (pa_cons (pv 2) pa_nil)) (pa_cons (pv 3) pa_nil))) (nomark _))) (pe_one (pe_not (pe_cmpR (op_eqS EQ hr (by decide)) (pv 1) pe_non (nomark _)))))))))), ?_⟩
    have ok := okN_asc asc
    have few : (ns.map V.int).length ≤ 1000 := by
      have := asc.2.1
      rw [List.length_map]
      omega
    have hp0 := (off_at hp).1
    have same : (decide (ns = ns) && decide (m = m)) = true := by simp
    -- Sorts(tuple(named), m) == sorts
    refine ⟨_, rfl, p, _, rfl, .inl ⟨SqL.of hp0, fun l nl => ⟨_, rfl, ?_⟩⟩⟩
    generalize e1 : upd H l _ = H1
    have t1 := gs e1 nl
    have w1 := ga e1
    clear e1
    refine fun s1 dx1 n1 nd1 ne1 => mk_good (seq_tup w1 few (flat_ints ns)) ok m1 m6 n1 nd1 ne1 fun H2 t2 hs1 => ?_
    refine ⟨_, rfl, eq_two S hs1 ((hs.keep off_same).keep (t1.trans t2)) ?_⟩
    rw [same]
    refine ⟨_, rfl, iteF ?_⟩
    -- sorts == Sorts(list(named), m)
    have t12 := t1.trans t2
    refine ⟨_, rfl, _, rfl, p, _, rfl, .inl (SqL.of (t12 _ _ hp0)), fun l2 nl2 => ⟨_, rfl, ?_⟩⟩
    generalize e3 : upd H2 l2 _ = H3
    have t3 := gs e3 nl2
    have w3 := ga e3
    clear e3
    refine fun s2 dx2 n2 nd2 ne2 => mk_good (seq_lst w3 few (flat_ints ns)) ok m1 m6 n2 nd2 ne2 fun H4 t4 hs2 => ?_
    have t14 := (t12.trans t3).trans t4
    refine eq_two S ((hs.keep off_same).keep t14) hs2 ?_
    rw [same]
    refine ⟨_, rfl, iteF ?_⟩
    have hp4 := t14 _ _ hp0
    have h4 := hh.keep t14
    have o4 : Same (off H a) (off H4 a) := off_keep t14
    have small : ∀ (us : List Int), Asc us → (us.map V.int).length ≤ 1000 := fun us h => by
      have := h.2.1
      rw [List.length_map]
      omega
    have s4 : Same (off H a) (off H4 a) := o4
    clear n1 nd1 ne1 n2 nd2 ne2 hs1 hs2 w1 w3 t1 t2 t3 t4 t12 t14 o4
    refine ⟨_, rfl, _, .inl ⟨_, SqL.of hp4, rfl⟩, ?_⟩
    cases ns with
    | nil =>
      refine iteF ⟨_, rfl, a, c, rfl, h4, fun v H5 h5 s5 hv => ?_⟩
      obtain ⟨z, rfl, z0, z1⟩ := hv
      refine ⟨(by show 1 ≤ sizeLine; decide), fun o no => ?_⟩
      generalize e5 : upd H5 o _ = H6
      have t5 := gs e5 no
      have w5 : H6 o = some (.lst ([z].map V.int)) := ga e5
      clear e5
      have h6 := h5.keep t5
      have s6 : Same (off H a) (off H6 a) := (s4.trans s5).trans (off_keep t5)
      have hp6 := (off_at (s6 _ _ hp)).1
      have asc5 : Asc ([z]) := asc_one z0 z1
      have ne5 : ([z]) ≠ [] := (by simp)
      generalize [z] = us at w5 asc5 ne5
      have f1 : (decide (us = []) && decide (m = m)) = false := by rw [decide_eq_false ne5]; rfl
      refine ⟨_, rfl, _, rfl, fun s1 dx1 n1 nd1 ne1 => mk_good (seq_lst w5 (small us asc5) (flat_ints us)) (okN_asc asc5) m1 m6 n1 nd1 ne1 fun H7 t7 hs7 => ?_⟩
      have so7 := ((hs.keep s6).keep off_same).keep t7
      refine ⟨_, rfl, eq_two S hs7 so7 ?_⟩
      rw [f1]
      refine ⟨_, rfl, iteF ?_⟩
      have h7 := h6.keep t7
      have s7 : Same (off H a) (off H7 a) := s6.trans (off_keep t7)
      have hp7 := (off_at (s7 _ _ hp)).1
      refine ⟨_, rfl, _, rfl, _, _, rfl, rfl, (by show (0 : Int) < 6; decide), _, _, rfl, rfl, ?_⟩
      have lo : 1 ≤ m % 6 + 1 := by omega
      have hi : m % 6 + 1 ≤ 6 := by omega
      refine fun s2 dx2 n2 nd2 ne2 => mk_good (seq_lst hp7 few (flat_ints _)) ok lo hi n2 nd2 ne2 fun H8 t8 hs8 => ?_
      have f2 : (decide (([] : List Int) = []) && decide (m % 6 + 1 = m)) = false := by rw [decide_eq_false (show ¬ m % 6 + 1 = m by omega), Bool.and_false]
      refine ⟨_, rfl, eq_two S hs8 (so7.keep t8) ?_⟩
      rw [f2]
      refine ⟨_, rfl, iteF ?_⟩
      have h8 := h7.keep t8
      have s8 : Same (off H a) (off H8 a) := s7.trans (off_keep t8)
      have hp8 := (off_at (s8 _ _ hp)).1
      refine ⟨_, rfl, _, rfl, p, _, rfl, .inl ⟨SqL.of hp8, fun l8 nl8 => ?_⟩⟩
      generalize e9 : upd H8 l8 _ = H9
      have t9 := gs e9 nl8
      clear e9
      have h9 := h8.keep t9
      have s9 : Same (off H a) (off H9 a) := s8.trans (off_keep t9)
      refine ⟨_, rfl, (by show 2 ≤ sizeLine; decide), fun l9 nl9 => ?_⟩
      generalize e10 : upd H9 l9 _ = H10
      have t10 := gs e10 nl9
      have w10 := ga e10
      clear e10
      have h10 := h9.keep t10
      have s10 : Same (off H a) (off H10 a) := s9.trans (off_keep t10)
      have so10 := (hs.keep s10).keep off_same
      refine eq_out so10 (.base (.tup w10)) EQ.nT EQ.kT ?_
      refine ⟨_, rfl, ⟨true, rfl, iteT ?_⟩⟩
      refine ⟨_, rfl, eq_out so10 (.base .non) EQ.nN EQ.kN ?_⟩
      exact ⟨_, rfl, q _ H10 h10 s10 rfl⟩
    | cons n0 ns0 =>
      generalize en : n0 :: ns0 = ns at *
      have tru : (!(ns.map V.int).isEmpty) = true := by
        rw [← en]
        rfl
      rw [tru]
      refine iteT ⟨_, rfl, _, rfl, _, rfl, p, _, rfl, SqL.of hp4, fun o no => ?_⟩
      generalize e5 : upd H4 o _ = H6
      have t5 := gs e5 no
      have w5 := ga e5
      clear e5
      rw [show cutV (ns.map V.int) none (some (-1)) = ns.dropLast.map V.int from by rw [cut_m1, List.map_dropLast]] at w5
      have h6 := h4.keep t5
      have s6 : Same (off H a) (off H6 a) := s4.trans (off_keep t5)
      have hp6 := (off_at (s6 _ _ hp)).1
      have asc5 : Asc (ns.dropLast) := asc_drop asc
      have ne5 : (ns.dropLast) ≠ ns := (fun z => by have := congrArg List.length z; rw [List.length_dropLast, ← en] at this; simp at this)
      generalize ns.dropLast = us at w5 asc5 ne5
      have f1 : (decide (us = ns) && decide (m = m)) = false := by rw [decide_eq_false ne5]; rfl
      refine ⟨_, rfl, _, rfl, fun s1 dx1 n1 nd1 ne1 => mk_good (seq_lst w5 (small us asc5) (flat_ints us)) (okN_asc asc5) m1 m6 n1 nd1 ne1 fun H7 t7 hs7 => ?_⟩
      have so7 := ((hs.keep s6).keep off_same).keep t7
      refine ⟨_, rfl, eq_two S hs7 so7 ?_⟩
      rw [f1]
      refine ⟨_, rfl, iteF ?_⟩
      have h7 := h6.keep t7
      have s7 : Same (off H a) (off H7 a) := s6.trans (off_keep t7)
      have hp7 := (off_at (s7 _ _ hp)).1
      refine ⟨_, rfl, _, rfl, _, _, rfl, rfl, (by show (0 : Int) < 6; decide), _, _, rfl, rfl, ?_⟩
      have lo : 1 ≤ m % 6 + 1 := by omega
      have hi : m % 6 + 1 ≤ 6 := by omega
      refine fun s2 dx2 n2 nd2 ne2 => mk_good (seq_lst hp7 few (flat_ints _)) ok lo hi n2 nd2 ne2 fun H8 t8 hs8 => ?_
      have f2 : (decide (ns = ns) && decide (m % 6 + 1 = m)) = false := by rw [decide_eq_false (show ¬ m % 6 + 1 = m by omega), Bool.and_false]
      refine ⟨_, rfl, eq_two S hs8 (so7.keep t8) ?_⟩
      rw [f2]
      refine ⟨_, rfl, iteF ?_⟩
      have h8 := h7.keep t8
      have s8 : Same (off H a) (off H8 a) := s7.trans (off_keep t8)
      have hp8 := (off_at (s8 _ _ hp)).1
      refine ⟨_, rfl, _, rfl, p, _, rfl, .inl ⟨SqL.of hp8, fun l8 nl8 => ?_⟩⟩
      generalize e9 : upd H8 l8 _ = H9
      have t9 := gs e9 nl8
      clear e9
      have h9 := h8.keep t9
      have s9 : Same (off H a) (off H9 a) := s8.trans (off_keep t9)
      refine ⟨_, rfl, (by show 2 ≤ sizeLine; decide), fun l9 nl9 => ?_⟩
      generalize e10 : upd H9 l9 _ = H10
      have t10 := gs e10 nl9
      have w10 := ga e10
      clear e10
      have h10 := h9.keep t10
      have s10 : Same (off H a) (off H10 a) := s9.trans (off_keep t10)
      have so10 := (hs.keep s10).keep off_same
      refine eq_out so10 (.base (.tup w10)) EQ.nT EQ.kT ?_
      refine ⟨_, rfl, ⟨true, rfl, iteT ?_⟩⟩
      refine ⟨_, rfl, eq_out so10 (.base .non) EQ.nN EQ.kN ?_⟩
      exact ⟨_, rfl, q _ H10 h10 s10 rfl⟩
end
end My
set_option Elab.async false
set_option linter.all false
set_option maxRecDepth 100000
set_option maxHeartbeats 4000000
namespace My
open PySem PySem.Spec PyProof.Rows L2
def spRefused (K : PySem.W.Frag) : Sp := fun vs H Q _ => ∃ (a c p : Addr) (ns : List Int) (m : Int), vs = [.ref a, .ref p, .int m] ∧ Hand MH H a c ∧ off H a p = some (.lst (ns.map V.int)) ∧ Asc ns ∧ 1 ≤ m ∧ m ≤ 6 ∧
  After a c H (fun _ v => v = .bl true) Q
/-- Sorts(x, y) of a wrong modulus -/
theorem mk_badm {K : PySem.W.Frag} {C B : Addr} {H : Hp} {x y : V} {o : Option (List V)} {E : XK} {s dx : Addr} {Q : VK} (hx : SeqIn K H x o) (ok : okN o = true) (ty : ∃ t, TyOf K H y (.type t)) (bad : wholeV y (some 1) (some 6) = false)
    (fs : H s = none) (nd : H dx = none) (ne : dx ≠ s) (q : ∀ (dd : Addr) (H' : Hp), Same H H' → H' dd = some (.xd [("what", .str "modulus")]) → E (.ref B) (some dd) H') : spSorts K C B [.ref s, x, y] (upd (upd H dx (.own s)) s (.ins C dx [])) Q E := by
  generalize eJ : upd (upd H dx _) s _ = J
  have aJ : J s = some (.ins C dx []) := by rw [← eJ, upd_same]
  have sJ : Same H J := by
    rw [← eJ]
    exact (same_upd nd).trans (same_upd (by rw [upd_ne (Ne.symm ne)]; exact fs))
  refine ⟨s, dx, x, y, o, rfl, aJ, hx.keep sJ, ty.imp fun _ h => TyOf.keep h sJ, fun _ _ _ hT => ?_, fun hF => ?_, fun _ _ dd H' s1 _ ed => q dd H' (sJ.trans s1) ed⟩
  · rw [bad] at hT; cases hT
  · rw [ok] at hF; cases hF
theorem dep_bad (x : Str) : dep (madeBad x) ≤ 2 := by
  unfold madeBad
  simp [dep, depAll]
theorem tup_bad (x : Str) : tupD (madeBad x) = true := by
  unfold madeBad
  simp [tupD, tupDs]
theorem dp_bad {K : PySem.W.Frag} {H : Hp} {q : Addr} {x : Str} (h : H q = some (.tup [.str "bad", .str x])) : Dp K H (.ref q) (madeBad x) := .tup (SqT.of h) (.cons (.str _) (.cons (.str _) .nil))
section
variable {P : Program} {w : World} {K : PySem.W.Frag} {mg : Str → Option Value} {base : Heap} {C : Addr}
theorem sc__law_refused : FnScope ["_law_hand_here", "_law_named_here", "_law_modulus", "_law_odd", "_law_wrong", "raised"] ["_law_hand_here", "_law_named_here", "_law_modulus"] (defScope (topS 32)) := ⟨rfl, rfl, rfl, by decide +kernel, rfl, by decide +kernel, by decide +kernel⟩
theorem ok_refused {f : Addr} {fd : FuncData} (F : L2.Fun K "_law_refused" "_law_refused" (topS 32) f fd) {BS NS DE : Addr} (M : MkS P w K mg base C BS) (cD : Cal P w K mg base 2 "_law_draw" (spDraw MH)) (cO : Cal P w K mg base 3 "_law_odd_named" (spOddN K)) (cM : Cal P w K mg base 13 "_law_made" (spMade K)) (cE : ∀ n : Nat, Cal P w K mg base (n + 1) "_law_exact" (spExact K n)) (gS : mg "BadSorts" = some (.ref BS)) (gNS : mg "NoSort" = some (.ref NS)) (gDE : mg "DealError" = some (.ref DE)) (TB : ExT K BS) (m_isinstance : mg "isinstance" = none) (m_ValueError : mg "ValueError" = none) (hB : Caught K BS DE true) (k1 : PySem.W.kitOne K (.ref BS) (.ref BS) = some true) (k2 : PySem.W.kitOne K (.ref BS) (.type "ValueError") = some true) (k3 : PySem.W.kitOne K (.ref BS) (.ref NS) = some false) : FnOk P w K mg base CX0 14 f fd ["_law_hand_here", "_law_named_here", "_law_modulus"] (spRefused K) := by
  refine F.ok sc__law_refused (fun vs H Q E h => ?_) (fun cdv A outer s0 H vs Q E hr h => ?_)
  · obtain ⟨a, c, p, ns, m, rfl, _⟩ := h
    rfl
  · obtain ⟨a, c, p, ns, m, rfl, hh, hp, asc, m1, m6, q⟩ := h
    refine ⟨_, (pss_cons (ps_set (i := 3) sc__law_refused.nd rfl (.inl rfl) (pe_ix ix_list (pe_lst (pa_cons pe_int (pa_cons pe_int (pa_cons (pe_un un_neg pe_int) (pa_cons pe_bl (pa_cons pe_non (pa_cons pe_str (pa_cons (pe_tup (pa_cons pe_int pa_nil)) (pa_cons (pe_op op_pow pe_int pe_int) (pa_cons (pe_op op_add pe_int (pe_c cD hr (by decide) rfl (pa_cons (pv 0) (pa_cons pe_int pa_nil)))) pa_nil)))))))))) (pe_c cD hr (by decide) rfl (pa_cons (pv 0) (pa_cons pe_int pa_nil))) (fun _ _ => rfl)))
      (pss_cons (ps_set (i := 4) sc__law_refused.nd rfl (.inl rfl) (pe_c cO hr (by decide) rfl (pa_cons (pv 0) (pa_cons (pv 1) pa_nil))))
      (pss_cons (ps_if (PW.pt (pw_or (pt_not (pt_truth (pe_c (cE 3) hr (by decide) rfl (pa_cons (pe_c cM hr (by decide) rfl (pa_cons (pv 4) (pa_cons (pv 2) pa_nil))) (pa_cons (pe_tup (pa_cons pe_str (pa_cons pe_str pa_nil))) pa_nil))) (by intro _; rfl))) (pw_or1 (pt_not (pt_truth (pe_c (cE 3) hr (by decide) rfl (pa_cons (pe_c cM hr (by decide) rfl (pa_cons (pv 4) (pa_cons (pv 3) pa_nil))) (pa_cons (pe_tup (pa_cons pe_str (pa_cons pe_str pa_nil))) pa_nil))) (by intro _; rfl)))))) (pss_one (ps_ret pe_bl)) pss_nil)
      (pss_cons (ps_if (pt_not (pt_truth (pe_c (cE 3) hr (by decide) rfl (pa_cons (pe_c cM hr (by decide) rfl (pa_cons (pv 1) (pa_cons (pv 3) pa_nil))) (pa_cons (pe_tup (pa_cons pe_str (pa_cons pe_str pa_nil))) pa_nil))) (by intro _; rfl))) (pss_one (ps_ret pe_bl)) pss_nil)
      (pss_one (L2N.ps_try_as (i := 5) rfl rfl sc__law_refused.nd rfl rfl ⟨rfl, by decide, .inl gDE⟩ takesF (fun W pn xe tk _ => (pss_cons (ps_expr (show PE _ _ (tMkS C (spSorts K C BS) (WE W) _) from pe_mkX M tk hr (by decide) (by rfl) (pa_cons (pv 1) (pa_cons (pv 3) pa_nil)))) (pss_one (ps_ret pe_bl)))) (fun a oe cls d pn hz hf => (pss_one (ps_ret (pe_and (pe_callB (call_isX hz.zc hf) (by rfl) m_isinstance (by decide +kernel) (pa_cons (pv 5) (pa_cons (pe_glob (v := .ref BS) (by rfl) gS rfl) pa_nil))) (pe_and (pe_callB (call_isX hz.zc hf) (by rfl) m_isinstance (by decide +kernel) (pa_cons (pv 5) (pa_cons (pe_bltn (v := .ty "ValueError") (by rfl) m_ValueError (by decide +kernel) rfl) pa_nil))) (pe_one (pe_not (pe_callB (call_isX hz.zc hf) (by rfl) m_isinstance (by decide +kernel) (pa_cons (pv 5) (pa_cons (pe_glob (v := .ref NS) (by rfl) gNS rfl) pa_nil)))))))))))))))), ?_⟩
    refine ⟨_, rfl, (by show 1 ≤ sizeLine; decide), fun t3 nt3 => ?_⟩
    generalize e0 : upd H t3 _ = H0
    have s0 := gs e0 nt3
    have w0 := ga e0
    clear e0
    have hh0 := hh.keep s0
    have nt : t3 ≠ a := hh.new nt3
    refine ⟨_, _, rfl, rfl, ⟨by decide, by decide, by decide⟩, ?_⟩
    refine ⟨_, rfl, a, c, _, rfl, hh0, (by decide), (small8000 (by decide) (by decide)), fun v1 l1 v1a v1b h1 => ?_⟩
    generalize e1 : upd H0 a (.lst l1) = H1 at h1 ⊢
    have o1 : off H1 a = off H0 a := by
      rw [← e1]
      exact off_put
    clear e1
    refine ⟨_, _, rfl, rfl, (by show 9 ≤ sizeLine; decide), fun l nl => ?_⟩
    generalize eL : upd H1 l _ = L
    have sL := gs eL nl
    have aL := ga eL
    clear eL
    have hL := h1.keep sL
    have nla : l ≠ a := h1.new nl
    have s2 : Same (off H a) (off L a) := by
      have x1 : Same (off H a) (off H1 a) := by
        rw [o1]
        exact off_keep s0
      exact x1.trans (off_keep sL)
    have w2 : off L a t3 = some (.tup [.int 3]) := by
      have x1 : off H1 a t3 = some (.tup [.int 3]) := by
        rw [o1, off_ne nt]
        exact w0
      exact off_keep sL _ _ x1
    have lx : off L a l = some (.lst [.int 0, .int 7, .int (-1), .bl true, .non, .str "2", .ref t3, .int (10 ^ 30), .int (7 + v1)]) := by
      rw [off_ne nla]
      exact aL
    clear aL w0
    refine ⟨_, rfl, a, c, _, rfl, hL, (by decide), (small8000 (by decide) (by decide)), fun v2 l2 v2a v2b h2 => ?_⟩
    generalize e2 : upd L a (.lst l2) = H2 at h2 ⊢
    have o2 : off H2 a = off L a := by
      rw [← e2]
      exact off_put
    clear e2
    have s3 : Same (off H a) (off H2 a) := by
      rw [o2]
      exact s2
    rw [← o2] at w2 lx
    have odd : ∃ x : V, atI [V.int 0, .int 7, .int (-1), .bl true, .non, .str "2", .ref t3, .int (10 ^ 30), .int (7 + v1)] v2 = some x ∧ wholeV x (some 1) (some 6) = false ∧ ∃ t, TyOf K (off H2 a) x (.type t) := by
      have nine : v2 = 0 ∨ v2 = 1 ∨ v2 = 2 ∨ v2 = 3 ∨ v2 = 4 ∨ v2 = 5 ∨ v2 = 6 ∨ v2 = 7 ∨ v2 = 8 := by omega
      rcases nine with rfl | rfl | rfl | rfl | rfl | rfl | rfl | rfl | rfl
      · exact ⟨_, atI_nat (j := 0) rfl, by decide +kernel, _, .int _⟩
      · exact ⟨_, atI_nat (j := 1) rfl, by decide +kernel, _, .int _⟩
      · exact ⟨_, atI_nat (j := 2) rfl, by decide +kernel, _, .int _⟩
      · exact ⟨_, atI_nat (j := 3) rfl, rfl, _, .bl _⟩
      · exact ⟨_, atI_nat (j := 4) rfl, rfl, _, .non⟩
      · exact ⟨_, atI_nat (j := 5) rfl, rfl, _, .str _⟩
      · exact ⟨_, atI_nat (j := 6) rfl, rfl, _, .tup w2⟩
      · exact ⟨_, atI_nat (j := 7) rfl, by decide +kernel, _, .int _⟩
      · refine ⟨_, atI_nat (j := 8) rfl, ?_, _, .int _⟩
        show (decide ((1 : Int) ≤ 7 + v1) && decide (7 + v1 ≤ 6)) = false
        rw [decide_eq_false (show ¬ 7 + v1 ≤ 6 by omega), Bool.and_false]
    obtain ⟨x, ex, hx, tx⟩ := odd
    refine ⟨l, _, _, x, rfl, rfl, SqL.of (off_at lx).1, ex, ?_⟩
    refine ⟨_, rfl, _, rfl, a, c, p, ns, rfl, h2, s3 _ _ hp, asc, fun y H3 h3 s4' ho => ?_⟩
    obtain ⟨o, sx, bad⟩ := ho
    have s4 : Same (off H a) (off H3 a) := s3.trans s4'
    have tx4 : ∃ t, TyOf K (off H3 a) x (.type t) := tx.imp fun _ h => TyOf.keep h s4'
    -- made(wrong, m)
    refine ⟨_, rfl, _, rfl, y, _, o, rfl, sx.keep off_same, ⟨_, .int m⟩, .inr (.inl ⟨bad, fun p1 H4 t4 d4 => ?_⟩)⟩
    have s5 : Same (off H a) (off H4 a) := s4.trans (off_keep t4)
    have h4 := h3.keep t4
    refine ⟨(by show 2 ≤ sizeLine; decide), fun b1 nb1 => ?_⟩
    generalize f1 : upd H4 b1 _ = H5
    have t5 := gs f1 nb1
    have u5 := ga f1
    clear f1
    refine ⟨_, _, _, rfl, dp_keep t5 _ _ d4, dp_bad u5, tup_bad _, Nat.le_trans (dep_bad _) (by decide), fun H6 t6 => ⟨_, rfl, ?_⟩⟩
    refine iteF ?_
    have t46 := (t4.trans t5).trans t6
    have h6 := h3.keep t46
    have s6 : Same (off H a) (off H6 a) := s4.trans (off_keep t46)
    -- made(wrong, odd)
    refine ⟨_, rfl, _, rfl, y, _, o, rfl, (sx.keep off_same).keep t46, (tx4.imp fun _ h => TyOf.keep (TyOf.keep h off_same) t46), .inr (.inl ⟨bad, fun p2 H7 t7 d7 => ?_⟩)⟩
    refine ⟨(by show 2 ≤ sizeLine; decide), fun b2 nb2 => ?_⟩
    generalize f2 : upd H7 b2 _ = H8
    have t8 := gs f2 nb2
    have u8 := ga f2
    clear f2
    refine ⟨_, _, _, rfl, dp_keep t8 _ _ d7, dp_bad u8, tup_bad _, Nat.le_trans (dep_bad _) (by decide), fun H9 t9 => ⟨_, rfl, ?_⟩⟩
    refine iteF ?_
    have t49 := ((t46.trans t7).trans t8).trans t9
    have h9 := h3.keep t49
    have s9 : Same (off H a) (off H9 a) := s4.trans (off_keep t49)
    have ok := okN_asc asc
    have few : (ns.map V.int).length ≤ 1000 := by
      have := asc.2.1
      rw [List.length_map]
      omega
    have sp9 : SeqIn K H9 (.ref p) (some (ns.map V.int)) := seq_lst (off_at (s9 _ _ hp)).1 few (flat_ints ns)
    have tx9 : ∃ t, TyOf K H9 x (.type t) := tx4.imp fun _ h => TyOf.keep (TyOf.keep h off_same) t49
    -- made(named, odd)
    refine ⟨_, rfl, _, rfl, _, _, _, rfl, sp9, tx9, .inr (.inr ⟨ok, hx, fun p3 H10 t10 d10 => ?_⟩)⟩
    refine ⟨(by show 2 ≤ sizeLine; decide), fun b3 nb3 => ?_⟩
    generalize f3 : upd H10 b3 _ = H11
    have t11 := gs f3 nb3
    have u11 := ga f3
    clear f3
    refine ⟨_, _, _, rfl, dp_keep t11 _ _ d10, dp_bad u11, tup_bad _, Nat.le_trans (dep_bad _) (by decide), fun H12 t12 => ⟨_, rfl, ?_⟩⟩
    refine iteF ?_
    have t912 := (t10.trans t11).trans t12
    -- Sorts(named, odd)
    refine ⟨_, rfl, _, rfl, fun s dx ns nd ne => mk_badm (sp9.keep t912) ok (tx9.imp fun _ h => TyOf.keep h t912) hx ns nd ne fun dd H13 t13 ed => ?_⟩
    refine ⟨true, hB, fun _ a' na => ?_, fun z => nomatch z⟩
    have fin : Q (.bl true) H13 := q _ H13 (h9.keep (t912.trans t13)) (s9.trans (off_keep (t912.trans t13))) rfl
    refine ⟨_, rfl, ⟨BS, _, _, true, dd, _, rfl, rfl, TB, rfl, ed, .own BS, k1, ?_⟩⟩
    refine ⟨true, rfl, iteT ?_⟩
    refine ⟨_, rfl, ⟨BS, _, _, true, dd, _, rfl, rfl, TB, rfl, ed, .ty "ValueError", k2, ?_⟩⟩
    refine ⟨true, rfl, iteT ?_⟩
    refine ⟨_, rfl, ⟨BS, _, _, false, dd, _, rfl, rfl, TB, rfl, ed, .own NS, k3, ?_⟩⟩
    exact ⟨_, rfl, fin⟩
end
end My
set_option Elab.async false
set_option linter.all false
set_option maxRecDepth 100000
set_option maxHeartbeats 4000000
namespace My
open PySem PySem.Spec PyProof.Rows L2
def spSorted (K : PySem.W.Frag) (C : Addr) : Sp := fun vs H Q _ => ∃ (a c s p : Addr) (ns : List Int) (m : Int), vs = [.ref a, .ref s, .ref p, .int m] ∧ Hand MH H a c ∧ SoAt K C (off H a) s ns m ∧ off H a p = some (.lst (ns.map V.int)) ∧ Asc ns ∧ 1 ≤ m ∧ m ≤ 6 ∧
  After a c H (fun _ v => v = .bl true) Q
theorem cut_ints (us : List Int) (lo hi : Option Int) : ∃ ws : List Int, cutV (us.map V.int) lo hi = ws.map V.int ∧ ws.length ≤ us.length := by
  refine ⟨(us.drop (HT.sIx us.length 0 lo)).take (HT.sIx us.length us.length hi - HT.sIx us.length 0 lo), ?_, ?_⟩
  · show ((us.map V.int).drop (HT.sIx (us.map V.int).length 0 lo)).take (HT.sIx (us.map V.int).length (us.map V.int).length hi - HT.sIx (us.map V.int).length 0 lo) = _
    rw [List.length_map, List.map_take, List.map_drop]
  · rw [List.length_take, List.length_drop]
    omega
theorem tup_kind (t : Int) (us : List Int) (h : us.length ≤ 1000) : tupD (.tuple [.int t, .tuple (us.map PyData.int)]) = true := by
  have e : tupDs (us.map PyData.int) = true := tupDs_of fun d m => by
    obtain ⟨n, _, rfl⟩ := List.mem_map.mp m
    rw [tupD]
  simp [tupD, tupDs, e, h]
theorem dep_ints : ∀ us : List Int, depAll (us.map PyData.int) = 0
  | [] => by simp [depAll]
  | u :: us => by simp [depAll, dep, dep_ints us]
theorem dep_kind (t : Int) (us : List Int) : dep (.tuple [.int t, .tuple (us.map PyData.int)]) ≤ 3 := by
  simp [dep, depAll, dep_ints us]
section
variable {P : Program} {w : World} {K : PySem.W.Frag} {mg : Str → Option Value} {base : Heap} {C : Addr}
theorem sc__law_values_sorted : FnScope ["_law_hand_here", "_law_sorts", "_law_named_here", "_law_modulus", "_law_values", "_law_value_here", "_law_k", "_law_odd", "_law_row"] ["_law_hand_here", "_law_sorts", "_law_named_here", "_law_modulus"] (defScope (topS 35)) := ⟨rfl, rfl, rfl, by decide +kernel, rfl, by decide +kernel, by decide +kernel⟩
theorem ok_sorted {f : Addr} {fd : FuncData} (F : L2.Fun K "_law_values_sorted" "_law_values_sorted" (topS 35) f fd) {BV : Addr} (S : SoC K C) (M : MtS P w K mg base C "sort_of" (spSortOf K C BV) []) (cKO : C8.Met P w K mg base 2 C "kind_of" (spKindOf K C) []) (cD : Cal P w K mg base 2 "_law_draw" (spDraw MH)) (cS : Cal P w K mg base 4 "_law_some_value" (spSome K)) (cSo : Cal P w K mg base 1 "_law_sort" (spSort K)) (cKi : Cal P w K mg base 2 "_law_kind" (spKind K)) (cA : Cal P w K mg base 13 "_law_sort_asked" (spAsked K C)) (cE : ∀ n : Nat, Cal P w K mg base (n + 1) "_law_exact" (spExact K n)) (m_range : mg "range" = none) (m_tuple : mg "tuple" = none) : FnOk P w K mg base CX0 14 f fd ["_law_hand_here", "_law_sorts", "_law_named_here", "_law_modulus"] (spSorted K C) := by
  refine F.ok sc__law_values_sorted (fun vs H Q E h => ?_) (fun cdv A outer s0 H vs Q E hr h => ?_)
  · obtain ⟨a, c, s, p, ns, m, rfl, _⟩ := h
    rfl
  · obtain ⟨a, c, s, p, ns, m, rfl, hh, hs, hp, asc, m1, m6, q⟩ := h
    refine ⟨_, (pss_cons (ps_setLc (i := 4) (own := [("_law_k", 6)]) (g := gName 6) (tt := tYes) rfl sc__law_values_sorted.nd rfl rfl (sw_true rfl rfl rfl (by decide +kernel)) (pi_range1 (by rfl) m_range (pa_cons pe_int pa_nil)) (blkOk_by (N := ["_law_hand_here", "_law_sorts", "_law_named_here", "_law_modulus", "_law_values", "_law_value_here", "_law_k", "_law_odd", "_law_row"]) (sc := defScope (topS 35)) (by decide +kernel)) (fun _ _ _ _ _ => pg_name (i := 6) sc__law_values_sorted.nd rfl (Or.inl rfl)) (fun _ _ _ _ _ => pts_nil) (fun _ _ _ _ _ => (pe_c cS hr (by decide) rfl (pa_cons (pv 0) (pa_cons (pv 2) pa_nil)))))
      (pss_cons (ps_for PassesOwn.never rfl (pi_list (pe_op op_cat (pv 4) (pe_lst (pa_cons pe_int (pa_cons (pe_op op_pow pe_int pe_int) pa_nil))))) (pg_name (i := 5) sc__law_values_sorted.nd rfl (.inl rfl)) (pss_one (ps_if (pt_not (pt_truth (pe_c (cE 3) hr (by decide) rfl (pa_cons (pe_mtX M S.i.cl takesF hr (by decide) (pv 1) (pa_cons (pv 5) pa_nil)) (pa_cons (pe_c cSo hr (by decide) rfl (pa_cons (pv 2) (pa_cons (pv 3) (pa_cons (pv 5) pa_nil)))) pa_nil))) (by intro _; rfl))) (pss_one (ps_ret pe_bl)) pss_nil)))
      (pss_cons (ps_for PassesOwn.never rfl (pi_range1 (by rfl) m_range (pa_cons pe_int pa_nil)) (pg_name (i := 6) sc__law_values_sorted.nd rfl (.inl rfl)) (pss_cons (ps_set (i := 8) sc__law_values_sorted.nd rfl (.inl rfl) (pe_tup (pa_cons (pe_c cD hr (by decide) rfl (pa_cons (pv 0) (pa_cons pe_int pa_nil))) (pa_cons (pe_callTy call_tuple_of (by rfl) m_tuple (by decide +kernel) (pa_cons (pe_slice sl_list (pv 4) (po_some (pv 6)) (po_some (pe_op op_add (pe_op op_mul pe_int (pv 6)) pe_int))) pa_nil)) pa_nil)))) (pss_one (ps_if (pt_not (pt_truth (pe_c (cE 3) hr (by decide) rfl (pa_cons (C8.pe_mt cKO hr (by decide) (pv 1) (pa_cons (pv 8) pa_nil)) (pa_cons (pe_c cKi hr (by decide) rfl (pa_cons (pv 2) (pa_cons (pv 3) (pa_cons (pv 8) pa_nil)))) pa_nil))) (by intro _; rfl))) (pss_one (ps_ret pe_bl)) pss_nil))))
      (pss_cons (ps_for PassesOwn.never rfl (pi_list (pe_lst (pa_cons (pe_un un_neg pe_int) (pa_cons (pe_op op_add (pe_op op_pow pe_int pe_int) pe_int) (pa_cons (pe_op op_sub (pe_un un_neg pe_int) (pe_c cD hr (by decide) rfl (pa_cons (pv 0) (pa_cons (pe_op op_pow pe_int pe_int) pa_nil)))) (pa_cons pe_non (pa_cons pe_bl (pa_cons pe_str (pa_cons (pe_tup (pa_cons pe_int pa_nil)) pa_nil))))))))) (pg_name (i := 7) sc__law_values_sorted.nd rfl (.inl rfl)) (pss_one (ps_if (pt_not (pt_truth (pe_c (cE 3) hr (by decide) rfl (pa_cons (pe_c cA hr (by decide) rfl (pa_cons (pv 1) (pa_cons (pv 7) pa_nil))) (pa_cons (pe_tup (pa_cons pe_str (pa_cons (pv 7) pa_nil))) pa_nil))) (by intro _; rfl))) (pss_one (ps_ret pe_bl)) pss_nil)))
      (pss_one (ps_ret pe_bl)))))), ?_⟩
    obtain ⟨dx, tn, es0, _⟩ := id hs
    have m0 : 0 < m := by omega
    -- the eight values
    refine ⟨(8 : Int), rfl, by decide, by decide, fun D nD => lc_range (lo := 0) (n := 8) (fun k H' => Hand MH H' a c ∧ Same (off H a) (off H' a) ∧ ∃ us : List Int, off H' a D = some (.lst (us.map V.int)) ∧ us.length = k ∧ ∀ u ∈ us, 0 ≤ u ∧ u ≤ 1000000000) ⟨?_, ?_, [], ?_, rfl, by simp⟩ ?_ ?_⟩
    · exact hh.keep (same_upd nD)
    · exact off_keep (same_upd nD)
    · rw [off_ne (hh.new nD), upd_same]
      rfl
    · rintro k H1 hk ⟨h1, s1, us, hD, lk, hu⟩
      have neD : D ≠ a := hh.new nD
      have ncD : D ≠ c := hh.newC nD
      refine ⟨rfl, ?_⟩
      dsimp only [tYes]
      refine iteT ?_
      refine ⟨_, rfl, _, rfl, a, c, p, ns, rfl, h1, s1 _ _ hp, asc, fun v H2 h2 s2 hv => ?_⟩
      obtain ⟨z, rfl, z0, z1⟩ := hv
      have hD2 := s2 _ _ hD
      refine ⟨_, (off_at hD2).1, small1000 (by rw [List.length_map]; omega), hand_put h2 neD ncD, fun b o e => ?_, us ++ [z], ?_, by rw [List.length_append, lk]; rfl, ?_⟩
      · have nb : b ≠ D := fun y => by rw [y, off_ne neD, nD] at e; cases e
        have e3 := s2 _ _ (s1 _ _ e)
        have na := (off_at e3).2
        rw [off_ne na, upd_ne nb]
        exact (off_at e3).1
      · rw [off_ne neD, upd_same, List.map_append]
        rfl
      · intro u hu'
        rcases List.mem_append.mp hu' with y | y
        · exact hu u y
        · rw [List.mem_singleton.mp y]
          exact ⟨z0, z1⟩
    rintro H1 ⟨h1, s1, us, hD, l8, hu⟩
    -- for value in values + [0, 10 ** 9]
    refine ⟨_, rfl, _, _, rfl, rfl, ⟨by decide, by decide, by decide⟩, (by show 2 ≤ sizeLine; decide), fun l1 nl1 => ?_⟩
    generalize e2 : upd H1 l1 _ = H2
    have t2 := gs e2 nl1
    have u2 := ga e2
    clear e2
    refine ⟨_, _, _, _, rfl, rfl, t2 _ _ (off_at hD).1, u2, Nat.le_of_lt (small1000 (by rw [List.length_map, l8]; decide)), fun l2 nl2 => ?_⟩
    generalize e3 : upd H2 l2 _ = H3
    have t3 := gs e3 nl2
    have u3 := ga e3
    clear e3
    have h3 := h1.keep (t2.trans t3)
    have s3 : Same (off H a) (off H3 a) := s1.trans (off_keep (t2.trans t3))
    have hD3 := off_keep (a := a) (t2.trans t3) _ _ hD
    have u3' : H3 l2 = some (.lst ((us ++ [0, 1000000000]).map V.int)) := by
      rw [u3, List.map_append]
      rfl
    have hu' : ∀ u ∈ us ++ [0, 1000000000], 0 ≤ u ∧ u ≤ 1000000000 := by
      intro u hm
      rcases List.mem_append.mp hm with y | y
      · exact hu u y
      · rcases List.mem_cons.mp y with rfl | y
        · exact ⟨by decide, by decide⟩
        · rw [List.mem_singleton.mp y]
          exact ⟨by decide, by decide⟩
    have hs3 := (hs.keep s3).keep off_same
    have hp3 := (off_at (s3 _ _ hp)).1
    have es3 := (off_at (s3 _ _ es0)).1
    clear u3
    refine ⟨l2, rfl, ⟨_, SqL.of u3'⟩, for_list (K := K) (a := l2) (xs := (us ++ [0, 1000000000]).map V.int) (fun i σ H' => ∃ v5, σ = [some (.ref a), some (.ref s), some (.ref p), some (.int m), some (.ref D), v5, none, none, none] ∧ Same H3 H') ⟨_, rfl, Same.refl _⟩ (fun i σ H' _ h => by obtain ⟨_, _, k⟩ := h; exact SqL.of (k _ _ u3')) ?_ ?_⟩
    · rintro i x σ H' hi ⟨v5, rfl, k⟩
      obtain ⟨u, hm, rfl⟩ := List.mem_map.mp (List.mem_of_getElem? hi)
      obtain ⟨b0, b1⟩ := hu' u hm
      refine ⟨_, rfl, s, dx, _, rfl, k _ _ es3, rfl, _, rfl, s, ns, m, .int u, .int u, rfl, hs3.keep k, m0, .int u, by rw [tupD], by rw [dep]; omega, ⟨_, .int u⟩, .inl ⟨u, rfl, b0, b1, fun H4 t4 => ?_⟩⟩
      have k4 := k.trans t4
      refine ⟨_, rfl, _, rfl, _, rfl, p, ns, m, u, rfl, SqL.of (k4 _ _ hp3), m0, ?_⟩
      refine ⟨_, _, .int (place ns m u), rfl, .int _, .int _, by rw [tupD], by rw [dep]; omega, fun H5 t5 => ⟨_, rfl, ?_⟩⟩
      exact iteF ⟨_, rfl, k4.trans t5⟩
    rintro σ H4 ⟨v5, rfl, k⟩
    have h4 := h3.keep k
    have s4 : Same (off H a) (off H4 a) := s3.trans (off_keep k)
    have hD4 := off_keep (a := a) k _ _ hD3
    -- for k in range(3)
    refine ⟨(3 : Int), rfl, by decide, by decide, ?_⟩
    refine for_range (lo := 0) (n := 3) (fun i σ H' => Hand MH H' a c ∧ Same (off H4 a) (off H' a) ∧ ∃ v5 v6 v8, σ = [some (.ref a), some (.ref s), some (.ref p), some (.int m), some (.ref D), v5, v6, none, v8]) ⟨h4, Same.refl _, _, _, _, rfl⟩ ?_ ?_
    · rintro i σ H5 hi ⟨h5, s5, w5, w6, w8, rfl⟩
      refine ⟨_, rfl, a, c, _, rfl, h5, (by decide), (small8000 (by decide) (by decide)), fun v6 l6 v6a v6b h6 => ?_⟩
      generalize e6 : upd H5 a (.lst l6) = H6 at h6 ⊢
      have o6 : off H6 a = off H5 a := by
        rw [← e6]
        exact off_put
      clear e6
      have s6 : Same (off H4 a) (off H6 a) := by
        rw [o6]
        exact s5
      have hD6 := (off_at (s6 _ _ hD4)).1
      refine ⟨_, rfl, _, rfl, _, rfl, _, rfl, _, _, rfl, rfl, .inl ⟨by omega, by omega⟩, _, _, rfl, rfl, _, rfl, D, _, rfl, SqL.of hD6, fun l6 nl6 => ?_⟩
      obtain ⟨ws, ew, lw⟩ := cut_ints us (some (0 + (i : Int))) (some (2 * (0 + (i : Int)) + 1))
      rw [ew]
      generalize e7 : upd H6 l6 _ = H7
      have t7 := gs e7 nl6
      have u7 := ga e7
      clear e7
      refine ⟨l6, _, rfl, .inl ⟨SqL.of u7, fun l7 nl7 => ?_⟩⟩
      generalize e8 : upd H7 l7 _ = H8
      have t8 := gs e8 nl7
      have u8 := ga e8
      clear e8
      refine ⟨(by show 2 ≤ sizeLine; decide), fun r nr => ?_⟩
      generalize e9 : upd H8 r _ = H9
      have t9 := gs e9 nr
      have u9 := ga e9
      clear e9
      have t69 := (t7.trans t8).trans t9
      have h9 := h6.keep t69
      have s9 : Same (off H4 a) (off H9 a) := s6.trans (off_keep t69)
      have s09 := s4.trans s9
      have sr : SqT K H9 r [.int v6, .ref l7] := SqT.of u9
      have sq : SqT K H9 l7 (ws.map V.int) := SqT.of (t9 _ _ u8)
      have fw : ws.length ≤ 1000 := by omega
      have es9 := (off_at (s09 _ _ es0)).1
      refine ⟨_, rfl, s, dx, _, rfl, es9, rfl, _, rfl, s, ns, m, r, l7, v6, ws, rfl, (hs.keep s09).keep off_same, m0, sr, sq, fw, fun p1 H10 t10 d10 => ?_⟩
      have h10 := h9.keep t10
      refine ⟨_, rfl, _, rfl, _, rfl, p, r, l7, ns, m, v6, ws, rfl, SqL.of (t10 _ _ (off_at (s09 _ _ hp)).1), m0, seqT_keep sr t10, seqT_keep sq t10, fw, fun p2 H11 t11 d11 => ?_⟩
      refine ⟨_, _, _, rfl, dp_keep t11 _ _ d10, d11, tup_kind _ _ (by rw [List.length_map]; exact fw), Nat.le_trans (dep_kind _ _) (by decide), fun H12 t12 => ⟨_, rfl, ?_⟩⟩
      have t912 := (t10.trans t11).trans t12
      exact iteF ⟨h9.keep t912, s9.trans (off_keep t912), _, _, _, rfl⟩
    rintro σ H5 ⟨h5, s5, w5, w6, w8, rfl⟩
    -- the odd things
    refine ⟨_, rfl, _, _, rfl, rfl, ⟨by decide, by decide, by decide⟩, _, _, rfl, rfl, ?_⟩
    refine ⟨_, rfl, _, rfl, _, _, rfl, rfl, ⟨by decide, by decide, by decide⟩, a, c, _, rfl, h5, (by decide), (small8000 (by decide) (by decide)), fun v6 l6 v6a v6b h6 => ?_⟩
    generalize e6 : upd H5 a (.lst l6) = H6 at h6 ⊢
    have o6 : off H6 a = off H5 a := by
      rw [← e6]
      exact off_put
    clear e6
    have s6 : Same (off H a) (off H6 a) := by
      rw [o6]
      exact s4.trans s5
    refine ⟨_, _, rfl, rfl, (by show 1 ≤ sizeLine; decide), fun t nt => ?_⟩
    generalize e7 : upd H6 t _ = H7
    have t7 := gs e7 nt
    have u7 := ga e7
    clear e7
    refine ⟨(by show 7 ≤ sizeLine; decide), fun l nl => ?_⟩
    generalize e8 : upd H7 l _ = H8
    have t8 := gs e8 nl
    have u8 := ga e8
    clear e8
    have t68 := t7.trans t8
    have h8 := h6.keep t68
    have s8 : Same (off H a) (off H8 a) := s6.trans (off_keep t68)
    have hs8 := (hs.keep s8).keep off_same
    have w7 := t8 _ _ u7
    have odd : ∀ x ∈ [V.int (-1), .int (10 ^ 9 + 1), .int (-1 - v6), .non, .bl true, .str "1", .ref t], ∃ d, Dp K H8 x d ∧ tupD d = true ∧ dep d ≤ 2 ∧ (∃ t, TyOf K H8 x (.type t)) ∧ valueV x = false := by
      intro x hx
      rcases List.mem_cons.mp hx with rfl | hx
      · exact ⟨_, .int _, by rw [tupD], by rw [dep]; omega, ⟨_, .int _⟩, by decide +kernel⟩
      rcases List.mem_cons.mp hx with rfl | hx
      · exact ⟨_, .int _, by rw [tupD], by rw [dep]; omega, ⟨_, .int _⟩, by decide +kernel⟩
      rcases List.mem_cons.mp hx with rfl | hx
      · refine ⟨_, .int _, by rw [tupD], by rw [dep]; omega, ⟨_, .int _⟩, ?_⟩
        show (decide ((0 : Int) ≤ -1 - v6) && decide (-1 - v6 ≤ 1000000000)) = false
        rw [decide_eq_false (by omega)]
        rfl
      rcases List.mem_cons.mp hx with rfl | hx
      · exact ⟨_, .non, by rw [tupD], by rw [dep]; omega, ⟨_, .non⟩, rfl⟩
      rcases List.mem_cons.mp hx with rfl | hx
      · exact ⟨_, .bl _, by rw [tupD], by rw [dep]; omega, ⟨_, .bl _⟩, rfl⟩
      rcases List.mem_cons.mp hx with rfl | hx
      · exact ⟨_, .str _, by rw [tupD], by rw [dep]; omega, ⟨_, .str _⟩, rfl⟩
      rw [List.mem_singleton.mp hx]
      exact ⟨.tuple [.int 1], .tup (SqT.of w7) (.cons (.int _) .nil), by simp [tupD, tupDs], by simp [dep, depAll], ⟨_, .tup w7⟩, rfl⟩
    refine ⟨l, rfl, ⟨_, SqL.of u8⟩, for_list (K := K) (a := l) (xs := [V.int (-1), .int (10 ^ 9 + 1), .int (-1 - v6), .non, .bl true, .str "1", .ref t]) (fun i σ H' => ∃ v5 v6 v7 v8, σ = [some (.ref a), some (.ref s), some (.ref p), some (.int m), some (.ref D), v5, v6, v7, v8] ∧ Same H8 H') ⟨_, _, _, _, rfl, Same.refl _⟩ (fun i σ H' _ h => by obtain ⟨_, _, _, _, _, k⟩ := h; exact SqL.of (k _ _ u8)) ?_ ?_⟩
    · rintro i x σ H' hi ⟨v5, v6, v7, v8, rfl, k⟩
      obtain ⟨d, hd, ht, hn, tx, hv⟩ := odd x (List.mem_of_getElem? hi)
      have hd' := dp_keep k _ _ hd
      refine ⟨_, rfl, _, rfl, s, ns, m, x, d, rfl, hs8.keep k, m0, hd', ht, Nat.le_trans hn (by decide), tx.imp fun _ h => TyOf.keep h k, hv, fun p1 H9 t9 d9 => ?_⟩
      refine ⟨_, rfl, (by show 2 ≤ sizeLine; decide), fun b nb => ?_⟩
      generalize e10 : upd H9 b _ = H10
      have t10 := gs e10 nb
      have u10 := ga e10
      clear e10
      refine ⟨_, _, _, rfl, dp_keep t10 _ _ d9, .tup (SqT.of u10) (.cons (.str _) (.cons (dp_keep (t9.trans t10) _ _ hd') .nil)), by simp [tupD, tupDs, ht], ?_, fun H11 t11 => ⟨_, rfl, ?_⟩⟩
      · simp [dep, depAll]
        omega
      exact iteF ⟨_, _, _, _, rfl, k.trans ((t9.trans t10).trans t11)⟩
    rintro σ H9 ⟨v5, v6', v7, v8, rfl, k⟩
    exact q _ H9 (h8.keep k) (s8.trans (off_keep k)) rfl
end
end My
set_option Elab.async false
set_option linter.all false
set_option maxRecDepth 100000
set_option maxHeartbeats 4000000
namespace My
open PySem PySem.Spec PyProof.Rows L2
def spNumd (K : PySem.W.Frag) (C : Addr) : Sp := fun vs H Q _ => ∃ (a c s p : Addr) (ns : List Int) (m : Int), vs = [.ref a, .ref s, .ref p, .int m] ∧ Hand MH H a c ∧ SoAt K C (off H a) s ns m ∧ off H a p = some (.lst (ns.map V.int)) ∧ Asc ns ∧ 1 ≤ m ∧ m ≤ 6 ∧
  After a c H (fun _ v => v = .bl true) Q
/-- exact, within an except suite -/
structure ExH (P : Program) (w : World) (K : PySem.W.Frag) (mg : Str → Option Value) (base : Heap) : Prop where
  ex : ∃ (f : Addr) (fd : FuncData), L2H.FnH P w K mg base CX0 1 f fd ["_law_told", "_law_due"] spExact0 ∧ mg "_law_exact" = some (.ref f) ∧ PySem.W.keepIn K (.ref f) = true ∧ Binds K fd ["_law_told", "_law_due"] []
theorem pe_exH {X : Cx} {e : Expr} {es : List Expr} {t : TA} {q pos : Pos} (c : ExH X.prog X.w X.K X.mg X.base) (hr : L2H.RoomH 1 X.A) (hot : L2H.HotC X) (hg : Gl X "_law_exact") (ha : PA X (e :: es) t)
    (he : starEach (e :: es) X.env = (false, eval e X.env) :: starEach es X.env := by rfl) (hpl : (backTo pos (starEach es X.env)).any (·.1) = false := by rfl) :
    PE X (.Call (.Name "_law_exact" q) (e :: es) [] pos) (tCallS spExact0 (fun _ => E0) t) := by
  obtain ⟨f, fd, F, hm, hk, hb⟩ := c.ex
  have h := L2H.pe_callH (q := q) (E := fun _ => E0) F hr hot hg hm hk hb (fun σ _ _ _ _ _ _ h => h.elim) ha (by decide) he hpl
  exact ⟨fun pins s σ H Q I g => h.run pins s σ H Q I g⟩
theorem hot_of {X : Cx} {a : Addr} {oe : Obj} {cls : Value} {d : Option Addr} {pn : List (Addr × Obj)} (hz : L2N.Zn cls d oe) (hf : ∃ vs, oe.data = .fields vs) : L2H.HotC (X.suite a ((a, oe) :: pn)) := ⟨(a, oe), ⟨rfl, hf.imp fun vs e => ⟨e, hz.2.2 vs e⟩⟩, List.mem_cons_self ..⟩
theorem roomS {X : Cx} {k : Nat} {a : Addr} {pn : List (Addr × Obj)} (hr : Room k X.A) (h : 1 ≤ k) : L2H.RoomH 1 (X.suite a pn).A := ⟨by have := (hr.mono h).dp; exact this, by have := (hr.mono h).un; exact this⟩

def tTryA (K : PySem.W.Frag) (c : Value) (i : Nat) (ts : Addr → Value → Option Addr → TS) (Wout : WX) (tb : WX → TS) : TS := fun D σ H => tb (L2.wAs K c i ts Wout D) D σ H
def optD : Option Int → PyData
  | none => .none
  | some z => .int z
theorem dp_opt {K : PySem.W.Frag} {H : Hp} : ∀ r : Option Int, Dp K H (optV r) (optD r)
  | none => .non
  | some z => .int z
theorem tup_opt : ∀ r : Option Int, tupD (optD r) = true
  | none => by simp [optD, tupD]
  | some z => by simp [optD, tupD]
theorem dep_opt : ∀ r : Option Int, dep (optD r) ≤ 3
  | none => by simp [optD, dep]
  | some z => by simp [optD, dep]
/-- plain things and their data -/
theorem flat_dat {K : PySem.W.Frag} {H : Hp} : ∀ {x : V}, flatV x = true → ∃ d, Dp K H x d ∧ tupD d = true ∧ dep d ≤ 6 ∧ ∀ (H' : Hp) (z : V), Dp K H' z d → z = x := by
  intro x h
  cases x with
  | non => exact ⟨.none, .non, by simp [tupD], by simp [dep], fun H' z e => by cases e; rfl⟩
  | bl b => exact ⟨.bool b, .bl b, by simp [tupD], by simp [dep], fun H' z e => by cases e; rfl⟩
  | int i => exact ⟨.int i, .int i, by simp [tupD], by simp [dep], fun H' z e => by cases e; rfl⟩
  | str t => exact ⟨.str t, .str t, by simp [tupD], by simp [dep], fun H' z e => by cases e; rfl⟩
  | _ => cases h
def DueIs (ns : List Int) (m k : Int) (n : Nat) (avs : List Int) (r : Option Int) : Prop :=
  (∃ (j : Nat) (v : Int), k = (j : Int) ∧ ns[j]? = some v ∧ r = if n = 0 ∧ v ∉ avs then some v else none) ∨ ((ns.length : Int) ≤ k ∧ ∃ z, nth (badB ns avs) m 140 (k - (ns.length : Int)) n = some z ∧ r = some z)
theorem due_val {ns : List Int} {m k : Int} {n : Nat} {avs : List Int} {r : Option Int} (h : DueIs ns m k n avs r) : ValIs ns m k n avs r := h.imp id fun ⟨a, z, b, c⟩ => ⟨a, 140, z, b, c⟩
theorem due_ex {ns : List Int} {m k : Int} {n : Nat} {avs : List Int} (asc : Asc ns) (m1 : 1 ≤ m) (m6 : m ≤ 6) (k0 : 0 ≤ k) (k1 : k < (ns.length : Int) + m) (hn : n ≤ 99) (ha : avs.length ≤ 6) :
    ∃ r, DueIs ns m k n avs r ∧ ∀ z, r = some z → 0 ≤ z ∧ z ≤ 1000000000 ∧ place ns m z = k := by
  obtain ⟨pw, l8, bd⟩ := asc
  by_cases lt : k < (ns.length : Int)
  · obtain ⟨j, rfl⟩ : ∃ j : Nat, k = (j : Int) := ⟨k.toNat, by omega⟩
    have jl : j < ns.length := by omega
    have e : ns[j]? = some ns[j] := List.getElem?_eq_getElem jl
    refine ⟨_, .inl ⟨j, ns[j], rfl, e, rfl⟩, fun z hz => ?_⟩
    have ez : z = ns[j] := by
      split at hz
      · exact (Option.some.inj hz).symm
      · cases hz
    subst ez
    obtain ⟨b0, b1⟩ := bd _ (List.getElem_mem jl)
    refine ⟨b0, b1, ?_⟩
    have := placeN_at m ns 0 j ns[j] e fun i hi hh => ?_
    · show placeN m ns 0 ns[j] = _
      rw [this]
      simp
    · obtain ⟨il, ei⟩ := List.getElem?_eq_some_iff.mp hh
      have := List.pairwise_iff_getElem.mp pw i j il jl hi
      omega
  · have le : (ns.length : Int) ≤ k := by omega
    obtain ⟨z, hz⟩ := nth_some (bad := badB ns avs) (m := m) (L := ns ++ avs) (by omega) (fun v hv => by
      unfold badB at hv
      rw [Bool.or_eq_true] at hv
      rcases hv with h | h
      · exact List.mem_append_left _ (of_decide_eq_true h)
      · exact List.mem_append_right _ (of_decide_eq_true h)) 140 (k - (ns.length : Int)) n (by
        have := List.length_filter_le (fun x => decide (k - (ns.length : Int) ≤ x)) (ns ++ avs)
        rw [List.length_append] at this
        omega)
    refine ⟨_, .inr ⟨le, z, hz, rfl⟩, fun z' e => ?_⟩
    have ez := Option.some.inj e
    subst ez
    obtain ⟨nb, j, hj, ej⟩ := nth_mod _ _ _ _ hz
    have jm0 : 0 ≤ (j : Int) * m := Int.mul_nonneg (by omega) (by omega)
    have jm1 : (j : Int) * m ≤ 140 * 6 := Int.le_trans (Int.mul_le_mul_of_nonneg_left m6 (by omega)) (Int.mul_le_mul_of_nonneg_right (by omega) (by omega))
    refine ⟨by omega, by omega, ?_⟩
    have nin : z ∉ ns := fun h => by
      unfold badB at nb
      rw [decide_eq_true h] at nb
      cases nb
    show placeN m ns 0 z = k
    rw [placeN_not m ns 0 z nin, ej, Int.add_mul_emod_self_right, Int.emod_eq_of_lt (by omega) (by omega)]
    omega
theorem ite3 {B : Bool} {P R : Prop} (h : B = true → P) (g : B = false → R) : if B = true then P else R := by
  cases B with
  | true => exact h rfl
  | false => exact g rfl
theorem rd_near {tl : TE} {σ : L2.St} {H : Hp} {Q : VK} {k : Int} (hl : ∀ R : VK, (∀ l : Int, R (.int l) H) → tl σ H R) (h6 : ∀ R : VK, R (.int k) H → tVar 6 σ H R) (q : ∀ z : Int, Q (.int z) H) :
    tIf (tTest (tOp (rI0 fun i j => V.bl (decide (j ≤ i))) (tVar 6) tl)) (tOp (rI0 fun i j => V.int (i - j)) (tVar 6) tl) (tC (V.int 0)) σ H Q := by
  apply h6
  apply hl
  intro l
  refine ⟨_, _, rfl, rfl, _, rfl, ite3 (fun e => ?_) (fun e => ?_)⟩
  · apply h6
    apply hl
    intro l
    exact ⟨_, _, rfl, rfl, q _⟩
  · exact q _
theorem rd_drw {σ : L2.St} {H : Hp} {Q : VK} {a c : Addr} {m : Int} (h0 : ∀ R : VK, R (.ref a) H → tVar 0 σ H R) (hh : Hand MH H a c) (m0 : 0 < m) (m8 : m ≤ 1000000) (q : ∀ (v : Int) (H' : Hp), 0 ≤ v → v < m → Hand MH H' a c → off H' a = off H a → Q (.int v) H') :
    tCall (spDraw MH) [] E0 (tCons (tVar 0) (tCons (tC (V.int m)) tNil)) σ H Q := by
  apply h0
  refine ⟨a, c, m, rfl, hh, m0, sm6 (by omega) m8, fun v l v0 v1 h' => q v _ v0 v1 h' off_put⟩
theorem rd_num {σ : L2.St} {H : Hp} {Q : VK} {a c : Addr} (h0 : ∀ (H' : Hp) (R : VK), R (.ref a) H' → tVar 0 σ H' R) (hh : Hand MH H a c) (q : ∀ (n : Nat) (H' : Hp), n ≤ 99 → Hand MH H' a c → off H' a = off H a → Q (.int (n : Int)) H') :
    tIf (tTest (tOp rEq (tCall (spDraw MH) [] E0 (tCons (tVar 0) (tCons (tC (V.int 4)) tNil))) (tC (V.int 0)))) (tCall (spDraw MH) [] E0 (tCons (tVar 0) (tCons (tC (V.int 100)) tNil))) (tCall (spDraw MH) [] E0 (tCons (tVar 0) (tCons (tC (V.int 3)) tNil))) σ H Q := by
  have fin : ∀ (v : Int) (H' : Hp), 0 ≤ v → v ≤ 99 → Hand MH H' a c → off H' a = off H a → Q (.int v) H' := fun v H' v0 v1 h e => by
    obtain ⟨n, rfl⟩ : ∃ n : Nat, v = (n : Int) := ⟨v.toNat, by omega⟩
    exact q n H' (by omega) h e
  refine rd_drw (h0 _) hh (by decide) (by decide) fun v H1 v0 v1 h1 o1 => ⟨rfl, _, rfl, ite3 (fun e => ?_) (fun e => ?_)⟩
  · exact rd_drw (h0 _) h1 (by decide) (by decide) fun u H2 u0 u1 h2 o2 => fin u H2 u0 (by omega) h2 (o2.trans o1)
  · exact rd_drw (h0 _) h1 (by decide) (by decide) fun u H2 u0 u1 h2 o2 => fin u H2 u0 (by omega) h2 (o2.trans o1)
theorem rd_item {K : PySem.W.Frag} {σ : L2.St} {H : Hp} {Q : VK} {a c p : Addr} {z : Int} {ns : List Int} (h0 : σ[0]? = some (some (.ref a))) (h2 : σ[2]? = some (some (.ref p))) (h12 : σ[12]? = some (some (.int z))) (hh : Hand MH H a c) (hp : off H a p = some (.lst (ns.map V.int))) (asc : Asc ns)
    (q : ∀ (v : Int) (H' : Hp), Hand MH H' a c → Same (off H a) (off H' a) → Q (.int v) H') :
    tIf (tTest (tOp rEq (tCall (spDraw MH) [] E0 (tCons (tVar 0) (tCons (tC (V.int 2)) tNil))) (tC (V.int 0)))) (tVar 12) (tCall (spSome K) [] E0 (tCons (tVar 0) (tCons (tVar 2) tNil))) σ H Q := by
  refine rd_drw (fun R h => ⟨_, h0, h⟩) hh (by decide) (by decide) fun v H1 v0 v1 h1 o1 => ⟨rfl, _, rfl, ite3 (fun e => ?_) (fun e => ?_)⟩
  · exact ⟨_, h12, q z H1 h1 (by rw [o1]; exact Same.refl _)⟩
  · refine ⟨_, h0, _, h2, a, c, p, ns, rfl, h1, by rw [o1]; exact hp, asc, fun v H2 h2 s2 hv => ?_⟩
    obtain ⟨u, rfl, _⟩ := hv
    exact q u H2 h2 (by rw [← o1]; exact s2)
section
variable {P : Program} {w : World} {K : PySem.W.Frag} {mg : Str → Option Value} {base : Heap} {C : Addr}
theorem sc__law_numbered : FnScope ["_law_hand_here", "_law_sorts", "_law_named_here", "_law_modulus", "_law_k", "_law_odd", "_law_sort_here", "_law_number", "_law_avoided", "_law_j", "_law_due", "raised", "_law_near"] ["_law_hand_here", "_law_sorts", "_law_named_here", "_law_modulus"] (defScope (topS 37)) := ⟨rfl, rfl, rfl, by decide +kernel, rfl, by decide +kernel, by decide +kernel⟩
theorem ok_numd {f : Addr} {fd : FuncData} (F : L2.Fun K "_law_numbered" "_law_numbered" (topS 37) f fd) {BV NS BT BS e0 : Addr} (S : SoC K C) (M : MtS P w K mg base C "sort_of" (spSortOf K C BV) []) (M3 : MtS P w K mg base C "value_of" (spValueOf K C NS) []) (M2 : MtS P w K mg base C "value_of" (spValueOf K C NS) [.ref e0]) (hE0 : ∀ H : Hp, SqT K H e0 []) (RN : Err P w K mg base "NoSort" NS "number") (hN : Caught K NS NS true) (XH : ExH P w K mg base) (TN : ExT K NS) (cD : Cal P w K mg base 2 "_law_draw" (spDraw MH)) (cS : Cal P w K mg base 4 "_law_some_value" (spSome K)) (cU : Cal P w K mg base 1 "_law_due_value" (spDue K)) (cT : Cal P w K mg base 3 "_law_take" (spTake K)) (cE : ∀ n : Nat, Cal P w K mg base (n + 1) "_law_exact" (spExact K n)) (gBT : mg "BadTold" = some (.ref BT)) (gBS : mg "BadSorts" = some (.ref BS)) (k1 : PySem.W.kitOne K (.ref NS) (.ref BT) = some false) (k2 : PySem.W.kitOne K (.ref NS) (.ref BS) = some false) (m_len : mg "len" = none) (m_range : mg "range" = none) (m_isinstance : mg "isinstance" = none) : FnOk P w K mg base CX0 14 f fd ["_law_hand_here", "_law_sorts", "_law_named_here", "_law_modulus"] (spNumd K C) := by
  refine F.ok sc__law_numbered (fun vs H Q E h => ?_) (fun cdv A outer s0 H vs Q E hr h => ?_)
  · obtain ⟨a, c, s, p, ns, m, rfl, _⟩ := h
    rfl
  · obtain ⟨a, c, s, p, ns, m, rfl, hh, hs, hp, asc, m1, m6, q⟩ := h
    refine ⟨_, (pss_cons (ps_for PassesOwn.never rfl (pi_range1 (by rfl) m_range (pa_cons pe_int pa_nil)) (pg_name (i := 4) sc__law_numbered.nd rfl (.inl rfl)) (pss_cons (ps_set (i := 6) sc__law_numbered.nd rfl (.inl rfl) (pe_c cD hr (by decide) rfl (pa_cons (pv 0) (pa_cons (pe_op op_add (pe_callB call_len_seq (by rfl) m_len PySem.boot_len (pa_cons (pv 2) pa_nil)) (pv 3)) pa_nil)))) (pss_cons (ps_set (i := 7) sc__law_numbered.nd rfl (.inl rfl) (pe_ifExp (pt_cmpR op_eq (pe_c cD hr (by decide) rfl (pa_cons (pv 0) (pa_cons pe_int pa_nil))) pe_int (nomark _)) (pe_c cD hr (by decide) rfl (pa_cons (pv 0) (pa_cons pe_int pa_nil))) (pe_c cD hr (by decide) rfl (pa_cons (pv 0) (pa_cons pe_int pa_nil))))) (pss_cons (ps_set (i := 8) sc__law_numbered.nd rfl (.inl rfl) (pe_lst pa_nil)) (pss_cons (ps_for PassesOwn.never rfl (pi_range1 (by rfl) m_range (pa_cons (pe_c cD hr (by decide) rfl (pa_cons (pv 0) (pa_cons pe_int pa_nil))) pa_nil)) (pg_name (i := 9) sc__law_numbered.nd rfl (.inl rfl)) (pss_cons (ps_set (i := 12) sc__law_numbered.nd rfl (.inl rfl) (pe_op op_add (pe_op op_mul (pe_c cD hr (by decide) rfl (pa_cons (pv 0) (pa_cons pe_int pa_nil))) (pv 3)) (pe_ifExp (pt_cmpR op_ge (pv 6) (pe_callB call_len_seq (by rfl) m_len PySem.boot_len (pa_cons (pv 2) pa_nil)) (nomark _)) (pe_op op_sub (pv 6) (pe_callB call_len_seq (by rfl) m_len PySem.boot_len (pa_cons (pv 2) pa_nil))) pe_int))) (pss_one (ps_expr (pe_bm PySem.F.plainAttrs_list PySem.F.slot_list_append PySem.F.type_list_append mt_append (pv 8) (pa_cons (pe_ifExp (pt_cmpR op_eq (pe_c cD hr (by decide) rfl (pa_cons (pv 0) (pa_cons pe_int pa_nil))) pe_int (nomark _)) (pv 12) (pe_c cS hr (by decide) rfl (pa_cons (pv 0) (pa_cons (pv 2) pa_nil)))) pa_nil)))))) (pss_cons (ps_set (i := 10) sc__law_numbered.nd rfl (.inl rfl) (pe_c cU hr (by decide) rfl (pa_cons (pv 2) (pa_cons (pv 3) (pa_cons (pv 6) (pa_cons (pv 7) (pa_cons (pv 8) pa_nil))))))) (pss_cons (ps_if (pt_not (pt_truth (pe_c (cE 3) hr (by decide) rfl (pa_cons (pe_mtX M3 S.i.cl takesF hr (by decide) (pv 1) (pa_cons (pv 6) (pa_cons (pv 7) (pa_cons (pe_c cT hr (by decide) rfl (pa_cons (pv 0) (pa_cons (pv 8) pa_nil))) pa_nil)))) (pa_cons (pv 10) pa_nil))) (by intro _; rfl))) (pss_one (ps_ret pe_bl)) pss_nil) (pss_cons (ps_if (PW.pt (pw_and (pt_cmpR op_notN (pv 10) pe_non (nomark _)) (pw_and1 (pt_not (pt_truth (pe_c (cE 3) hr (by decide) rfl (pa_cons (pe_mtX M S.i.cl takesF hr (by decide) (pv 1) (pa_cons (pv 10) pa_nil)) (pa_cons (pv 6) pa_nil))) (by intro _; rfl)))))) (pss_one (ps_ret pe_bl)) pss_nil) (pss_one (ps_if (pt_not (pt_truth (pe_c (cE 3) hr (by decide) rfl (pa_cons (pe_mtX M2 S.i.cl takesF hr (by decide) (pv 1) (pa_cons (pv 6) (pa_cons (pv 7) pa_nil))) (pa_cons (pe_c cU hr (by decide) rfl (pa_cons (pv 2) (pa_cons (pv 3) (pa_cons (pv 6) (pa_cons (pv 7) (pa_cons (pe_lst pa_nil) pa_nil)))))) pa_nil))) (by intro _; rfl))) (pss_one (ps_ret pe_bl)) pss_nil))))))))))
      (pss_cons (ps_for PassesOwn.never rfl (pi_list (pe_lst (pa_cons (pe_un un_neg pe_int) (pa_cons (pe_op op_add (pe_callB call_len_seq (by rfl) m_len PySem.boot_len (pa_cons (pv 2) pa_nil)) (pv 3)) (pa_cons (pe_op op_add (pe_op op_add (pe_callB call_len_seq (by rfl) m_len PySem.boot_len (pa_cons (pv 2) pa_nil)) (pv 3)) (pe_c cD hr (by decide) rfl (pa_cons (pv 0) (pa_cons pe_int pa_nil)))) (pa_cons pe_non (pa_cons pe_bl (pa_cons pe_str pa_nil)))))))) (pg_name (i := 5) sc__law_numbered.nd rfl (.inl rfl)) (pss_one (show PS _ _ (tTryA _ _ _ _ _ _) from L2N.ps_try_as (i := 11) rfl rfl sc__law_numbered.nd rfl rfl ⟨rfl, by decide, .inl RN.gx⟩ takesF (fun W pn xe tk _ => (pss_cons (ps_expr (show PE _ _ (tMtS C "value_of" (spValueOf K C NS) [] (WE W) _ _) from pe_mtX M3 S.i.cl tk hr (by decide) (pv 1) (pa_cons (pv 5) (pa_cons pe_int (pa_cons (pe_tup pa_nil) pa_nil))))) (pss_one (ps_ret pe_bl)))) (fun a oe cls d pn hz hf => (pss_one (ps_if (PW.pt (pw_or (pt_not (pt_val (pe_exH XH (roomS hr (by decide)) (hot_of hz hf) (by rfl) (pa_cons (pe_xf RN.xf RN.nf hz.zc hf (pv 11)) (pa_cons (pv 5) pa_nil))))) (pw_or (pt_val (pe_callB (call_isX hz.zc hf) (by rfl) m_isinstance (by decide +kernel) (pa_cons (pv 11) (pa_cons (pe_glob (v := .ref BT) (by rfl) gBT rfl) pa_nil)))) (pw_or1 (pt_val (pe_callB (call_isX hz.zc hf) (by rfl) m_isinstance (by decide +kernel) (pa_cons (pv 11) (pa_cons (pe_glob (v := .ref BS) (by rfl) gBS rfl) pa_nil)))))))) (pss_one (ps_ret pe_bl)) pss_nil))))))
      (pss_one (ps_ret pe_bl)))), ?_⟩
    obtain ⟨dx, tn, es0, _⟩ := id hs
    have m0 : 0 < m := by omega
    have len : (ns.map V.int).length = ns.length := List.length_map ..
    have l8 := asc.2.1
    refine ⟨(6 : Int), rfl, by decide, by decide, ?_⟩
    refine for_range (lo := 0) (n := 6) (fun i σ H' => Hand MH H' a c ∧ Same (off H a) (off H' a) ∧ ∃ w4 w5 w6 w7 w8 w9 w10 w11 w12, σ = [some (.ref a), some (.ref s), some (.ref p), some (.int m), w4, w5, w6, w7, w8, w9, w10, w11, w12]) ⟨hh, Same.refl _, _, _, _, _, _, _, _, _, _, rfl⟩ ?_ ?_
    · rintro i σ H1 hi ⟨h1, s1, w4, w5, w6, w7, w8, w9, w10, w11, w12, rfl⟩
      have hp1 := (off_at (s1 _ _ hp)).1
      -- sort_here
      refine ⟨_, rfl, _, rfl, p, _, rfl, .inl (SqL.of hp1), _, rfl, _, _, rfl, rfl, ?_⟩
      refine ⟨a, c, _, rfl, h1, by rw [len]; omega, sm6 (by rw [len]; omega) (by rw [len]; omega), fun k l2 k0 k1 h2 => ?_⟩
      generalize e2 : upd H1 a (.lst l2) = H2 at h2 ⊢
      have o2 : off H2 a = off H1 a := by
        rw [← e2]
        exact off_put
      clear e2
      rw [len] at k1
      -- number
      refine rd_num (fun H' R h => ⟨_, rfl, h⟩) h2 fun n H3 hn h3 o3 => ?_
      have s3 : Same (off H a) (off H3 a) := by
        rw [o3, o2]
        exact s1
      -- avoided
      refine ⟨Nat.zero_le _, fun D nD => ?_⟩
      generalize e4 : upd H3 D _ = H4
      have t4 := gs e4 nD
      have u4 := ga e4
      clear e4
      have neD : D ≠ a := h3.new nD
      have ncD : D ≠ c := h3.newC nD
      have h4 := h3.keep t4
      have s4 : Same (off H3 a) (off H4 a) := off_keep t4
      refine rd_drw (m := 7) (fun R h => ⟨_, rfl, h⟩) h4 (by decide) (by decide) fun v H5 v0 v1 h5 o5 => ?_
      refine ⟨v, rfl, by omega, by omega, ?_⟩
      have D5 : off H5 a D = some (.lst []) := by
        rw [o5, off_ne neD]
        exact u4
      refine for_range (lo := 0) (n := v.toNat) (fun i σ H' => Hand MH H' a c ∧ Same (off H3 a) (off H' a) ∧ (∃ x4 x5 x9 x10 x11 x12, σ = [some (.ref a), some (.ref s), some (.ref p), some (.int m), x4, x5, some (.int k), some (.int (n : Int)), some (.ref D), x9, x10, x11, x12]) ∧ ∃ avs : List Int, off H' a D = some (.lst (avs.map V.int)) ∧ avs.length = i) ⟨h5, by rw [o5]; exact s4, ⟨_, _, _, _, _, _, rfl⟩, [], D5, rfl⟩ ?_ ?_
      · rintro j σ H6 hj ⟨h6, s6, ⟨x4, x5, x9, x10, x11, x12, rfl⟩, avs, hD6, la⟩
        refine rd_drw (m := 6) (fun R h => ⟨_, rfl, h⟩) h6 (by decide) (by decide) fun u H7 u0 u1 h7 o7 => ?_
        have s7 : Same (off H3 a) (off H7 a) := by
          rw [o7]
          exact s6
        have hp7 := s3.trans s7 _ _ hp
        refine ⟨_, rfl, _, _, rfl, rfl, .inl ⟨by omega, by omega⟩, ?_⟩
        refine rd_near (k := k) (fun R h => ⟨_, rfl, p, _, rfl, .inl (SqL.of (off_at hp7).1), h _⟩) (fun R h => ⟨_, rfl, h⟩) fun z => ?_
        refine ⟨_, _, rfl, rfl, ?_⟩
        have hD7 : off H7 a D = some (.lst (avs.map V.int)) := by
          rw [o7]
          exact hD6
        refine ⟨_, rfl, .inl ⟨rfl, _, SqL.of (off_at hD7).1⟩, ?_⟩
        refine rd_item (z := u * m + z) (by rfl) (by rfl) (by rfl) h7 hp7 asc fun y H8 h8 s8' => ?_
        have s8 : Same (off H3 a) (off H8 a) := s7.trans s8'
        have hD8 : off H8 a D = some (.lst (avs.map V.int)) := s8' _ _ hD7
        refine ⟨D, _, _, rfl, rfl, (off_at hD8).1, small1000 (by rw [List.length_map]; omega), ?_⟩
        refine ⟨hand_put h8 neD ncD, fun b o e => ?_, ⟨_, _, _, _, _, _, rfl⟩, avs ++ [y], ?_, by rw [List.length_append, la]; rfl⟩
        · have nb : b ≠ D := fun y => by rw [y, off_ne neD, nD] at e; cases e
          have e3 := s8 _ _ e
          have na := (off_at e3).2
          rw [off_ne na, upd_ne nb]
          exact (off_at e3).1
        · rw [off_ne neD, upd_same, List.map_append]
          rfl
      rintro σ H6 ⟨h6, s6', ⟨x4, x5, x9, x10, x11, x12, rfl⟩, avs, hD6, la⟩
      have s6 : Same (off H a) (off H6 a) := s3.trans s6'
      obtain ⟨r, due, good⟩ := due_ex (avs := avs) asc m1 m6 k0 k1 hn (by omega)
      obtain ⟨r', due', _⟩ := due_ex (avs := []) asc m1 m6 k0 k1 hn (by decide)
      refine ⟨_, rfl, _, rfl, _, rfl, _, rfl, _, rfl, p, D, ns, avs, m, k, n, r, rfl, SqL.of (off_at (s6 _ _ hp)).1, SqL.of (off_at hD6).1, due, ?_⟩
      -- value_of(sort, number, take(avoided))
      refine ⟨_, rfl, s, dx, _, rfl, (off_at (s6 _ _ es0)).1, rfl, _, rfl, _, rfl, _, rfl, _, rfl, a, c, D, _, rfl, h6, hD6, fun q3 H7 h7 s7' hq => ?_⟩
      obtain ⟨q4, rfl, hq⟩ := hq
      have s7 : Same (off H a) (off H7 a) := s6.trans s7'
      have sv : SqV K H7 q4 (avs.map V.int) := hq.elim (fun e => .inl (SqL.of (off_at e).1)) (fun e => .inr (SqT.of (off_at e).1))
      refine ⟨s, ns, m, .int k, .int (n : Int), .ref q4, rfl, (hs.keep s7).keep off_same, .inl ⟨k, n, q4, avs, r, rfl, rfl, rfl, k0, by omega, sv, by omega, due_val due, fun H8 t8 => ?_⟩⟩
      refine ⟨_, rfl, _, _, _, rfl, dp_opt r, dp_opt r, tup_opt r, dep_opt r, fun H9 t9 => ⟨_, rfl, ?_⟩⟩
      have t79 := t8.trans t9
      have h9 := h7.keep t79
      have s9 : Same (off H a) (off H9 a) := s7.trans (off_keep t79)
      refine iteF ⟨_, rfl, rfl, _, rfl, ?_⟩
      cases r with
      | none =>
        refine iteF (iteF ?_)
        have h_ := h9
        have s_ := s9
        have es_ := (off_at (s_ _ _ es0)).1
        have hs_ := (hs.keep s_).keep off_same
        have hp_ := (off_at (s_ _ _ hp)).1
        refine ⟨_, rfl, s, dx, _, rfl, es_, rfl, _, rfl, _, rfl, s, ns, m, .int k, .int (n : Int), .ref e0, rfl, hs_, .inl ⟨k, n, e0, [], r', rfl, rfl, rfl, k0, by omega, .inr (hE0 _), by decide, due_val due', fun Hx tx => ?_⟩⟩
        refine ⟨_, rfl, _, rfl, _, rfl, _, rfl, Nat.zero_le _, fun l_ nl_ => ?_⟩
        generalize ex : upd Hx l_ _ = Hy
        have ty := gs ex nl_
        have uy := ga ex
        clear ex
        refine ⟨p, l_, ns, [], m, k, n, r', rfl, SqL.of ((tx.trans ty) _ _ hp_), SqL.of uy, due', ?_⟩
        refine ⟨_, _, _, rfl, dp_opt r', dp_opt r', tup_opt r', dep_opt r', fun Hz tz => ⟨_, rfl, ?_⟩⟩
        have t_ := (tx.trans ty).trans tz
        exact iteF ⟨h_.keep t_, s_.trans (off_keep t_), _, _, _, _, _, _, _, _, _, rfl⟩
      | some z =>
        obtain ⟨z0, z1, ez⟩ := good z rfl
        refine iteT ⟨_, rfl, s, dx, _, rfl, (off_at (s9 _ _ es0)).1, rfl, _, rfl, s, ns, m, .int z, .int z, rfl, (hs.keep s9).keep off_same, m0, .int z, by rw [tupD], by rw [dep]; omega, ⟨_, .int z⟩, .inl ⟨z, rfl, z0, z1, fun H10 t10 => ?_⟩⟩
        rw [ez]
        refine ⟨_, rfl, _, _, .int k, rfl, .int _, .int _, by rw [tupD], by rw [dep]; omega, fun H11 t11 => ⟨_, rfl, ?_⟩⟩
        refine iteF ?_
        have h_ := h9.keep (t10.trans t11)
        have s_ := s9.trans (off_keep (a := a) (t10.trans t11))
        have es_ := (off_at (s_ _ _ es0)).1
        have hs_ := (hs.keep s_).keep off_same
        have hp_ := (off_at (s_ _ _ hp)).1
        refine ⟨_, rfl, s, dx, _, rfl, es_, rfl, _, rfl, _, rfl, s, ns, m, .int k, .int (n : Int), .ref e0, rfl, hs_, .inl ⟨k, n, e0, [], r', rfl, rfl, rfl, k0, by omega, .inr (hE0 _), by decide, due_val due', fun Hx tx => ?_⟩⟩
        refine ⟨_, rfl, _, rfl, _, rfl, _, rfl, Nat.zero_le _, fun l_ nl_ => ?_⟩
        generalize ex : upd Hx l_ _ = Hy
        have ty := gs ex nl_
        have uy := ga ex
        clear ex
        refine ⟨p, l_, ns, [], m, k, n, r', rfl, SqL.of ((tx.trans ty) _ _ hp_), SqL.of uy, due', ?_⟩
        refine ⟨_, _, _, rfl, dp_opt r', dp_opt r', tup_opt r', dep_opt r', fun Hz tz => ⟨_, rfl, ?_⟩⟩
        have t_ := (tx.trans ty).trans tz
        exact iteF ⟨h_.keep t_, s_.trans (off_keep t_), _, _, _, _, _, _, _, _, _, rfl⟩
    rintro σ H1 ⟨h1, s1, w4, w5, w6, w7, w8, w9, w10, w11, w12, rfl⟩
    have hp1 := (off_at (s1 _ _ hp)).1
    -- the odd sorts
    refine ⟨_, rfl, _, rfl, p, _, rfl, .inl (SqL.of hp1), _, rfl, _, _, rfl, rfl, _, rfl, p, _, rfl, .inl (SqL.of hp1), _, rfl, _, _, rfl, rfl, ?_⟩
    refine rd_drw (m := 50) (fun R h => ⟨_, rfl, h⟩) h1 (by decide) (by decide) fun v H2 v0 v1 h2 o2 => ?_
    refine ⟨_, _, rfl, rfl, (by show 6 ≤ sizeLine; decide), fun l nl => ?_⟩
    generalize e3 : upd H2 l _ = H3
    have t3 := gs e3 nl
    have u3 := ga e3
    clear e3
    have h3 := h2.keep t3
    have s3 : Same (off H a) (off H3 a) := by
      have x : Same (off H a) (off H2 a) := by
        rw [o2]
        exact s1
      exact x.trans (off_keep t3)
    have hs3 := (hs.keep s3).keep off_same
    have es3 := (off_at (s3 _ _ es0)).1
    rw [len] at u3
    have odd : ∀ x ∈ [V.int (-1), .int ((ns.length : Int) + m), .int ((ns.length : Int) + m + v), .non, .bl true, .str "0"], flatV x = true ∧ wholeV x (some 0) (some ((ns.length : Int) + m - 1)) = false := by
      have out : ∀ i : Int, (ns.length : Int) + m ≤ i → wholeV (.int i) (some 0) (some ((ns.length : Int) + m - 1)) = false := fun i h => by
        show (decide ((0 : Int) ≤ i) && decide (i ≤ (ns.length : Int) + m - 1)) = false
        rw [decide_eq_false (show ¬ i ≤ (ns.length : Int) + m - 1 by omega), Bool.and_false]
      intro x hx
      rcases List.mem_cons.mp hx with rfl | hx
      · refine ⟨rfl, ?_⟩
        show (decide ((0 : Int) ≤ -1) && decide (-1 ≤ (ns.length : Int) + m - 1)) = false
        rw [decide_eq_false (by decide)]
        rfl
      rcases List.mem_cons.mp hx with rfl | hx
      · exact ⟨rfl, out _ (by omega)⟩
      rcases List.mem_cons.mp hx with rfl | hx
      · exact ⟨rfl, out _ (by omega)⟩
      rcases List.mem_cons.mp hx with rfl | hx
      · exact ⟨rfl, rfl⟩
      rcases List.mem_cons.mp hx with rfl | hx
      · exact ⟨rfl, rfl⟩
      rw [List.mem_singleton.mp hx]
      exact ⟨rfl, rfl⟩
    refine ⟨l, rfl, ⟨_, SqL.of u3⟩, for_list (K := K) (a := l) (xs := [V.int (-1), .int ((ns.length : Int) + m), .int ((ns.length : Int) + m + v), .non, .bl true, .str "0"]) (fun i σ H' => ∃ w4 w5 w6 w7 w8 w9 w10 w11 w12, σ = [some (.ref a), some (.ref s), some (.ref p), some (.int m), w4, w5, w6, w7, w8, w9, w10, w11, w12] ∧ Same H3 H') ⟨_, _, _, _, _, _, _, _, _, rfl, Same.refl _⟩ (fun i σ H' _ h => by obtain ⟨_, _, _, _, _, _, _, _, _, _, k⟩ := h; exact SqL.of (k _ _ u3)) ?_ ?_⟩
    · rintro i x σ H4 hi ⟨w4, w5, w6, w7, w8, w9, w10, w11, w12, rfl, k⟩
      obtain ⟨fl, hw⟩ := odd x (List.mem_of_getElem? hi)
      obtain ⟨d, hd, ht, hn, un⟩ := flat_dat (K := K) (H := H4) fl
      refine ⟨_, rfl, s, dx, _, rfl, k _ _ es3, rfl, _, rfl, Nat.zero_le _, fun l5 nl5 => ?_⟩
      generalize e5 : upd H4 l5 _ = H5
      have t5 := gs e5 nl5
      clear e5
      refine ⟨s, ns, m, x, .int 0, .ref l5, rfl, (hs3.keep k).keep t5, .inr ⟨d, dp_keep t5 _ _ hd, ht, hn, tyOf_flat fl, hw, fun z dd H6 t6 ndd ed hz => ?_⟩⟩
      have ezx := un _ _ hz
      subst ezx
      refine ⟨true, hN, fun _ a' na => ?_, fun z => nomatch z⟩
      refine ⟨_, rfl, rfl, rfl, dd, _, _, rfl, ed, rfl, _, rfl, _, rfl, fl, ⟨_, rfl, iteF ?_⟩⟩
      refine ⟨_, rfl, ⟨NS, _, _, false, dd, _, rfl, rfl, TN, rfl, ed, .own BT, k1, ⟨_, rfl, iteF ?_⟩⟩⟩
      refine ⟨_, rfl, ⟨NS, _, _, false, dd, _, rfl, rfl, TN, rfl, ed, .own BS, k2, ⟨_, rfl, iteF ?_⟩⟩⟩
      exact ⟨_, _, _, _, _, _, _, _, _, rfl, k.trans (t5.trans t6)⟩
    rintro σ H4 ⟨w4, w5, w6, w7, w8, w9, w10, w11, w12, rfl, k⟩
    exact q _ H4 (h3.keep k) (s3.trans (off_keep k)) rfl
end
end My
set_option Elab.async false
set_option linter.all false
set_option maxRecDepth 100000
set_option maxHeartbeats 4000000
namespace My
open PySem PySem.Spec PyProof.Rows L2
def spLaw (K : PySem.W.Frag) : Sp := fun vs H Q _ => ∃ (p : Addr) (ns : List Int), vs = [.ref p] ∧ SqL K H p (ns.map V.int) ∧ ns.length ≤ 63 ∧ ∀ H', Q (.bl true) H'
theorem showable_ints : ∀ ns : List Int, (∀ n ∈ ns, 0 ≤ n ∧ n ≤ 1000000000) → PyData.showableAll (ns.map PyData.int) = true
  | [], _ => by simp only [List.map_nil, PyData.showableAll]
  | n :: ns, h => by
    have h0 := h n (List.mem_cons_self ..)
    have e : n.natAbs.log2 < 1920 := by
      by_cases z : n.natAbs = 0
      · rw [z]; decide
      · exact (Nat.log2_lt z).mpr (Nat.lt_of_lt_of_le (show n.natAbs < 2 ^ 30 by omega) (Nat.pow_le_pow_right (by decide) (by decide)))
    simp only [List.map_cons, PyData.showableAll, PyData.showable, showable_ints ns (fun m hm => h m (List.mem_cons_of_mem _ hm)), decide_eq_true e, Bool.and_self]
theorem hasDict_ints : ∀ ns : List Int, PyData.hasDictAll (ns.map PyData.int) = false
  | [] => by simp only [List.map_nil, PyData.hasDictAll]
  | n :: ns => by simp only [List.map_cons, PyData.hasDictAll, PyData.hasDict, hasDict_ints ns, Bool.or_self]
theorem canLay_ints : ∀ ns : List Int, PyData.canLayAll0 (ns.map PyData.int) = true
  | [] => by simp only [List.map_nil, PyData.canLayAll0]
  | n :: ns => by simp only [List.map_cons, PyData.canLayAll0, PyData.canLay0, canLay_ints ns, Bool.and_self]
theorem depth_ints : ∀ ns : List Int, PyData.depthAll (ns.map PyData.int) = 0
  | [] => by simp only [List.map_nil, PyData.depthAll]
  | n :: ns => by simp only [List.map_cons, PyData.depthAll, PyData.depth, depth_ints ns, Nat.max_self]
theorem weight_ints : ∀ ns : List Int, (∀ n ∈ ns, 0 ≤ n ∧ n ≤ 1000000000) → PyData.weightAll (ns.map PyData.int) ≤ 40 * ns.length
  | [], _ => by simp only [List.map_nil, PyData.weightAll]; omega
  | n :: ns, h => by
    have h0 := h n (List.mem_cons_self ..)
    have ih := weight_ints ns fun m hm => h m (List.mem_cons_of_mem _ hm)
    have e : PyData.weight (.int n) ≤ 31 := by
      simp only [PyData.weight]
      split
      · omega
      · rename_i z
        have z' : n.natAbs ≠ 0 := fun y => z (by rw [show n = 0 by omega]; rfl)
        have := (Nat.log2_lt (k := 30) z').mpr (by omega)
        omega
    simp only [List.map_cons, PyData.weightAll, List.length_cons]
    omega
/-- data that repr shows -/
def ShowD (d : PyData) : Prop := d.showable = true ∧ d.hasDict = false ∧ d.depth ≤ 100 ∧ d.shown.length ≤ sizeLine
theorem showD_of {ns : List Int} {d : PyData} (hd : d = .list (ns.map .int) ∨ d = .tuple (ns.map .int)) (asc : Asc ns) : ShowD d := by
  obtain ⟨_, l8, bd⟩ := asc
  have w := weight_ints ns bd
  have w2 : PyData.weightAll (ns.map PyData.int) ≤ 2 ^ 20 := by
    have : (2 : Nat) ^ 20 = 1048576 := by decide
    omega
  have sh : d.shown.length ≤ 15728653 := by
    refine shown_le13 ?_ ?_
    · unfold PyData.layable0
      rcases hd with rfl | rfl
      · simp only [PyData.canLay0, canLay_ints, PyData.depth, depth_ints, PyData.weight, Bool.true_and, Bool.and_eq_true, decide_eq_true_eq]
        exact ⟨by decide, decide_eq_true w2⟩
      · simp only [PyData.canLay0, canLay_ints, PyData.depth, depth_ints, PyData.weight, Bool.true_and, Bool.and_eq_true, decide_eq_true_eq]
        exact ⟨by decide, decide_eq_true w2⟩
    · have e := PyData.intsShortAll_ints ns fun n hn => by have := bd n hn; omega
      rcases hd with rfl | rfl
      · simpa only [PyData.intsShort] using e
      · simpa only [PyData.intsShort] using e
  refine ⟨?_, ?_, ?_, Nat.le_trans sh (by decide)⟩
  · rcases hd with rfl | rfl
    · simpa only [PyData.showable] using showable_ints ns bd
    · simpa only [PyData.showable] using showable_ints ns bd
  · rcases hd with rfl | rfl
    · simpa only [PyData.hasDict] using hasDict_ints ns
    · simpa only [PyData.hasDict] using hasDict_ints ns
  · rcases hd with rfl | rfl
    · simp only [PyData.depth, depth_ints]; decide
    · simp only [PyData.depth, depth_ints]; decide
theorem soAt_off {K : PySem.W.Frag} {C : Addr} {H : Hp} {s a c : Addr} {ns : List Int} {m : Int} (h : SoAt K C H s ns m) (hh : Hand MH H a c) : SoAt K C (off H a) s ns m := by
  obtain ⟨l, ea⟩ := hh.some
  obtain ⟨dx, t, es, ht⟩ := h
  have ne : s ≠ a := fun z => by rw [z, ea] at es; cases es
  refine ⟨dx, t, by rw [off_ne ne]; exact es, ?_⟩
  rcases ht with (ht | ⟨o, ht⟩) | ht
  · exact .inl (.inl (by rw [off_ne (fun z => by rw [z, ea] at ht; cases ht)]; exact ht))
  · exact .inl (.inr ⟨o, by rw [off_ne (fun z => by rw [z, ea] at ht; cases ht)]; exact ht⟩)
  · exact .inr ht
theorem tup_made (ns : List Int) (m : Int) (h : ns.length ≤ 1000) : tupD (madeOk ns m) = true := by
  have e : tupDs (ns.map PyData.int) = true := tupDs_of fun d m => by
    obtain ⟨n, _, rfl⟩ := List.mem_map.mp m
    rw [tupD]
  simp [madeOk, tupD, tupDs, e, h]
theorem tup_two (ns : List Int) (m : Int) (h : ns.length ≤ 1000) : tupD (.tuple [.tuple (ns.map .int), .int m]) = true := by
  have e : tupDs (ns.map PyData.int) = true := tupDs_of fun d m => by
    obtain ⟨n, _, rfl⟩ := List.mem_map.mp m
    rw [tupD]
  simp [tupD, tupDs, e, h]
theorem dep_two (ns : List Int) (m : Int) : dep (.tuple [.tuple (ns.map .int), .int m]) ≤ 3 := by
  simp [dep, depAll, dep_ints ns]
theorem dep_made (ns : List Int) (m : Int) : dep (madeOk ns m) ≤ 3 := by
  simp [madeOk, dep, depAll, dep_ints ns]
section
variable {P : Program} {w : World} {K : PySem.W.Frag} {mg : Str → Option Value} {base : Heap} {C : Addr}
theorem sc_law : FnScope ["_law_script", "_law_hand_here", "_law_turn", "_law_greatest", "_law_named_here", "_law_modulus", "_law_handed", "_law_kept", "_law_sorts"] ["_law_script"] (defScope (topS 39)) := ⟨rfl, rfl, rfl, by decide +kernel, rfl, by decide +kernel, by decide +kernel⟩
theorem ok_law {f : Addr} {fd : FuncData} (F : L2.Fun K "law" "law" (topS 39) f fd) {BS : Addr} (S : SoC K C) (M : MkS P w K mg base C BS) (cH : Cal P w K mg base 1 "_law_hand" (spHand MH K)) (cN : Cal P w K mg base 4 "_law_named" (spNamed K)) (cD : Cal P w K mg base 2 "_law_draw" (spDraw MH)) (cT : Cal P w K mg base 3 "_law_take" (spTake K)) (cE : ∀ n : Nat, Cal P w K mg base (n + 1) "_law_exact" (spExact K n)) (cM : Cal P w K mg base 13 "_law_made" (spMade K)) (cEq : Cal P w K mg base 13 "_law_equal" (spEqual K C)) (cRf : Cal P w K mg base 14 "_law_refused" (spRefused K)) (cVs : Cal P w K mg base 14 "_law_values_sorted" (spSorted K C)) (cNu : Cal P w K mg base 14 "_law_numbered" (spNumd K C)) (m_len : mg "len" = none) (m_range : mg "range" = none) (m_tuple : mg "tuple" = none) (m_repr : mg "repr" = none) : FnG P w K mg base 15 f fd ["_law_script"] (spLaw K) := by
  refine fnG_of F sc_law (fun vs H Q E h => ?_) (fun cdv A outer s0 H vs Q hg hr h => ?_)
  · obtain ⟨p, ns, rfl, _⟩ := h
    rfl
  · obtain ⟨p0, is, rfl, hS, h63, q⟩ := h
    refine ⟨_, (pss_cons (ps_set (i := 1) sc_law.nd rfl (.inl rfl) (pe_c cH hr (by decide) rfl (pa_cons (pv 0) pa_nil)))
      (pss_cons (ps_for PassesOwn.never rfl (pi_range1 (by rfl) m_range (pa_cons pe_int pa_nil)) (pg_name (i := 2) sc_law.nd rfl (.inl rfl)) (pss_cons (ps_set (i := 4) sc_law.nd rfl (.inl rfl) (pe_c cN hr (by decide) rfl (pa_cons (pv 1) (pa_cons pe_int (pa_cons (pe_lst pa_nil) pa_nil))))) (pss_cons (ps_set (i := 5) sc_law.nd rfl (.inl rfl) (pe_op op_add pe_int (pe_c cD hr (by decide) rfl (pa_cons (pv 1) (pa_cons pe_int pa_nil))))) (pss_cons (ps_set (i := 6) sc_law.nd rfl (.inl rfl) (pe_c cT hr (by decide) rfl (pa_cons (pv 1) (pa_cons (pv 4) pa_nil)))) (pss_cons (ps_set (i := 7) sc_law.nd rfl (.inl rfl) (pe_callB (call_reprD hg (by have := hr.un; show (A.deeper _).units + 150 < _; omega)) (by rfl) m_repr (by decide +kernel) (pa_cons (pv 6) pa_nil))) (pss_cons (ps_if (pt_not (pt_truth (pe_c (cE 3) hr (by decide) rfl (pa_cons (pe_c cM hr (by decide) rfl (pa_cons (pv 6) (pa_cons (pv 5) pa_nil))) (pa_cons (pe_tup (pa_cons pe_str (pa_cons (pe_callTy call_tuple_of (by rfl) m_tuple (by decide +kernel) (pa_cons (pv 4) pa_nil)) (pa_cons (pv 5) (pa_cons (pe_op op_add (pe_callB call_len_seq (by rfl) m_len PySem.boot_len (pa_cons (pv 4) pa_nil)) (pv 5)) pa_nil))))) pa_nil))) (by intro _; rfl))) (pss_one (ps_ret pe_bl)) pss_nil) (pss_cons (ps_set (i := 8) sc_law.nd rfl (.inl rfl) (pe_mkX M takesF hr (by decide) (by rfl) (pa_cons (pv 6) (pa_cons (pv 5) pa_nil)))) (pss_cons (ps_if (PW.pt (pw_or (pt_not (pt_truth (pe_c cEq hr (by decide) rfl (pa_cons (pv 1) (pa_cons (pv 8) (pa_cons (pv 4) (pa_cons (pv 5) pa_nil))))) (by intro _; rfl))) (pw_or1 (pt_not (pt_truth (pe_c cRf hr (by decide) rfl (pa_cons (pv 1) (pa_cons (pv 4) (pa_cons (pv 5) pa_nil)))) (by intro _; rfl)))))) (pss_one (ps_ret pe_bl)) pss_nil) (pss_cons (ps_if (PW.pt (pw_or (pt_not (pt_truth (pe_c cVs hr (by decide) rfl (pa_cons (pv 1) (pa_cons (pv 8) (pa_cons (pv 4) (pa_cons (pv 5) pa_nil))))) (by intro _; rfl))) (pw_or1 (pt_not (pt_truth (pe_c cNu hr (by decide) rfl (pa_cons (pv 1) (pa_cons (pv 8) (pa_cons (pv 4) (pa_cons (pv 5) pa_nil))))) (by intro _; rfl)))))) (pss_one (ps_ret pe_bl)) pss_nil) (pss_one (ps_if (PW.pt (pw_or (pt_cmpR op_ne (pe_callB (call_reprD hg (by have := hr.un; show (A.deeper _).units + 150 < _; omega)) (by rfl) m_repr (by decide +kernel) (pa_cons (pv 6) pa_nil)) (pv 7) (nomark _)) (pw_or1 (pt_not (pt_truth (pe_c (cE 3) hr (by decide) rfl (pa_cons (pe_tup (pa_cons (pe_fld (pv 8) rfl) (pa_cons (pe_fld (pv 8) rfl) pa_nil))) (pa_cons (pe_tup (pa_cons (pe_callTy call_tuple_of (by rfl) m_tuple (by decide +kernel) (pa_cons (pv 4) pa_nil)) (pa_cons (pv 5) pa_nil))) pa_nil))) (by intro _; rfl)))))) (pss_one (ps_ret pe_bl)) pss_nil)))))))))))
      (pss_cons (ps_set (i := 3) sc_law.nd rfl (.inl rfl) (pe_tupRg rfl (by rfl) m_tuple (prg_2 (by rfl) m_range pe_int pe_int)))
      (pss_one (ps_ret (pe_and (pe_c (cE 3) hr (by decide) rfl (pa_cons (pe_c cM hr (by decide) rfl (pa_cons (pv 3) (pa_cons pe_int pa_nil))) (pa_cons (pe_tup (pa_cons pe_str (pa_cons (pv 3) (pa_cons pe_int (pa_cons pe_int pa_nil))))) pa_nil))) (pe_one (pe_c (cE 3) hr (by decide) rfl (pa_cons (pe_c cM hr (by decide) rfl (pa_cons (pe_lst pa_nil) (pa_cons pe_int pa_nil))) (pa_cons (pe_tup (pa_cons pe_str (pa_cons (pe_tup pa_nil) (pa_cons pe_int (pa_cons pe_int pa_nil))))) pa_nil)))))))))), ?_⟩
    refine ⟨_, rfl, p0, is, rfl, hS, h63, fun a c H1 t1 na nc h1 => ?_⟩
    refine ⟨(2 : Int), rfl, by decide, by decide, ?_⟩
    refine for_range (lo := 0) (n := 2) (fun i σ H' => Hand MH H' a c ∧ ∃ w2 w4 w5 w6 w7 w8, σ = [some (.ref p0), some (.ref a), w2, none, w4, w5, w6, w7, w8]) ⟨h1, _, _, _, _, _, _, rfl⟩ ?_ ?_
    · rintro i σ H2 hi ⟨h2, w2, w4, w5, w6, w7, w8, rfl⟩
      -- named
      refine ⟨_, rfl, Nat.zero_le _, fun l nl => ?_⟩
      generalize e3 : upd H2 l _ = H3
      have t3 := gs e3 nl
      have u3 := ga e3
      clear e3
      have h3 := h2.keep t3
      have u3' : off H3 a l = some (.lst []) := by
        rw [off_ne (h2.new nl)]
        exact u3
      refine ⟨a, c, l, rfl, h3, u3', fun v H4 h4 s4 hv => ?_⟩
      obtain ⟨p, ns, rfl, hp, asc⟩ := hv
      have len : (ns.map V.int).length = ns.length := List.length_map ..
      have l8 := asc.2.1
      have few : (ns.map V.int).length ≤ 1000 := by
        rw [len]
        omega
      have ok := okN_asc asc
      -- modulus
      refine rd_drw (m := 6) (fun R h => ⟨_, rfl, h⟩) h4 (by decide) (by decide) fun v H5 v0 v1 h5 o5 => ?_
      refine ⟨_, _, rfl, rfl, ?_⟩
      have hp5 : off H5 a p = some (.lst (ns.map V.int)) := by
        rw [o5]
        exact hp
      obtain ⟨m, em⟩ : ∃ m : Int, m = 1 + v := ⟨_, rfl⟩
      try dsimp only []
      show gName 5 (V.int (1 + v)) _ _ _
      rw [← em]
      have m1 : 1 ≤ m := by omega
      have m6 : m ≤ 6 := by omega
      -- handed
      refine ⟨_, rfl, _, rfl, a, c, p, _, rfl, h5, hp5, fun v' H6 h6 s6 hq => ?_⟩
      obtain ⟨q6, rfl, hq⟩ := hq
      have hp6 := s6 _ _ hp5
      have sx : SeqIn K (off H6 a) (.ref q6) (some (ns.map V.int)) := hq.elim (fun e => seq_lst e few (flat_ints ns)) (fun e => seq_tup e few (flat_ints ns))
      have dat : ∃ d, Dp K (off H6 a) (.ref q6) d ∧ ShowD d := hq.elim (fun e => ⟨_, .lst (SqL.of e) dpAll_ints, showD_of (.inl rfl) asc⟩) (fun e => ⟨_, .tup (SqT.of e) dpAll_ints, showD_of (.inr rfl) asc⟩)
      obtain ⟨d, hd, sd1, sd2, sd3, sd4⟩ := dat
      -- kept
      refine ⟨_, rfl, q6, d, rfl, dp_keep off_same _ _ hd, sd1, sd2, sd3, sd4, ?_⟩
      -- made
      refine ⟨_, rfl, _, rfl, .ref q6, .int m, _, rfl, sx.keep off_same, ⟨_, .int m⟩, .inl ⟨ns, m, rfl, ok, rfl, m1, m6, fun p1 H7 t7 d7 => ?_⟩⟩
      refine ⟨_, rfl, p, _, rfl, .inl ⟨SqL.of (t7 _ _ (off_at hp6).1), fun l8 nl8 => ?_⟩⟩
      generalize e8 : upd H7 l8 _ = H8
      have t8 := gs e8 nl8
      have u8 := ga e8
      clear e8
      refine ⟨_, rfl, _, rfl, p, _, rfl, .inl (SqL.of ((t7.trans t8) _ _ (off_at hp6).1)), _, rfl, _, _, rfl, rfl, (by show 4 ≤ sizeLine; decide), fun l9 nl9 => ?_⟩
      rw [len]
      generalize e9 : upd H8 l9 _ = H9
      have t9 := gs e9 nl9
      have u9 := ga e9
      clear e9
      refine ⟨_, _, madeOk ns m, rfl, dp_keep (t8.trans t9) _ _ d7, .tup (SqT.of u9) (.cons (.str _) (.cons (.tup (SqT.of (t9 _ _ u8)) dpAll_ints) (.cons (.int m) (.cons (.int _) .nil)))), tup_made ns m (by omega), dep_made ns m, fun H10 t10 => ⟨_, rfl, ?_⟩⟩
      refine iteF ?_
      have t610 := ((t7.trans t8).trans t9).trans t10
      -- sorts
      refine ⟨_, rfl, _, rfl, fun s dx n1 nd ne => mk_good ((sx.keep off_same).keep t610) ok m1 m6 n1 nd ne fun H11 t11 hs => ?_⟩
      have t611 := t610.trans t11
      have h11 := h6.keep t611
      have s11 : Same (off H6 a) (off H11 a) := off_keep t611
      have so := soAt_off hs h11
      have hp11 := s11 _ _ hp6
      -- the four parts
      refine ⟨_, rfl, _, rfl, _, rfl, _, rfl, a, c, s, p, ns, m, rfl, h11, so, hp11, asc, m1, m6, fun v12 H12 h12 s12 hv => ?_⟩
      cases hv
      refine ⟨_, rfl, iteF ⟨_, rfl, _, rfl, _, rfl, a, c, p, ns, m, rfl, h12, s12 _ _ hp11, asc, m1, m6, fun v13 H13 h13 s13' hv => ?_⟩⟩
      cases hv
      have s13 := s12.trans s13'
      refine ⟨_, rfl, iteF ?_⟩
      refine ⟨_, rfl, _, rfl, _, rfl, _, rfl, a, c, s, p, ns, m, rfl, h13, so.keep s13, s13 _ _ hp11, asc, m1, m6, fun v14 H14 h14 s14' hv => ?_⟩
      cases hv
      have s14 := s13.trans s14'
      refine ⟨_, rfl, iteF ⟨_, rfl, _, rfl, _, rfl, _, rfl, a, c, s, p, ns, m, rfl, h14, so.keep s14, s14 _ _ hp11, asc, m1, m6, fun v15 H15 h15 s15' hv => ?_⟩⟩
      cases hv
      have s15 := s14.trans s15'
      refine ⟨_, rfl, iteF ?_⟩
      -- what was passed in stays
      refine ⟨_, rfl, q6, d, rfl, dp_keep off_same _ _ (dp_keep (s11.trans s15) _ _ hd), sd1, sd2, sd3, sd4, _, rfl, rfl, _, congrArg (fun b => V.bl (!b)) (decide_eq_true rfl), iteF ?_⟩
      obtain ⟨dx', tn, es, ht⟩ := (so.keep s15).keep off_same
      have hp15 := (off_at (s15 _ _ hp11)).1
      refine ⟨_, rfl, s, C, dx', _, _, rfl, es, S.i.cl, S.n1, rfl, _, rfl, s, C, dx', _, _, rfl, es, S.i.cl, S.n2, rfl, (by show 2 ≤ sizeLine; decide), fun x1 nx1 => ?_⟩
      generalize e16 : upd H15 x1 _ = H16
      have t16 := gs e16 nx1
      have u16 := ga e16
      clear e16
      refine ⟨_, rfl, p, _, rfl, .inl ⟨SqL.of (t16 _ _ hp15), fun x2 nx2 => ?_⟩⟩
      generalize e17 : upd H16 x2 _ = H17
      have t17 := gs e17 nx2
      have u17 := ga e17
      clear e17
      refine ⟨_, rfl, (by show 2 ≤ sizeLine; decide), fun x3 nx3 => ?_⟩
      generalize e18 : upd H17 x3 _ = H18
      have t18 := gs e18 nx3
      have u18 := ga e18
      clear e18
      have t1718 := t17.trans t18
      have t1618 := t16.trans t1718
      refine ⟨_, _, .tuple [.tuple (ns.map .int), .int m], rfl, .tup (SqT.of (t1718 _ _ u16)) (.cons (.tup (seqT_keep ht t1618) dpAll_ints) (.cons (.int m) .nil)), .tup (SqT.of u18) (.cons (.tup (SqT.of (t18 _ _ u17)) dpAll_ints) (.cons (.int m) .nil)), tup_two ns m (by omega), dep_two ns m, fun H19 t19 => ⟨_, rfl, ?_⟩⟩
      exact iteF ⟨h15.keep (t1618.trans t19), _, _, _, _, _, _, rfl⟩
    · rintro σ H2 ⟨h2, w2, w4, w5, w6, w7, w8, rfl⟩
      have g8 : (rgV 1 9) = [1, 2, 3, 4, 5, 6, 7, 8].map V.int := by decide +kernel
      have asc8 : Asc [1, 2, 3, 4, 5, 6, 7, 8] := ⟨by decide, by decide, by decide⟩
      have asc0 : Asc [] := ⟨.nil, by decide, by simp⟩
      refine ⟨1, 9, rfl, rfl, .of_le (by decide) (by decide) (by decide) (by decide), fun g ng => ?_⟩
      generalize e3 : upd H2 g _ = H3
      have t3 := gs e3 ng
      have u3 := ga e3
      clear e3
      rw [g8] at u3
      refine ⟨_, rfl, .ref g, .int 6, _, rfl, seq_tup u3 (by decide) (flat_ints _), ⟨_, .int 6⟩, .inl ⟨[1, 2, 3, 4, 5, 6, 7, 8], 6, rfl, okN_asc asc8, rfl, by decide, by decide, fun p1 H4 t4 d4 => ?_⟩⟩
      refine ⟨_, rfl, (by show 4 ≤ sizeLine; decide), fun x1 nx1 => ?_⟩
      generalize e5 : upd H4 x1 _ = H5
      have t5 := gs e5 nx1
      have u5 := ga e5
      clear e5
      refine ⟨_, _, madeOk [1, 2, 3, 4, 5, 6, 7, 8] 6, rfl, dp_keep t5 _ _ d4, .tup (SqT.of u5) (.cons (.str _) (.cons (.tup (SqT.of ((t4.trans t5) _ _ u3)) dpAll_ints) (.cons (.int 6) (.cons (.int 14) .nil)))), tup_made _ _ (by decide), dep_made _ _, fun H6 t6 => ⟨true, rfl, iteT ?_⟩⟩
      refine ⟨Nat.zero_le _, fun l nl => ?_⟩
      generalize e7 : upd H6 l _ = H7
      have t7 := gs e7 nl
      have u7 : H7 l = some (.lst (([] : List Int).map V.int)) := ga e7
      clear e7
      refine ⟨.ref l, .int 1, _, rfl, seq_lst u7 (by decide) (flat_ints _), ⟨_, .int 1⟩, .inl ⟨[], 1, rfl, okN_asc asc0, rfl, by decide, by decide, fun p2 H8 t8 d8 => ?_⟩⟩
      refine ⟨Nat.zero_le _, fun x2 nx2 => ?_⟩
      generalize e9 : upd H8 x2 _ = H9
      have t9 := gs e9 nx2
      have u9 : H9 x2 = some (.tup (([] : List Int).map V.int)) := ga e9
      clear e9
      refine ⟨(by show 4 ≤ sizeLine; decide), fun x3 nx3 => ?_⟩
      generalize e10 : upd H9 x3 _ = H10
      have t10 := gs e10 nx3
      have u10 := ga e10
      clear e10
      exact ⟨_, _, madeOk [] 1, rfl, dp_keep (t9.trans t10) _ _ d8, .tup (SqT.of u10) (.cons (.str _) (.cons (.tup (SqT.of (t10 _ _ u9)) dpAll_ints) (.cons (.int 1) (.cons (.int 1) .nil)))), tup_made _ _ (by decide), dep_made _ _, fun H11 t11 => q H11⟩
end
end My
set_option Elab.async false
set_option linter.all false
set_option maxRecDepth 100000
set_option maxHeartbeats 0
namespace My
open PySem PySem.Spec PyProof.Rows L2 He MyH MyN
section
variable {P : Program} {w : World} {K : PySem.W.Frag} {mg : Str → Option Value} {h : Heap}
theorem law_ok (X : K.In h) (G : h.Ns mainGlobals mg) (c0 : SaysN facts fn manyAt manyV K) : ∃ fd : FuncData, (∀ (s : Shared) (v : Value), BindsTo s fd ⟨[v], []⟩ [("_law_script", v)]) ∧ ∀ base : Heap, FnG P w K mg base 15 (He.ga K "law") fd ["_law_script"] (spLaw K) := by
  have c := c0.m
  obtain ⟨fdL, FL⟩ := c.def_ 23 (d := dF "law" 39) rfl
  have EL : L2.Fun K "law" "law" (topS 39) (He.ga K "law") fdL := fun_of FL
  have bL := FunD.bindsA (ps := ["_law_script"]) (x := "law") (qual := "law") (params := defArgs (topS 39)) (body := defBody (topS 39)) (scope := defScope (topS 39)) (kws := []) (f := He.ga K "law") FL fun _ _ _ _ _ _ us hl => match us, hl with | [_], _ => rfl
  refine ⟨fdL, fun s v => bL s [v] rfl, fun base => ?_⟩
  obtain ⟨hf, hx⟩ := ba (show (famAll K "DealError" tab && ((fas.all fun f => f.ok K) && (soB K (He.ga K "Sorts") voAt && (prB K (He.ga K "Sorts") (ma K (He.ga K "Sorts") "many") (manyAt K) "many" && okA K (manyAt K) "Sorts.many")))) = true from c.fact)
  obtain ⟨hfa, hx⟩ := ba hx
  obtain ⟨hso, hx⟩ := ba hx
  obtain ⟨hpr, hgt⟩ := ba hx
  have fm := fam_ok hf
  have so := soB_ok hso
  have pr := prB_ok hpr
  obtain ⟨fdM, FM⟩ := fnA_ok c0.g hgt
  have fa : ∀ (i : Nat) {f : Fa}, fas[i]? = some f → f.ok K = true := fun i f e => List.all_eq_true.mp hfa f (List.mem_of_getElem? e)
  have m_int : mg "int" = none := free_ok X G (fa 0 (f := .free "int") rfl)
  have m_len : mg "len" = none := free_ok X G (fa 1 (f := .free "len") rfl)
  have m_abs : mg "abs" = none := free_ok X G (fa 2 (f := .free "abs") rfl)
  have m_isinstance : mg "isinstance" = none := free_ok X G (fa 3 (f := .free "isinstance") rfl)
  have m_list : mg "list" = none := free_ok X G (fa 4 (f := .free "list") rfl)
  have m_tuple : mg "tuple" = none := free_ok X G (fa 5 (f := .free "tuple") rfl)
  have m_range : mg "range" = none := free_ok X G (fa 6 (f := .free "range") rfl)
  have m_ValueError : mg "ValueError" = none := free_ok X G (fa 7 (f := .free "ValueError") rfl)
  have m_all : mg "all" = none := free_ok X G (fa 8 (f := .free "all") rfl)
  have m_zip : mg "zip" = none := free_ok X G (fa 9 (f := .free "zip") rfl)
  have m_enumerate : mg "enumerate" = none := free_ok X G (fa 10 (f := .free "enumerate") rfl)
  have m_bool : mg "bool" = none := free_ok X G (fa 11 (f := .free "bool") rfl)
  have m_str : mg "str" = none := free_ok X G (fa 12 (f := .free "str") rfl)
  have m_sorted : mg "sorted" = none := free_ok X G (fa 13 (f := .free "sorted") rfl)
  have m_set : mg "set" = none := free_ok X G (fa 14 (f := .free "set") rfl)
  have m_reversed : mg "reversed" = none := free_ok X G (fa 15 (f := .free "reversed") rfl)
  have m_repr : mg "repr" = none := free_ok X G (fa 16 (f := .free "repr") rfl)
  have i_DEEPEST : ∃ u, mg "DEEPEST" = some u ∧ RelV (.int 6) u := (int_ok X G (fa 17 (f := .int "DEEPEST" 6) rfl)).elim fun z e => ⟨_, e, z, rfl⟩
  have i_GREATEST_VALUE : ∃ u, mg "GREATEST_VALUE" = some u ∧ RelV (.int 1000000000) u := (int_ok X G (fa 18 (f := .int "GREATEST_VALUE" 1000000000) rfl)).elim fun z e => ⟨_, e, z, rfl⟩
  have i_MOST_NAMED : ∃ u, mg "MOST_NAMED" = some u ∧ RelV (.int 8) u := (int_ok X G (fa 19 (f := .int "MOST_NAMED" 8) rfl)).elim fun z e => ⟨_, e, z, rfl⟩
  have i_MOST_MODULUS : ∃ u, mg "MOST_MODULUS" = some u ∧ RelV (.int 6) u := (int_ok X G (fa 20 (f := .int "MOST_MODULUS" 6) rfl)).elim fun z e => ⟨_, e, z, rfl⟩
  have g_DealError : mg "DealError" = some (.ref (He.ga K "DealError")) := PySem.W.mg_of X G fm.de.glo
  have X0 := fm.ex (i := 0) rfl
  have g_BadSorts : mg "BadSorts" = some (.ref (He.ga K "BadSorts")) := PySem.W.mg_of X G X0.glo
  have X1 := fm.ex (i := 1) rfl
  have g_BadValue : mg "BadValue" = some (.ref (He.ga K "BadValue")) := PySem.W.mg_of X G X1.glo
  have X2 := fm.ex (i := 2) rfl
  have g_NoSort : mg "NoSort" = some (.ref (He.ga K "NoSort")) := PySem.W.mg_of X G X2.glo
  have X3 := fm.ex (i := 3) rfl
  have g_BadTold : mg "BadTold" = some (.ref (He.ga K "BadTold")) := PySem.W.mg_of X G X3.glo
  obtain ⟨fdD, FD⟩ := c.def_ 25 (d := dC "DealError" "DealError.__init__" "__init__" 4 0 [.str ""]) rfl
  have FD2 : FunD K "__init__" "DealError.__init__" (defArgs (inClass (topS 4) 0)) (defBody (inClass (topS 4) 0)) (defScope (inClass (topS 4) 0)) [.str ""] [] (ma K (He.ga K "DealError") "__init__") fdD := FD
  obtain ⟨ds, vds, bD⟩ := FD2.binds1 (ps := ["self", "message"]) 2 1 (by simp) rfl (fun T kV doc pm an cdv ct us its hl hi => match us, its, hl, hi with | [_, _], [_], _, _ => ⟨_, rfl, rfl⟩)
  have eds : ds = [] := by
    cases vds
    rfl
  subst eds
  have D : DEf P w K mg base := ⟨⟨He.ga K "DealError", _, fdD, _, .type "type", fm.de.rd, fm.de.fc, ok_DE FD2 m_ValueError fm.de.vV, FD2.kp, bD, g_DealError⟩⟩
  obtain ⟨fdIn, FIn⟩ := c.def_ 0 (d := dF "_in_tuples" 2) rfl
  have EIn : L2.Fun K "_in_tuples" "_in_tuples" (topS 2) (He.ga K "_in_tuples") fdIn := fun_of FIn
  have gIn : mg "_in_tuples" = some (.ref (He.ga K "_in_tuples")) := glo_ok X G (fa 21 (f := .glo "_in_tuples") rfl)
  have bIn : Binds K fdIn ["thing", "depth"] [] := FIn.bindsN fun _ _ _ _ _ _ us hl => match us, hl with | [_, _], _ => rfl
  have cIn : Cal P w K mg base 7 "_in_tuples" (spIn K 6) := ⟨⟨_, _, _, ok_in EIn gIn bIn m_isinstance m_list m_tuple 6, gIn, EIn.kp, bIn⟩⟩
  obtain ⟨fdKept, FKept⟩ := c.def_ 1 (d := dF "_kept" 3) rfl
  have EKept : L2.Fun K "_kept" "_kept" (topS 3) (He.ga K "_kept") fdKept := fun_of FKept
  have gKept : mg "_kept" = some (.ref (He.ga K "_kept")) := glo_ok X G (fa 22 (f := .glo "_kept") rfl)
  have bKept : Binds K fdKept ["thing"] [] := FKept.bindsN fun _ _ _ _ _ _ us hl => match us, hl with | [_], _ => rfl
  have cKept : Cal P w K mg base 8 "_kept" (spKept K) := ⟨⟨_, _, _, ok_kept EKept cIn i_DEEPEST, gKept, EKept.kp, bKept⟩⟩
  obtain ⟨fdI0, FI0⟩ := c.def_ 26 (d := dC "BadSorts" "BadSorts.__init__" "__init__" 5 0 []) rfl
  have EI0 : L2.Fun K "__init__" "BadSorts.__init__" (inClass (topS 5) 0) (ma K (He.ga K "BadSorts") "__init__") fdI0 := fun_of FI0
  have T0 : ExT K (He.ga K "BadSorts") := X0.t fm.de
  have R0 : Err P w K mg base "BadSorts" (He.ga K "BadSorts") "what" := ⟨T0, ⟨X0.atr, X0.atg, X0.o.exC, T0.dct⟩, X0.nf _ (by simp), g_BadSorts, ⟨_, fdI0, ["self", "what"], ok_BadSorts EI0 D T0 (X0.nf _ (by simp)), X0.i, X0.ti, FI0.bindsN fun _ _ _ _ _ _ us hl => match us, hl with | [_, _], _ => rfl⟩⟩
  obtain ⟨fdI1, FI1⟩ := c.def_ 27 (d := dC "BadValue" "BadValue.__init__" "__init__" 6 0 []) rfl
  have EI1 : L2.Fun K "__init__" "BadValue.__init__" (inClass (topS 6) 0) (ma K (He.ga K "BadValue") "__init__") fdI1 := fun_of FI1
  have T1 : ExT K (He.ga K "BadValue") := X1.t fm.de
  have R1 : Err P w K mg base "BadValue" (He.ga K "BadValue") "value" := ⟨T1, ⟨X1.atr, X1.atg, X1.o.exC, T1.dct⟩, X1.nf _ (by simp), g_BadValue, ⟨_, fdI1, ["self", "value"], ok_BadValue EI1 D cKept T1 (X1.nf _ (by simp)), X1.i, X1.ti, FI1.bindsN fun _ _ _ _ _ _ us hl => match us, hl with | [_, _], _ => rfl⟩⟩
  obtain ⟨fdI2, FI2⟩ := c.def_ 28 (d := dC "NoSort" "NoSort.__init__" "__init__" 7 0 []) rfl
  have EI2 : L2.Fun K "__init__" "NoSort.__init__" (inClass (topS 7) 0) (ma K (He.ga K "NoSort") "__init__") fdI2 := fun_of FI2
  have T2 : ExT K (He.ga K "NoSort") := X2.t fm.de
  have R2 : Err P w K mg base "NoSort" (He.ga K "NoSort") "number" := ⟨T2, ⟨X2.atr, X2.atg, X2.o.exC, T2.dct⟩, X2.nf _ (by simp), g_NoSort, ⟨_, fdI2, ["self", "number"], ok_NoSort EI2 D cKept T2 (X2.nf _ (by simp)), X2.i, X2.ti, FI2.bindsN fun _ _ _ _ _ _ us hl => match us, hl with | [_, _], _ => rfl⟩⟩
  obtain ⟨fdW, FW⟩ := c.def_ 24 (d := dW "is_whole" 10) rfl
  have FW2 : FunD K "is_whole" "is_whole" (defArgs (topS 10)) (defBody (topS 10)) (defScope (topS 10)) [.non, .non] [] (He.ga K "is_whole") fdW := FW
  obtain ⟨dw, vdw, bW⟩ := FW2.binds1 (ps := ["thing", "low", "high"]) 3 2 (by simp) rfl (fun T kV doc pm an cdv ct us its hl hi => match us, its, hl, hi with | [_, _, _], [_, _], _, _ => ⟨_, rfl, rfl⟩)
  have edw : dw = [] := by
    cases vdw
    rfl
  subst edw
  have cW : Cal P w K mg base 1 "is_whole" (spWhole K) := ⟨⟨_, _, _, ok_is_whole FW2 m_isinstance m_int m_bool, glo_ok X G (fa 45 (f := .glo "is_whole") rfl), FW2.kp, bW⟩⟩
  obtain ⟨fdSeq, FSeq⟩ := c.def_ 2 (d := dF "is_sequence" 11) rfl
  have ESeq : L2.Fun K "is_sequence" "is_sequence" (topS 11) (He.ga K "is_sequence") fdSeq := fun_of FSeq
  have gSeq : mg "is_sequence" = some (.ref (He.ga K "is_sequence")) := glo_ok X G (fa 23 (f := .glo "is_sequence") rfl)
  have bSeq : Binds K fdSeq ["thing"] [] := FSeq.bindsN fun _ _ _ _ _ _ us hl => match us, hl with | [_], _ => rfl
  have cSeq : Cal P w K mg base 1 "is_sequence" (spSeq K) := ⟨⟨_, _, _, ok_is_sequence ESeq m_isinstance m_list m_tuple, gSeq, ESeq.kp, bSeq⟩⟩
  obtain ⟨fdVal, FVal⟩ := c.def_ 3 (d := dF "is_value" 14) rfl
  have EVal : L2.Fun K "is_value" "is_value" (topS 14) (He.ga K "is_value") fdVal := fun_of FVal
  have gVal : mg "is_value" = some (.ref (He.ga K "is_value")) := glo_ok X G (fa 24 (f := .glo "is_value") rfl)
  have bVal : Binds K fdVal ["thing"] [] := FVal.bindsN fun _ _ _ _ _ _ us hl => match us, hl with | [_], _ => rfl
  have cVal : Cal P w K mg base 2 "is_value" (spValue K) := ⟨⟨_, _, _, ok_is_value EVal cW i_GREATEST_VALUE, gVal, EVal.kp, bVal⟩⟩
  obtain ⟨fdAsc, FAsc⟩ := c.def_ 4 (d := dF "is_ascending" 18) rfl
  have EAsc : L2.Fun K "is_ascending" "is_ascending" (topS 18) (He.ga K "is_ascending") fdAsc := fun_of FAsc
  have gAsc : mg "is_ascending" = some (.ref (He.ga K "is_ascending")) := glo_ok X G (fa 25 (f := .glo "is_ascending") rfl)
  have bAsc : Binds K fdAsc ["thing"] [] := FAsc.bindsN fun _ _ _ _ _ _ us hl => match us, hl with | [_], _ => rfl
  have cAsc : Cal P w K mg base 3 "is_ascending" (spAsc K) := ⟨⟨_, _, _, ok_is_ascending EAsc cSeq cVal m_all m_zip, gAsc, EAsc.kp, bAsc⟩⟩
  have gSo : mg "Sorts" = some (.ref (He.ga K "Sorts")) := glo_ok X G (fa 46 (f := .glo "Sorts") rfl)
  have S : SoC K (He.ga K "Sorts") := ⟨⟨cls_ok (fa 47 (f := .cls "Sorts") rfl), so.cl, fm.de.gt, fm.de.tk, so.ob, if_pos (beq_self_eq_true (Value.ref (He.ga K "Sorts")))⟩, noat_ok (fa 48 (f := .noat "Sorts" "named") rfl), noat_ok (fa 49 (f := .noat "Sorts" "modulus") rfl)⟩
  have EM : L2.Fun K "many" "Sorts.many" (inClass (topS 19) 1) (manyAt K) fdM := fun_of FM
  have bM : Binds K fdM ["self"] [] := FM.bindsN fun _ _ _ _ _ _ us hl => match us, hl with | [_], _ => rfl
  have PM : PropM P w K mg base (He.ga K "Sorts") := ⟨⟨_, _, fdM, _, pr, ok_many EM S m_len, bM⟩⟩
  obtain ⟨fdEq, FEq⟩ := c.def_ 30 (d := dC "Sorts" "Sorts.__eq__" "__eq__" 19 2 []) rfl
  have EEq : L2.Fun K "__eq__" "Sorts.__eq__" (inClass (topS 19) 2) (ma K (He.ga K "Sorts") "__eq__") fdEq := fun_of FEq
  have bEq : Binds K fdEq ["self", "other"] [] := FEq.bindsN fun _ _ _ _ _ _ us hl => match us, hl with | [_, _], _ => rfl
  have mEq := meth_ok (fa 56 (f := .meth "Sorts" "__eq__") rfl)
  have EQ : EqC P w K mg base (He.ga K "Sorts") := ⟨⟨_, fdEq, _, ok_eqS EEq S m_isinstance gSo, mEq.at_, mEq.fn, bEq⟩, so.nT, so.nN, so.kT, so.kN⟩
  obtain ⟨fdPl, FPl⟩ := c.def_ 31 (d := dC "Sorts" "Sorts._place_of" "_place_of" 19 3 []) rfl
  have EPl : L2.Fun K "_place_of" "Sorts._place_of" (inClass (topS 19) 3) (ma K (He.ga K "Sorts") "_place_of") fdPl := fun_of FPl
  have bPl : Binds K fdPl ["self", "value"] [] := FPl.bindsN fun _ _ _ _ _ _ us hl => match us, hl with | [_, _], _ => rfl
  have cP : C8.Met P w K mg base 1 (He.ga K "Sorts") "_place_of" (spPlace K (He.ga K "Sorts")) [] := ⟨⟨_, fdPl, _, _, S.i.cl, meth_ok (fa 54 (f := .meth "Sorts" "_place_of") rfl), ok_place EPl S m_enumerate m_len, bPl, .nil⟩⟩
  obtain ⟨fdRe, FRe⟩ := c.def_ 35 (d := dC "Sorts" "Sorts._remaining" "_remaining" 19 7 []) rfl
  have ERe : L2.Fun K "_remaining" "Sorts._remaining" (inClass (topS 19) 7) (ma K (He.ga K "Sorts") "_remaining") fdRe := fun_of FRe
  have bRe : Binds K fdRe ["self", "remainder", "number", "barred"] [] := FRe.bindsN fun _ _ _ _ _ _ us hl => match us, hl with | [_, _, _, _], _ => rfl
  have cR : C8.Met P w K mg base 1 (He.ga K "Sorts") "_remaining" (spRem K (He.ga K "Sorts")) [] := ⟨⟨_, fdRe, _, _, S.i.cl, meth_ok (fa 55 (f := .meth "Sorts" "_remaining") rfl), ok_rem ERe S, bRe, .nil⟩⟩
  obtain ⟨fdKi, FKi⟩ := c.def_ 33 (d := dC "Sorts" "Sorts.kind_of" "kind_of" 19 5 []) rfl
  have EKi : L2.Fun K "kind_of" "Sorts.kind_of" (inClass (topS 19) 5) (ma K (He.ga K "Sorts") "kind_of") fdKi := fun_of FKi
  have bKi : Binds K fdKi ["self", "row"] [] := FKi.bindsN fun _ _ _ _ _ _ us hl => match us, hl with | [_, _], _ => rfl
  have cKO : C8.Met P w K mg base 2 (He.ga K "Sorts") "kind_of" (spKindOf K (He.ga K "Sorts")) [] := ⟨⟨_, fdKi, _, _, S.i.cl, meth_ok (fa 52 (f := .meth "Sorts" "kind_of") rfl), ok_kindof EKi cP m_tuple, bKi, .nil⟩⟩
  obtain ⟨fdSo, FSo⟩ := c.def_ 32 (d := dC "Sorts" "Sorts.sort_of" "sort_of" 19 4 []) rfl
  have bSo : Binds K fdSo ["self", "value"] [] := FSo.bindsN fun _ _ _ _ _ _ us hl => match us, hl with | [_, _], _ => rfl
  have FSo2 : FunD K "sort_of" "Sorts.sort_of" (defArgs (inClass (topS 19) 4)) (defBody (inClass (topS 19) 4)) (defScope (inClass (topS 19) 4)) [] [] (ma K (He.ga K "Sorts") "sort_of") fdSo := FSo
  have MSo : MtS P w K mg base (He.ga K "Sorts") "sort_of" (spSortOf K (He.ga K "Sorts") (He.ga K "BadValue")) [] := ⟨⟨_, fdSo, _, _, meth_ok (fa 51 (f := .meth "Sorts" "sort_of") rfl), ok_sortof FSo2 cVal cP R1, bSo, .nil⟩⟩
  obtain ⟨fdVo, FVo⟩ := c.def_ 34 (d := dC "Sorts" "Sorts.value_of" "value_of" 19 6 [.adr (dflAt voAt 0)]) rfl
  have FVo2 : FunD K "value_of" "Sorts.value_of" (defArgs (inClass (topS 19) 6)) (defBody (inClass (topS 19) 6)) (defScope (inClass (topS 19) 6)) [.ref (dflAt voAt 0 K)] [] (ma K (He.ga K "Sorts") "value_of") fdVo := FVo
  obtain ⟨d4, vd4, bV4⟩ := FVo2.binds1 (ps := ["self", "sort", "number", "avoided"]) 4 1 (by simp) rfl (fun T kV doc pm an cdv ct us its hl hi => match us, its, hl, hi with | [_, _, _, _], [_], _, _ => ⟨_, rfl, rfl⟩)
  have ed4 : d4 = [] := by
    cases vd4
    rfl
  subst ed4
  obtain ⟨d3, vd3, bV3⟩ := FVo2.binds1 (ps := ["self", "sort", "number", "avoided"]) 3 0 (by simp) rfl (fun T kV doc pm an cdv ct us its hl hi => match us, its, hl, hi with | [_, _, _], [_], _, _ => ⟨_, rfl, rfl⟩)
  have FVo3 := ok_valueof (P := P) (w := w) (mg := mg) (base := base) (NS := He.ga K "NoSort") FVo2 S cW PM m_len cR R2
  have M3 : MtS P w K mg base (He.ga K "Sorts") "value_of" (spValueOf K (He.ga K "Sorts") (He.ga K "NoSort")) [] := ⟨⟨_, fdVo, _, _, meth_ok (fa 53 (f := .meth "Sorts" "value_of") rfl), FVo3, bV4, .nil⟩⟩
  have M2 : MtS P w K mg base (He.ga K "Sorts") "value_of" (spValueOf K (He.ga K "Sorts") (He.ga K "NoSort")) [.ref (dflAt voAt 0 K)] := ⟨⟨_, fdVo, _, _, meth_ok (fa 53 (f := .meth "Sorts" "value_of") rfl), FVo3, bV3, vd3⟩⟩
  obtain ⟨fdMi, FMi⟩ := c.def_ 29 (d := dC "Sorts" "Sorts.__init__" "__init__" 19 0 []) rfl
  have bMi : Binds K fdMi ["self", "named", "modulus"] [] := FMi.bindsN fun _ _ _ _ _ _ us hl => match us, hl with | [_, _, _], _ => rfl
  have FMi2 : FunD K "__init__" "Sorts.__init__" (defArgs (inClass (topS 19) 0)) (defBody (inClass (topS 19) 0)) (defScope (inClass (topS 19) 0)) [] [] (ma K (He.ga K "Sorts") "__init__") fdMi := FMi
  have MK : MkS P w K mg base (He.ga K "Sorts") (He.ga K "BadSorts") := ⟨⟨_, fdMi, _, mkr_ok (fa 50 (f := .mkr "Sorts") rfl), ok_sorts FMi2 S cAsc cW m_len m_tuple i_MOST_NAMED i_MOST_MODULUS R0, bMi, gSo⟩⟩
  have h0 : Caught K (He.ga K "BadSorts") (He.ga K "BadSorts") true := exm_ok (fa 57 (f := .exm "BadSorts" "BadSorts" true) rfl)
  have h1 : Caught K (He.ga K "BadValue") (He.ga K "BadValue") true := exm_ok (fa 58 (f := .exm "BadValue" "BadValue" true) rfl)
  have h2 : Caught K (He.ga K "NoSort") (He.ga K "NoSort") true := exm_ok (fa 59 (f := .exm "NoSort" "NoSort" true) rfl)
  have h3 : Caught K (He.ga K "BadSorts") (He.ga K "DealError") true := exm_ok (fa 60 (f := .exm "BadSorts" "DealError" true) rfl)
  have kit : ∀ {i j : Nat} {p q : Str × List Str}, tab[i]? = some p → tab[j]? = some q → PySem.W.kitOne K (.ref (He.ga K p.1)) (.ref (He.ga K q.1)) = some (decide (i = j)) := fun {i j p q} e1 e2 => by
    rw [(fm.ex e1).kit (fm.ex e2) (fm.nD e2)]
    congr 1
    by_cases hij : i = j
    · rw [decide_eq_true hij, decide_eq_true ((fm.nd e1 e2).mpr hij)]
    · rw [decide_eq_false hij, decide_eq_false (fun z => hij ((fm.nd e1 e2).mp z))]
  have k00 : PySem.W.kitOne K (.ref (He.ga K "BadSorts")) (.ref (He.ga K "BadSorts")) = some true := kit (i := 0) (j := 0) (p := ("BadSorts", ["what"])) (q := ("BadSorts", ["what"])) rfl rfl
  have k02 : PySem.W.kitOne K (.ref (He.ga K "BadSorts")) (.ref (He.ga K "NoSort")) = some false := kit (i := 0) (j := 2) (p := ("BadSorts", ["what"])) (q := ("NoSort", ["number"])) rfl rfl
  have k23 : PySem.W.kitOne K (.ref (He.ga K "NoSort")) (.ref (He.ga K "BadTold")) = some false := kit (i := 2) (j := 3) (p := ("NoSort", ["number"])) (q := ("BadTold", ["told"])) rfl rfl
  have k20 : PySem.W.kitOne K (.ref (He.ga K "NoSort")) (.ref (He.ga K "BadSorts")) = some false := kit (i := 2) (j := 0) (p := ("NoSort", ["number"])) (q := ("BadSorts", ["what"])) rfl rfl
  obtain ⟨fdMix, FMix⟩ := c.def_ 5 (d := dF "_law_mix" 21) rfl
  have EMix : L2.Fun K "_law_mix" "_law_mix" (topS 21) (He.ga K "_law_mix") fdMix := fun_of FMix
  have gMix : mg "_law_mix" = some (.ref (He.ga K "_law_mix")) := glo_ok X G (fa 26 (f := .glo "_law_mix") rfl)
  have bMix : Binds K fdMix ["_law_number", "_law_turn"] [] := FMix.bindsN fun _ _ _ _ _ _ us hl => match us, hl with | [_, _], _ => rfl
  have cMix : Cal P w K mg base 1 "_law_mix" (spMix 2147483647) := ⟨⟨_, _, _, ok_mix EMix m_int, gMix, EMix.kp, bMix⟩⟩
  obtain ⟨fdDraw, FDraw⟩ := c.def_ 7 (d := dF "_law_draw" 23) rfl
  have EDraw : L2.Fun K "_law_draw" "_law_draw" (topS 23) (He.ga K "_law_draw") fdDraw := fun_of FDraw
  have gDraw : mg "_law_draw" = some (.ref (He.ga K "_law_draw")) := glo_ok X G (fa 28 (f := .glo "_law_draw") rfl)
  have bDraw : Binds K fdDraw ["_law_hand_here", "_law_many"] [] := FDraw.bindsN fun _ _ _ _ _ _ us hl => match us, hl with | [_, _], _ => rfl
  have cDraw : Cal P w K mg base 2 "_law_draw" (spDraw MH) := ⟨⟨_, _, _, ok_draw EDraw m_int m_len cMix, gDraw, EDraw.kp, bDraw⟩⟩
  obtain ⟨fdHand, FHand⟩ := c.def_ 6 (d := dF "_law_hand" 22) rfl
  have EHand : L2.Fun K "_law_hand" "_law_hand" (topS 22) (He.ga K "_law_hand") fdHand := fun_of FHand
  have gHand : mg "_law_hand" = some (.ref (He.ga K "_law_hand")) := glo_ok X G (fa 27 (f := .glo "_law_hand") rfl)
  have bHand : Binds K fdHand ["_law_script"] [] := FHand.bindsN fun _ _ _ _ _ _ us hl => match us, hl with | [_], _ => rfl
  have cHand : Cal P w K mg base 1 "_law_hand" (spHand MH K) := ⟨⟨_, _, _, ok_hand EHand m_int m_enumerate m_abs, gHand, EHand.kp, bHand⟩⟩
  obtain ⟨fdEx, FEx⟩ := c.def_ 8 (d := dF "_law_exact" 24) rfl
  have EEx : L2.Fun K "_law_exact" "_law_exact" (topS 24) (He.ga K "_law_exact") fdEx := fun_of FEx
  have gEx : mg "_law_exact" = some (.ref (He.ga K "_law_exact")) := glo_ok X G (fa 29 (f := .glo "_law_exact") rfl)
  have bEx : Binds K fdEx ["_law_told", "_law_due"] [] := FEx.bindsN fun _ _ _ _ _ _ us hl => match us, hl with | [_, _], _ => rfl
  have cE : ∀ n : Nat, Cal P w K mg base (n + 1) "_law_exact" (spExact K n) := fun n => ⟨⟨_, _, _, ok_exact EEx gEx bEx m_isinstance m_int m_bool m_str m_tuple m_len m_range n, gEx, EEx.kp, bEx⟩⟩
  have XH : ExH P w K mg base := ⟨⟨_, fdEx, ok_exactH EEx m_isinstance m_int m_bool m_str m_tuple, gEx, EEx.kp, bEx⟩⟩
  obtain ⟨fdTake, FTake⟩ := c.def_ 9 (d := dF "_law_take" 25) rfl
  have ETake : L2.Fun K "_law_take" "_law_take" (topS 25) (He.ga K "_law_take") fdTake := fun_of FTake
  have gTake : mg "_law_take" = some (.ref (He.ga K "_law_take")) := glo_ok X G (fa 30 (f := .glo "_law_take") rfl)
  have bTake : Binds K fdTake ["_law_hand_here", "_law_rows"] [] := FTake.bindsN fun _ _ _ _ _ _ us hl => match us, hl with | [_, _], _ => rfl
  have cTake : Cal P w K mg base 3 "_law_take" (spTake K) := ⟨⟨_, _, _, ok_take ETake cDraw m_list m_tuple, gTake, ETake.kp, bTake⟩⟩
  obtain ⟨fdValu, FValu⟩ := c.def_ 10 (d := dF "_law_value" 26) rfl
  have EValu : L2.Fun K "_law_value" "_law_value" (topS 26) (He.ga K "_law_value") fdValu := fun_of FValu
  have gValu : mg "_law_value" = some (.ref (He.ga K "_law_value")) := glo_ok X G (fa 31 (f := .glo "_law_value") rfl)
  have bValu : Binds K fdValu ["_law_hand_here"] [] := FValu.bindsN fun _ _ _ _ _ _ us hl => match us, hl with | [_], _ => rfl
  have cValu : Cal P w K mg base 3 "_law_value" spVal := ⟨⟨_, _, _, ok_value EValu cDraw, gValu, EValu.kp, bValu⟩⟩
  obtain ⟨fdNam, FNam⟩ := c.def_ 11 (d := dF "_law_named" 27) rfl
  have ENam : L2.Fun K "_law_named" "_law_named" (topS 27) (He.ga K "_law_named") fdNam := fun_of FNam
  have gNam : mg "_law_named" = some (.ref (He.ga K "_law_named")) := glo_ok X G (fa 32 (f := .glo "_law_named") rfl)
  have bNam : Binds K fdNam ["_law_hand_here", "_law_most", "_law_pool"] [] := FNam.bindsN fun _ _ _ _ _ _ us hl => match us, hl with | [_, _, _], _ => rfl
  have cNam : Cal P w K mg base 4 "_law_named" (spNamed K) := ⟨⟨_, _, _, ok_named ENam cDraw cValu m_len m_range m_sorted m_set, gNam, ENam.kp, bNam⟩⟩
  obtain ⟨fdSrt, FSrt⟩ := c.def_ 12 (d := dF "_law_sort" 28) rfl
  have ESrt : L2.Fun K "_law_sort" "_law_sort" (topS 28) (He.ga K "_law_sort") fdSrt := fun_of FSrt
  have gSrt : mg "_law_sort" = some (.ref (He.ga K "_law_sort")) := glo_ok X G (fa 33 (f := .glo "_law_sort") rfl)
  have bSrt : Binds K fdSrt ["_law_named_here", "_law_modulus", "_law_value_here"] [] := FSrt.bindsN fun _ _ _ _ _ _ us hl => match us, hl with | [_, _, _], _ => rfl
  have cSrt : Cal P w K mg base 1 "_law_sort" (spSort K) := ⟨⟨_, _, _, ok_sort ESrt m_len m_int, gSrt, ESrt.kp, bSrt⟩⟩
  obtain ⟨fdKnd, FKnd⟩ := c.def_ 13 (d := dF "_law_kind" 29) rfl
  have EKnd : L2.Fun K "_law_kind" "_law_kind" (topS 29) (He.ga K "_law_kind") fdKnd := fun_of FKnd
  have gKnd : mg "_law_kind" = some (.ref (He.ga K "_law_kind")) := glo_ok X G (fa 34 (f := .glo "_law_kind") rfl)
  have bKnd : Binds K fdKnd ["_law_named_here", "_law_modulus", "_law_row"] [] := FKnd.bindsN fun _ _ _ _ _ _ us hl => match us, hl with | [_, _, _], _ => rfl
  have cKnd : Cal P w K mg base 2 "_law_kind" (spKind K) := ⟨⟨_, _, _, ok_kind EKnd cSrt m_tuple, gKnd, EKnd.kp, bKnd⟩⟩
  obtain ⟨fdMade, FMade⟩ := c.def_ 14 (d := dF "_law_made" 30) rfl
  have EMade : L2.Fun K "_law_made" "_law_made" (topS 30) (He.ga K "_law_made") fdMade := fun_of FMade
  have gMade : mg "_law_made" = some (.ref (He.ga K "_law_made")) := glo_ok X G (fa 35 (f := .glo "_law_made") rfl)
  have bMade : Binds K fdMade ["_law_named_here", "_law_modulus"] [] := FMade.bindsN fun _ _ _ _ _ _ us hl => match us, hl with | [_, _], _ => rfl
  have cMade : Cal P w K mg base 13 "_law_made" (spMade K) := ⟨⟨_, _, _, ok_made EMade S MK PM R0 h0, gMade, EMade.kp, bMade⟩⟩
  obtain ⟨fdOdd, FOdd⟩ := c.def_ 15 (d := dF "_law_odd_named" 31) rfl
  have EOdd : L2.Fun K "_law_odd_named" "_law_odd_named" (topS 31) (He.ga K "_law_odd_named") fdOdd := fun_of FOdd
  have gOdd : mg "_law_odd_named" = some (.ref (He.ga K "_law_odd_named")) := glo_ok X G (fa 36 (f := .glo "_law_odd_named") rfl)
  have bOdd : Binds K fdOdd ["_law_hand_here", "_law_named_here"] [] := FOdd.bindsN fun _ _ _ _ _ _ us hl => match us, hl with | [_, _], _ => rfl
  have cOdd : Cal P w K mg base 3 "_law_odd_named" (spOddN K) := ⟨⟨_, _, _, ok_oddn EOdd cDraw m_len m_list m_range m_reversed, gOdd, EOdd.kp, bOdd⟩⟩
  obtain ⟨fdRef, FRef⟩ := c.def_ 16 (d := dF "_law_refused" 32) rfl
  have ERef : L2.Fun K "_law_refused" "_law_refused" (topS 32) (He.ga K "_law_refused") fdRef := fun_of FRef
  have gRef : mg "_law_refused" = some (.ref (He.ga K "_law_refused")) := glo_ok X G (fa 37 (f := .glo "_law_refused") rfl)
  have bRef : Binds K fdRef ["_law_hand_here", "_law_named_here", "_law_modulus"] [] := FRef.bindsN fun _ _ _ _ _ _ us hl => match us, hl with | [_, _, _], _ => rfl
  have cRef : Cal P w K mg base 14 "_law_refused" (spRefused K) := ⟨⟨_, _, _, ok_refused ERef MK cDraw cOdd cMade cE g_BadSorts g_NoSort g_DealError T0 m_isinstance m_ValueError h3 k00 X0.ve k02, gRef, ERef.kp, bRef⟩⟩
  obtain ⟨fdAsk, FAsk⟩ := c.def_ 17 (d := dF "_law_sort_asked" 33) rfl
  have EAsk : L2.Fun K "_law_sort_asked" "_law_sort_asked" (topS 33) (He.ga K "_law_sort_asked") fdAsk := fun_of FAsk
  have gAsk : mg "_law_sort_asked" = some (.ref (He.ga K "_law_sort_asked")) := glo_ok X G (fa 38 (f := .glo "_law_sort_asked") rfl)
  have bAsk : Binds K fdAsk ["_law_sorts", "_law_value_here"] [] := FAsk.bindsN fun _ _ _ _ _ _ us hl => match us, hl with | [_, _], _ => rfl
  have cAsk : Cal P w K mg base 13 "_law_sort_asked" (spAsked K (He.ga K "Sorts")) := ⟨⟨_, _, _, ok_asked EAsk S MSo R1 h1, gAsk, EAsk.kp, bAsk⟩⟩
  obtain ⟨fdSom, FSom⟩ := c.def_ 18 (d := dF "_law_some_value" 34) rfl
  have ESom : L2.Fun K "_law_some_value" "_law_some_value" (topS 34) (He.ga K "_law_some_value") fdSom := fun_of FSom
  have gSom : mg "_law_some_value" = some (.ref (He.ga K "_law_some_value")) := glo_ok X G (fa 39 (f := .glo "_law_some_value") rfl)
  have bSom : Binds K fdSom ["_law_hand_here", "_law_named_here"] [] := FSom.bindsN fun _ _ _ _ _ _ us hl => match us, hl with | [_, _], _ => rfl
  have cSom : Cal P w K mg base 4 "_law_some_value" (spSome K) := ⟨⟨_, _, _, ok_some ESom cDraw cValu m_len, gSom, ESom.kp, bSom⟩⟩
  obtain ⟨fdVs, FVs⟩ := c.def_ 19 (d := dF "_law_values_sorted" 35) rfl
  have EVs : L2.Fun K "_law_values_sorted" "_law_values_sorted" (topS 35) (He.ga K "_law_values_sorted") fdVs := fun_of FVs
  have gVs : mg "_law_values_sorted" = some (.ref (He.ga K "_law_values_sorted")) := glo_ok X G (fa 40 (f := .glo "_law_values_sorted") rfl)
  have bVs : Binds K fdVs ["_law_hand_here", "_law_sorts", "_law_named_here", "_law_modulus"] [] := FVs.bindsN fun _ _ _ _ _ _ us hl => match us, hl with | [_, _, _, _], _ => rfl
  have cVs : Cal P w K mg base 14 "_law_values_sorted" (spSorted K (He.ga K "Sorts")) := ⟨⟨_, _, _, ok_sorted EVs S MSo cKO cDraw cSom cSrt cKnd cAsk cE m_range m_tuple, gVs, EVs.kp, bVs⟩⟩
  obtain ⟨fdDue, FDue⟩ := c.def_ 20 (d := dF "_law_due_value" 36) rfl
  have EDue : L2.Fun K "_law_due_value" "_law_due_value" (topS 36) (He.ga K "_law_due_value") fdDue := fun_of FDue
  have gDue : mg "_law_due_value" = some (.ref (He.ga K "_law_due_value")) := glo_ok X G (fa 41 (f := .glo "_law_due_value") rfl)
  have bDue : Binds K fdDue ["_law_named_here", "_law_modulus", "_law_sort_here", "_law_number", "_law_avoided"] [] := FDue.bindsN fun _ _ _ _ _ _ us hl => match us, hl with | [_, _, _, _, _], _ => rfl
  have cDue : Cal P w K mg base 1 "_law_due_value" (spDue K) := ⟨⟨_, _, _, ok_due EDue m_len m_range, gDue, EDue.kp, bDue⟩⟩
  obtain ⟨fdNu, FNu⟩ := c.def_ 21 (d := dF "_law_numbered" 37) rfl
  have ENu : L2.Fun K "_law_numbered" "_law_numbered" (topS 37) (He.ga K "_law_numbered") fdNu := fun_of FNu
  have gNu : mg "_law_numbered" = some (.ref (He.ga K "_law_numbered")) := glo_ok X G (fa 42 (f := .glo "_law_numbered") rfl)
  have bNu : Binds K fdNu ["_law_hand_here", "_law_sorts", "_law_named_here", "_law_modulus"] [] := FNu.bindsN fun _ _ _ _ _ _ us hl => match us, hl with | [_, _, _, _], _ => rfl
  have cNu : Cal P w K mg base 14 "_law_numbered" (spNumd K (He.ga K "Sorts")) := ⟨⟨_, _, _, ok_numd ENu S MSo M3 M2 so.e0 R2 h2 XH T2 cDraw cSom cDue cTake cE g_BadTold g_BadSorts k23 k20 m_len m_range m_isinstance, gNu, ENu.kp, bNu⟩⟩
  obtain ⟨fdEqu, FEqu⟩ := c.def_ 22 (d := dF "_law_equal" 38) rfl
  have EEqu : L2.Fun K "_law_equal" "_law_equal" (topS 38) (He.ga K "_law_equal") fdEqu := fun_of FEqu
  have gEqu : mg "_law_equal" = some (.ref (He.ga K "_law_equal")) := glo_ok X G (fa 43 (f := .glo "_law_equal") rfl)
  have bEqu : Binds K fdEqu ["_law_hand_here", "_law_sorts", "_law_named_here", "_law_modulus"] [] := FEqu.bindsN fun _ _ _ _ _ _ us hl => match us, hl with | [_, _, _, _], _ => rfl
  have cEqu : Cal P w K mg base 13 "_law_equal" (spEqual K (He.ga K "Sorts")) := ⟨⟨_, _, _, ok_equal EEqu S MK EQ cValu m_tuple m_list, gEqu, EEqu.kp, bEqu⟩⟩
  exact ok_law EL S MK cHand cNam cDraw cTake cE cMade cEqu cRef cVs cNu m_len m_range m_tuple m_repr
end
end My
set_option Elab.async false
set_option linter.all false
set_option maxRecDepth 100000
set_option maxHeartbeats 0
open PySem PySem.W PySem.Calls PyProof.Rows
theorem PySem.Challenge.cw_meetwhere_k08_sorts_made_and_values_numb_holds : PySem.Challenge.rw_meetwhere_k08_sorts_made_and_values_numb.Holds := by
  w_on; o_law
  refine HandSHeadRun.head_any (r := OpenLaw.row PySem.Challenge.rw_meetwhere_k08_sorts_made_and_values_numb) (q := view (OpenLaw.row PySem.Challenge.rw_meetwhere_k08_sorts_made_and_values_numb).prog [39]) (H := My.hk) (ob := My.ob) (M := 14000) (loose := My.names) (d := HandSHeadRun.topDef (OpenLaw.row PySem.Challenge.rw_meetwhere_k08_sorts_made_and_values_numb).prog 39) (kwd := []) My.ob_eq
    (by kernel_rfl) (fun s => by kernel_rfl) My.run (by kernel_rfl) (by kernel_rfl) (by kernel_rfl) (by rfl) (by first | assumption | decide +kernel) (by decide +kernel) ⟨rfl, rfl, rfl, rfl, rfl, by decide +kernel⟩ ?hw ?hc
  case hw => w_witness2
  case hc =>
    refine My.walk_ofG (l := PySem.Challenge.rw_meetwhere_k08_sorts_made_and_values_numb) (n := 63) (k := 15) (x := "_law_script") rfl (by decide) (by kernel_rfl) ⟨rfl, by decide, by decide⟩ ?F
    intro w mg fa h Y G hmg0
    obtain ⟨K, KX, c⟩ := Y
    have hmg : mg ("law" : PySem.Str) = some (.ref fa) := by
      have e : (HandSHeadRun.topDef (OpenLaw.row PySem.Challenge.rw_meetwhere_k08_sorts_made_and_values_numb).prog 39).name = ("law" : PySem.Str) := by kernel_rfl
      rw [← e]
      exact hmg0
    have hga : mg ("law" : PySem.Str) = some (.ref (He.ga K "law")) := He.glo_ok KX G (List.all_eq_true.mp (He.ba (He.ba (show (MyH.famAll K "DealError" My.tab && ((My.fas.all fun f => f.ok K) && (MyN.soB K (He.ga K "Sorts") My.voAt && (MyN.prB K (He.ga K "Sorts") (He.ma K (He.ga K "Sorts") "many") (My.manyAt K) "many" && MyN.okA K (My.manyAt K) "Sorts.many")))) = true from c.m.fact)).2).1 (.glo "law") (List.mem_of_getElem? (i := 44) rfl))
    have efa : He.ga K "law" = fa := Value.ref.inj (Option.some.inj (hga.symm.trans hmg))
    obtain ⟨fd, hb, hF⟩ := My.law_ok (P := (PySem.Challenge.rw_meetwhere_k08_sorts_made_and_values_numb).prog) (w := w) KX G c
    rw [efa] at hF
    exact ⟨K, fd, My.spLaw K, KX, fun s u => hb s u, fun H a ns hl _ hS => ⟨a, ns, rfl, hS, hl, fun _ => rfl⟩, fun base _ _ => hF base⟩
