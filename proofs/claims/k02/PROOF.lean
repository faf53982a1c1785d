import PyProof.Rows.All
import Wide.All
import OpenK.AllK
import Wide.FinOn
import HandS.ForMost
import HandS.Wide
import HandS.Codes
import HandS.Exc
import HandS.IsInst
import HandS.WordsExc
import HandS.Defaults
import KE.KExcIs
import HandS.ExcInit
import HandS.ClsMeth
import HandS.TupAny
import HandS.Zip
import HandS.Walk
import KE.GoesMore
import HandS.HeadEnd
import PyProof.ReprRoads
import HandS.SetFor
import HandS.Strs
import HandS.Rev
import PyProof.Rows.SetFrom
import HandS.Conv
import HandS.Property
import HandS.OwnEq
import HandS.ExcCtx
import HandS.HotCalls
import HandS.ExcOwn
import HandS.ExcField
import HandS.ExcIs
import HandS.CallSlots
import HandS.DictComp
import HandS.NoneIn
import HandS.SetBool
import KE.KStateDown
import HandS.Head0
import HandS.Head1
import HandS.Head2
import HandS.HeadHook1
import HandS.HeadHook2
import PySem.Challenge.RW_meetwhere_k02_whole_questions_and_unions
set_option Elab.async false
set_option linter.all false
set_option maxRecDepth 100000
set_option maxHeartbeats 4000000
namespace My
open PySem PySem.Spec PyProof.Rows L2
/-- a def that may be called by its name and lets nothing out -/
structure Cal (P : Program) (w : World) (K : PySem.W.Frag) (mg : Str → Option Value) (base : Heap) (k : Nat) (x : Str) (sp : Sp) : Prop where
  ex : ∃ (f : Addr) (fd : FuncData) (ps : List Str), FnOk P w K mg base CX0 k f fd ps sp ∧ mg x = some (.ref f) ∧ PySem.W.keepIn K (.ref f) = true ∧ Binds K fd ps []
theorem Cal.c8 {P : Program} {w : World} {K : PySem.W.Frag} {mg : Str → Option Value} {base : Heap} {k : Nat} {x : Str} {sp : Sp} (c : Cal P w K mg base k x sp) : C8.Cal P w K mg base k x sp [] := by
  obtain ⟨f, fd, ps, F, gf, kf, b⟩ := c.ex
  exact ⟨f, fd, ps, [], F, gf, kf, b, .nil⟩
theorem pe_c {X : Cx} {k j : Nat} {x : Str} {sp : Sp} {p pos : Pos} {e : Expr} {es : List Expr} {t : TA} (c : Cal X.prog X.w X.K X.mg X.base k x sp) (hr : Room j X.A) (hk : k ≤ j) (hg : Gl X x) (ha : PA X (e :: es) t)
    (d1 : (x == ("__debug__" : Str)) = false := by decide) (d2 : starEach (e :: es) X.env = (false, eval e X.env) :: starEach es X.env := by rfl) (d3 : (backTo pos (starEach es X.env)).any (·.1) = false := by rfl) :
    PE X (.Call (.Name x p) (e :: es) [] pos) (tCall sp [] E0 t) := C8.pe_c c.c8 hr hk hg ha d1 d2 d3
theorem same_upd {H : Hp} {p : Addr} {o : HO} (h : H p = none) : Same H (upd H p o) := fun b x e => by
  rw [upd_ne (ne_of_none e h)]
  exact e
theorem gs {H H0 : Hp} {p : Addr} {o : HO} (h : upd H p o = H0) (n : H p = none) : Same H H0 := by
  subst h
  exact same_upd n
theorem ga {H H0 : Hp} {p : Addr} {o : HO} (h : upd H p o = H0) : H0 p = some o := by
  subst h
  exact upd_same
theorem upd_upd {H : Hp} {p : Addr} {o u : HO} : upd (upd H p o) p u = upd H p u := by
  funext b
  unfold upd
  by_cases h : b = p
  · rw [if_pos h, if_pos h]
  · rw [if_neg h, if_neg h, if_neg h]
/-- a list that was new at D may be stored to: all that stood ahead of it stays -/
theorem same_but {J H2 : Hp} {D : Addr} {o : HO} (s : Same J H2) (n : J D = none) : Same J (upd H2 D o) := fun b u e => by
  rw [upd_ne (ne_of_none e n)]
  exact s _ _ e
theorem lt8000 {m : Int} (h : m.natAbs < 2 ^ 64) : m.natAbs < 2 ^ 8000 := Nat.lt_of_lt_of_le h (Nat.pow_le_pow_right (by decide) (by decide))
/-! ### the hand: [cells, place, rest, total] -/
def HandL (M : Int) (c : Addr) (n : Nat) (l : List V) : Prop := ∃ (i : Nat) (r t : Int), l = [.ref c, .int i, .int r, .int t] ∧ i ≤ n ∧ 0 ≤ r ∧ 0 ≤ t ∧ t < M
structure Hand (M : Int) (H : Hp) (a c : Addr) : Prop where
  ex : ∃ (cs : List Int) (l : List V), H a = some (.lst l) ∧ H c = some (.lst (cs.map V.int)) ∧ HandL M c cs.length l ∧ cs.length ≤ 63 ∧ ∀ x ∈ cs, 0 ≤ x
section
variable {M : Int}
theorem Hand.ne {H : Hp} {a c : Addr} (h : Hand M H a c) : c ≠ a := by
  obtain ⟨cs, l, h1, h2, ⟨i, r, t, rfl, _⟩, _⟩ := h.ex
  intro e
  subst e
  rw [h1] at h2
  have z := HO.lst.inj (Option.some.inj h2)
  cases cs with
  | nil => cases z
  | cons x cs =>
    rw [List.map_cons] at z
    have z1 := (List.cons.inj z).1
    cases z1
theorem Hand.keep {H H' : Hp} {a c : Addr} (h : Hand M H a c) (s : Same H H') : Hand M H' a c := by
  obtain ⟨cs, l, h1, h2, r⟩ := h.ex
  exact ⟨cs, l, s _ _ h1, s _ _ h2, r⟩
theorem Hand.put {H : Hp} {a c : Addr} {cs : List Int} {l : List V} (h2 : H c = some (.lst (cs.map V.int))) (hn : c ≠ a) (hl : HandL M c cs.length l) (h63 : cs.length ≤ 63) (h0 : ∀ x ∈ cs, 0 ≤ x) : Hand M (upd H a (.lst l)) a c :=
  ⟨cs, l, upd_same, by rw [upd_ne hn]; exact h2, hl, h63, h0⟩
end
/-- a draw: the hand stands at a, its cells at c; behind it a's list alone is another one -/
def spDraw (M : Int) : Sp := fun vs H Q _ => ∃ (a c : Addr) (m : Int), vs = [.ref a, .int m] ∧ Hand M H a c ∧ 0 < m ∧ m.natAbs < 2 ^ 8000 ∧ ∀ (v : Int) (l : List V), 0 ≤ v → v < m → Hand M (upd H a (.lst l)) a c → Q (.int v) (upd H a (.lst l))
def spHand (M : Int) (K : PySem.W.Frag) : Sp := fun vs H Q _ => ∃ (s : Addr) (ns : List Int), vs = [.ref s] ∧ SqL K H s (ns.map V.int) ∧ ns.length ≤ 63 ∧ ∀ (a c : Addr) (H' : Hp), Same H H' → H a = none → H c = none → Hand M H' a c → Q (.ref a) H'
def spMix (B : Int) : Sp := fun vs H Q _ => ∃ (n t : Int), vs = [.int n, .int t] ∧ 0 ≤ n ∧ n < B ∧ 0 ≤ t ∧ t ≤ 64 ∧ ∀ v : Int, Q (.int v) H
/-! ### what isinstance says of things -/
def intish : V → Bool
  | .int _ => true
  | .bl _ => true
  | _ => false
def boolish : V → Bool
  | .bl _ => true
  | _ => false
def strish : V → Bool
  | .str _ => true
  | _ => false
section
variable {K : PySem.W.Frag} {H : Hp} {x : V} {t : String}
theorem kit_int (h : TyOf K H x (.type t)) : PySem.W.kitOne K (.type t) (.type "int") = some (intish x) := by
  cases h <;> first | exact kit_ty (show kitB _ _ = some true by decide +kernel) | exact kit_ty (show kitB _ _ = some false by decide +kernel)
theorem kit_bool (h : TyOf K H x (.type t)) : PySem.W.kitOne K (.type t) (.type "bool") = some (boolish x) := by
  cases h <;> first | exact kit_ty (show kitB _ _ = some true by decide +kernel) | exact kit_ty (show kitB _ _ = some false by decide +kernel)
theorem kit_str (h : TyOf K H x (.type t)) : PySem.W.kitOne K (.type t) (.type "str") = some (strish x) := by
  cases h <;> first | exact kit_ty (show kitB _ _ = some true by decide +kernel) | exact kit_ty (show kitB _ _ = some false by decide +kernel)
theorem kit_list (h : TyOf K H x (.type t)) : PySem.W.kitOne K (.type t) (.type "list") = some (decide (t = "list")) := by
  cases h <;> first | exact kit_ty (show kitB _ _ = some true by decide +kernel) | exact kit_ty (show kitB _ _ = some false by decide +kernel)
theorem kit_tuple (h : TyOf K H x (.type t)) : PySem.W.kitOne K (.type t) (.type "tuple") = some (decide (t = "tuple")) := by
  cases h <;> first | exact kit_ty (show kitB _ _ = some true by decide +kernel) | exact kit_ty (show kitB _ _ = some false by decide +kernel)
theorem kit_seq (h : TyOf K H x (.type t)) : PySem.W.kitAny K (.type t) [.type "list", .type "tuple"] = some (decide (t = "list") || decide (t = "tuple")) := by
  by_cases h1 : t = "list"
  · exact kitAny_cons (kit_list h) (fun z => by rw [decide_eq_true h1] at z; cases z) (fun _ => by rw [decide_eq_true h1]; rfl)
  · by_cases h2 : t = "tuple"
    · refine kitAny_cons (kit_list h) (fun _ => kitAny_cons (kit_tuple h) (fun z => by rw [decide_eq_true h2] at z; cases z) (fun _ => by rw [decide_eq_true h2, Bool.or_true])) (fun z => ?_)
      rw [decide_eq_true h2, Bool.or_true]
    · rw [decide_eq_false h1, decide_eq_false h2]
      exact kitAny_cons (kit_list h) (fun _ => kitAny_cons (kit_tuple h) (fun _ => kitAny_nil) (fun z => by rw [decide_eq_false h2] at z; cases z)) (fun z => by rw [decide_eq_false h1] at z; cases z)
end
/-! ### bounds that may lack -/
def optV : Option Int → V
  | none => .non
  | some i => .int i
def loOk (i : Int) : Option Int → Bool
  | none => true
  | some l => decide (l ≤ i)
def hiOk (i : Int) : Option Int → Bool
  | none => true
  | some h => decide (i ≤ h)
def wholeV (x : V) (l h : Option Int) : Bool := match x with
  | .int i => loOk i l && hiOk i h
  | _ => false
/-- is_whole(thing, low, high) -/
def spWhole (K : PySem.W.Frag) : Sp := fun vs H Q _ => ∃ (x : V) (t : String) (l h : Option Int), vs = [x, optV l, optV h] ∧ TyOf K H x (.type t) ∧ Q (.bl (wholeV x l h)) H
def valueV (x : V) : Bool := wholeV x (some 0) (some 1000000000)
def spValue (K : PySem.W.Frag) : Sp := fun vs H Q _ => ∃ (x : V) (t : String), vs = [x] ∧ TyOf K H x (.type t) ∧ Q (.bl (valueV x)) H
def seqT (t : String) : Bool := decide (t = "list") || decide (t = "tuple")
/-- is_sequence(thing) -/
def spSeq (K : PySem.W.Frag) : Sp := fun vs H Q _ => ∃ (x : V) (t : String), vs = [x] ∧ TyOf K H x (.type t) ∧ ∀ H', Same H H' → Q (.bl (seqT t)) H'
theorem TyOf.keep {K : PySem.W.Frag} {H H' : Hp} {x : V} {t : Value} (h : TyOf K H x t) (s : Same H H') : TyOf K H' x t := by
  cases h with
  | non => exact .non
  | bl b => exact .bl b
  | int i => exact .int i
  | str z => exact .str z
  | flt z => exact .flt z
  | lst e => exact .lst (s _ _ e)
  | frz e => exact .frz (s _ _ e)
  | tup e => exact .tup (s _ _ e)
  | dK e => exact .dK (s _ _ e)
  | dT e => exact .dT (s _ _ e)
  | ins e c1 c2 c3 c4 c5 => exact .ins (s _ _ e) c1 c2 c3 c4 c5
end My
set_option Elab.async false
set_option linter.all false
set_option maxRecDepth 100000
set_option maxHeartbeats 4000000
namespace My
open PySem PySem.Spec PyProof.Rows L2
/-! ### exceptions of the program's own, made and kept as values -/
/-- what the walk asks of such a class, beside OexC -/
structure ExT (K : PySem.W.Frag) (C : Addr) : Prop where
  o : OexC K C
  atr : PySem.W.findIn K (.ref C) "__getattribute__" = some (some (.builtin "BaseException.__getattribute__"))
  atg : PySem.W.findIn K (.ref C) "__getattr__" = some none
  isc : PySem.W.isClsIn K C = true
  dct : PySem.W.hasDictIn K C = true
  cl : PySem.W.findIn K (.ref C) "__class__" = some (some (.builtin "object.__class__"))
  gt : PySem.W.specialIn K (.builtin "object.__class__") "__get__" = some (some (.builtin "getset_descriptor.__get__"))
  tk : PySem.W.takesIn K (.builtin "object.__class__") = some true
  ob : PySem.W.mroIn K C (.type "object") = some true
/-- at a: an exception of the class at C with these attributes -/
def ExAt (H : Hp) (a C : Addr) (fs : List (Str × V)) : Prop := ∃ dx, H a = some (exo a C (some dx)) ∧ H dx = some (exd dx fs)
theorem ExAt.keep {H H' : Hp} {a C : Addr} {fs : List (Str × V)} (h : ExAt H a C fs) (s : Same H H') : ExAt H' a C fs := by
  obtain ⟨dx, h1, h2⟩ := h
  exact ⟨dx, s _ _ h1, s _ _ h2⟩
section
variable {X : Cx} {pins : List (Addr × Obj)} {σ : L2.St} {H : Hp} {s : Shared} {a C : Addr} {fs : List (Str × V)}
theorem exAt_inst (I : Inv X pins σ H s) (h : ExAt H a C fs) : ∃ (oe od : Obj), PySem.W.InstAt s.heap a oe C (some od) ∧ ∃ mA : Str → Option Value, (∀ f, PySem.W.lookIn f od = some (mA f)) ∧ ∀ f, RelO (fs.lookup f) (mA f) := by
  obtain ⟨dx, h1, h2⟩ := h
  obtain ⟨t1, e1⟩ := exo_at I.hok h1
  obtain ⟨mA, hns, hr⟩ := exd_at I.hok h2
  obtain ⟨od, ho, hl⟩ := lookIn_ns hns
  exact ⟨_, od, ⟨e1, rfl, rfl, ho⟩, mA, hl, hr⟩
/-- e.f of such an exception -/
def tExF (K : PySem.W.Frag) (ta : TE) (f : Str) : TE := fun σ H Q => ta σ H fun x H1 => ∃ a C fs v, x = .ref a ∧ ExAt H1 a C fs ∧ ExT K C ∧ PySem.W.findIn K (.ref C) f = some none ∧ fs.lookup f = some v ∧ Q v H1
theorem pe_exf {e : Expr} {f : Str} {ta : TE} {pos : Pos} (he : PE X e ta) (hb : attributeBase e f X.env (eval e X.env) = eval e X.env := by rfl) : PE X (.Attribute e f pos) (tExF X.K ta f) := by
  refine ⟨fun pins s σ H Q I h => ?_⟩
  refine attr_of hb (thn (he.run pins s σ H _ I h) fun u s1 ⟨x, H1, I1, rx, a, C, fs, v, ex, ea, T, hno, hl, q⟩ => ?_)
  subst ex
  obtain rfl : u = Value.ref a := rx
  obtain ⟨oe, od, J, mA, hm, hr⟩ := exAt_inst I1 ea
  have hrf := hr f
  rw [hl] at hrf
  obtain ⟨u, hu, ru⟩ := RelO.some_of hrf
  exact HandSPX.exc_get I1.kIn J T.atr T.atg T.o.exC (PySem.W.findObj_own T.dct hno rfl (by rw [hm, hu])) (handed_of ru) ⟨v, H1, I1.tok _, ru, q⟩
/-- isinstance(e, c) -/
def rIsV (K : PySem.W.Frag) : List V → Hp → VK → Prop := fun xs H Q => ∃ (a C : Addr) (fs : List (Str × V)) (c : V) (u : Value) (b : Bool), xs = [.ref a, c] ∧ ExAt H a C fs ∧ ExT K C ∧ ClsV c u ∧ PySem.W.kitOne K (.ref C) u = some b ∧ Q (.bl b) H
theorem call_isV : CallR X (.builtin "isinstance") (rIsV X.K) := by
  intro pins s σ H xs us Q I r h
  obtain ⟨a, C, fs, c, u, b, rfl, ea, T, k, e, q⟩ := h
  obtain ⟨u1, u2, rfl, r1, r2⟩ := vals2 r
  have e2 := k.eq r2
  subst e2
  obtain rfl : u1 = Value.ref a := r1
  obtain ⟨oe, od, J, _⟩ := exAt_inst I ea
  exact PySem.W.kia_one (PySem.W.kitx_exc T.isc T.atr T.atg T.o.exC T.cl T.gt T.tk T.ob) I.kIn J e (fun z => nomatch z) fun tk => ⟨.bl b, H, I.tok tk, rfl, q⟩
end
/-! ### D.m(..), D a class of the program, m a def of it -/
section
variable {X : Cx} {k j : Nat} {x m : Str} {sp : Sp} {p p1 p2 pos : Pos} {e : Expr} {es : List Expr} {t : TA} {D f : Addr} {fd : FuncData} {ps : List Str} {mc : Value}
theorem pe_clsfn {pl : Sem Bool} (r : ClX.CRead X.K D mc) (e0 : PySem.W.findCls X.K (.ref D) mc m = some (.val (.ref f))) (F : FnOk X.prog X.w X.K X.mg X.base CX0 k f fd ps sp) (hr : Room j X.A) (hk : k ≤ j) (kp : PySem.W.keepIn X.K (.ref f) = true) (hb : Binds X.K fd ps []) (hg : Gl X x) (hm : X.mg x = some (.ref D)) (ha : PA X (e :: es) t)
    (hc : eval (.Call (.Attribute (.Name x p1) m p2) (e :: es) [] pos) X.env = (do
      let ov ← eval (.Name x p1) X.env
      standAt p2.atName
      let (f, first) ← holding [ov] (getMethod ov m pl)
      callWith pos f first (backTo pos (starEach (e :: es) X.env)) (backToKw pos (keywordEach [] X.env))) := by rfl)
    (hdg : (x == ("__debug__" : Str)) = false := by decide)
    (hst : starEach (e :: es) X.env = (false, eval e X.env) :: starEach es X.env := by rfl) (hpn : (backTo pos (starEach es X.env)).any (·.1) = false := by rfl) :
    PE X (.Call (.Attribute (.Name x p1) m p2) (e :: es) [] pos) (tCall sp [] E0 t) := by
  refine ⟨fun pins s σ H Q I h => ?_⟩
  refine PySem.W.methodCall_KW (ld_glob I hg hm ?_ hdg) hc
  refine PySem.W.method_cls I.kIn r.ga (PySem.W.cls_value I.kIn r.rd e0 rfl ?_)
  show wpAny _ _ (callWith pos (Value.ref f) [] (backTo pos (starEach (e :: es) X.env)) []) _ _ _
  refine PySem.W.callWith_K (h₀ := X.base) I.ok.mod.kin kp (thn (ha.run pos pins _ σ H _ (I.tok _) h) fun us s1 ⟨vs, H1, I1, r, q⟩ => ⟨I1.kIn, ?_⟩) hst hpn
  exact run_fn F (hr.mono hk) hb .nil pass0 I1 r q
end
/-! ### C(e, ..) as a value -/
def tMkV (C : Addr) (sp : Sp) (vs : List V) (H1 : Hp) (Q : VK) : Prop := vs.length ≤ 1000 ∧ ∀ a, H1 a = none → sp (.ref a :: vs) (upd H1 a (exo a C none)) (fun v H2 => v = .non ∧ Q (.ref a) H2) E0
section
variable {X : Cx} {k j : Nat} {x : Str} {sp : Sp} {p pos : Pos} {e : Expr} {es : List Expr} {ta : TA} {C fI : Addr} {fd : FuncData} {ps : List Str}
theorem pe_mkv (T : OexC X.K C) (iC : PySem.W.findIn X.K (.ref C) "__init__" = some (some (.ref fI))) (tI : PySem.W.typeIn X.K (.ref fI) = some (.type "function"))
    (F1 : FnOk X.prog X.w X.K X.mg X.base CX0 k fI fd ps sp) (hr : Room j X.A) (hk : k + 1 ≤ j) (hb : Binds X.K fd ps []) (hg : Gl X x) (hm : X.mg x = some (.ref C)) {R : List V → Hp → VK → Prop} (cv : ∀ vs H1 Q, R vs H1 Q → tMkV C sp vs H1 Q) (ha : PA X (e :: es) ta)
    (hdg : (x == ("__debug__" : Str)) = false := by decide) (hst : starEach (e :: es) X.env = (false, eval e X.env) :: starEach es X.env := by rfl) (hpn : (backTo pos (starEach es X.env)).any (·.1) = false := by rfl) :
    PE X (.Call (.Name x p) (e :: es) [] pos) (tCB R ta) := by
  obtain ⟨nm, qn, N, bs, bm, sn, sub, ab, col, dd, k0, k1, k2, k3, k5, hC, hbm⟩ := T.cls
  refine ⟨fun pins s σ H Q I hRead => wpAny_Call_Name_kw (ld_glob I hg hm (PySem.W.callWith_K (h₀ := X.base) I.ok.mod.kin T.kC (thn (ha.run pos pins s σ H _ I hRead) fun us s1 ⟨vs, H1, I1, rvs, q0⟩ => ⟨I1.kIn, ?_⟩) hst hpn) hdg)⟩
  obtain ⟨few, wish⟩ := cv _ _ _ q0
  obtain ⟨heap, gens, drawn, toks, world⟩ := s1
  -- the tuple of the arguments lies at the heap's end, the exception behind it
  obtain ⟨top, htop⟩ : ∃ top, top = heap.objs.size := ⟨_, rfl⟩
  have fresh : H1 (top + 1) = none := I1.hok.fresh (by show heap.objs.size ≤ _; omega)
  have promised := wish (top + 1) fresh
  have lies : ((heap.push (PySem.W.kdv_tup us)).push (PySem.HandSPX.excO C top)).get? (top + 1) = some (PySem.HandSPX.excO C top) := by
    subst htop
    heap_get
  have J : Inv X pins σ (upd H1 (top + 1) (exo (top + 1) C none)) ⟨(heap.push (PySem.W.kdv_tup us)).push (PySem.HandSPX.excO C top), gens, drawn, toks, world⟩ :=
    Inv.laid (t' := toks) I1 (fun b o z => Heap.get?_push_of_some _ (Heap.get?_push_of_some _ z)) (by show heap.objs.size ≤ _; omega) (exo_ok lies)
  have rAll : Vals (V.ref (top + 1) :: vs) (Value.ref (top + 1) :: us) := .cons rfl rvs
  have lens : (Value.ref (top + 1) :: us).length = ps.length := rAll.length.symm.trans (F1.len _ _ _ _ promised)
  have fits : us.length ≤ sizeLine := Nat.le_trans (Nat.le_of_eq rvs.length.symm) (Nat.le_trans few (by decide))
  have bound := hb _ (Value.ref (top + 1) :: us) J.kIn (by rw [List.append_nil]; exact lens)
  rw [List.append_nil] at bound
  have ran := F1.run _ X.stack _ _ ⟨Value.ref (top + 1) :: us, []⟩ (Value.ref (top + 1) :: us) _ _ E0 ((hr.mono hk).make C us []) (J.env0.make C us []) bound rAll promised
  show wpAny _ _ (call (.ref C) us) _ _ _
  subst htop
  refine wpAny_call (PySem.HandSPX.call_own F.excBase_ValueError (fun Y => PySem.HandSPX.refsVE_contains Y bm hbm) (I1.kIn _ _ hC) (PySem.W.looks_findIn I1.kIn iC) (fun self => PySem.W.bind_fn I1.kIn self tI) fits (codeAny_mono ran fun r s' ended => ?_))
  match r, ended with
  | .error _, z => exact z.elim
  | .ok .next, z => exact False.elim z
  | .ok .brk, z => exact False.elim z
  | .ok .cont, z => exact False.elim z
  | .ok (.ret u), ⟨v, H2, os2, bare2, un2, hok2, rv, ev, q2⟩ =>
    subst ev
    exact ⟨rv, .ref _, H2, J.call' (ch := []) os2 un2 hok2 bare2 (fun b z => absurd z (by simp)), rfl, q2⟩
end
end My
set_option Elab.async false
set_option linter.all false
set_option maxRecDepth 100000
set_option maxHeartbeats 4000000
namespace My
open PySem PySem.Spec PyProof.Rows L2
/-! ### lists and tuples alike -/
def SqV (K : PySem.W.Frag) (H : Hp) (a : Addr) (xs : List V) : Prop := SqL K H a xs ∨ SqT K H a xs
theorem rd_keep {H H' : Hp} {a : Addr} {o : HO} (s : Same H H') (h : Rd H a o) : Rd H' a o := by
  rcases h with h | ⟨ob, h⟩
  · exact .inl (s _ _ h)
  · exact .inr ⟨ob, s _ _ h⟩
theorem seqT_keep {K : PySem.W.Frag} {H H' : Hp} {a : Addr} {xs : List V} (h : SqT K H a xs) (s : Same H H') : SqT K H' a xs := h.imp (rd_keep s) id
theorem SqV.keep {K : PySem.W.Frag} {H H' : Hp} {a : Addr} {xs : List V} (h : SqV K H a xs) (s : Same H H') : SqV K H' a xs := h.imp (fun h => s.seq h) (fun h => seqT_keep h s)
def iSeq (K : PySem.W.Frag) (te : TE) : TI := fun σ H R => iList K te σ H R ∨ iTup K te σ H R
theorem pi_seq {X : Cx} {tg l : Expr} {tl : TE} (hl : PE X l tl) : PI X tg l (iSeq X.K tl) :=
  ⟨fun pins s σ H R I h => h.elim (fun h => (pi_list hl).run pins s σ H R I h) (fun h => (pi_tup hl).run pins s σ H R I h)⟩
theorem walk_zipT {K : PySem.W.Frag} {a b : Addr} {xs ys : List V} {n : Nat} (hn : n = min xs.length ys.length) : Walk (RZ.ItzT K a b) n (fun H => SqT K H a xs ∧ SqT K H b ys) (YPair (fun i => xs[i]?) (fun i => ys[i]?)) := by
  subst hn
  refine ⟨fun j _ lt both => ?_, fun _ both => ⟨xs, ys, both.1, both.2, by omega⟩, fun j H v H' _ both got => ?_⟩
  · have in1 : j < xs.length := by omega
    have in2 : j < ys.length := by omega
    exact ⟨xs, ys, xs[j], ys[j], both.1, both.2, by simp [in1], by simp [in2]⟩
  · obtain ⟨pr, u1, u2, ev, fr, eh, f1, f2⟩ := got
    exact ⟨pr, u1, u2, ev, fr, eh, f1 xs both.1, f2 ys both.2⟩
/-- [f(x) for x in xs] over a list or a tuple, where the calls only add to the heap -/
theorem lcMap {K : PySem.W.Frag} {te : TE} {i j : Nat} {vs : List Nat} {σ : L2.St} {H : Hp} {a : Addr} {xs : List V} {f : V → V} {Q : VK} (hv : σ[i]? = some (some (.ref a))) (hs : SqV K H a xs) (hz : xs.length ≤ sizeLine)
    (hw : ∀ x, wipe ((wipe σ vs).set j (some x)) vs = wipe σ vs)
    (ht : ∀ x ∈ xs, ∀ (H' : Hp) (R : VK), Same H H' → (∀ H'', Same H' H'' → R (f x) H'') → te ((wipe σ vs).set j (some x)) H' R)
    (hq : ∀ (D : Addr) (H' : Hp), Same H H' → H D = none → H' D = some (.lst (xs.map f)) → Q (.ref D) H') : tLc (iSeq K (tVar i)) (gName j) tYes te vs σ H Q := by
  have step : ∀ (D : Addr), H D = none → ∀ i x H', xs[i]? = some x → (Same H H' ∧ H' D = some (.lst ((xs.take i).map f))) → gName j x (wipe σ vs) H' fun σ2 H2 => wipe σ2 vs = wipe σ vs ∧ tYes σ2 H2 fun b H3 =>
      if b = true then te σ2 H3 fun y H4 => ∃ acc, H4 D = some (.lst acc) ∧ acc.length < sizeLine ∧ (Same H (upd H4 D (.lst (acc ++ [y]))) ∧ (upd H4 D (.lst (acc ++ [y]))) D = some (.lst ((xs.take (i + 1)).map f))) else (Same H H3 ∧ H3 D = some (.lst ((xs.take (i + 1)).map f))) := by
    rintro D nD i x H' hi ⟨s1, hD⟩
    refine ⟨hw x, ?_⟩
    unfold tYes
    dsimp only
    rw [if_pos rfl]
    refine ht x (List.mem_of_getElem? hi) H' _ s1 fun H4 s4 => ⟨_, s4 _ _ hD, ?_, same_but (s1.trans s4) nD, ?_⟩
    · have : i < xs.length := by
        rcases Nat.lt_or_ge i xs.length with h | h
        · exact h
        · rw [List.getElem?_eq_none h] at hi
          cases hi
      rw [List.length_map, List.length_take]
      omega
    · rw [upd_same, List.take_add_one, hi, List.map_append]
      rfl
  rcases hs with hs | hs
  · refine .inl ⟨_, hv, a, rfl, ⟨xs, hs⟩, fun D nD => lc_list (xs := xs) (fun i H' => Same H H' ∧ H' D = some (.lst ((xs.take i).map f))) ⟨same_upd nD, upd_same⟩ (fun _ _ _ h => h.1.seq hs) (step D nD) fun H' h => hq D H' h.1 nD ?_⟩
    have h2 := h.2
    rw [List.take_length] at h2
    exact h2
  · refine .inr ⟨_, hv, a, rfl, ⟨xs, hs⟩, fun D nD => lc_tup (xs := xs) (fun i H' => Same H H' ∧ H' D = some (.lst ((xs.take i).map f))) ⟨same_upd nD, upd_same⟩ (fun _ _ _ h => seqT_keep hs h.1) (step D nD) fun H' h => hq D H' h.1 nD ?_⟩
    have h2 := h.2
    rw [List.take_length] at h2
    exact h2
/-- [f(x, y) for x, y in zip(xs, ys)], the walk W given, where f only adds to the heap -/
theorem lcPair {J : It} {n : Nat} {G : Hp → Prop} {K : PySem.W.Frag} {te : TE} {i j : Nat} {vs : List Nat} {σ : L2.St} {H1 : Hp} {xs ys : List V} {f : V → V → V} {R : Hp → Prop} {D : Addr} (w : Walk J n G (YPair (fun i => xs[i]?) (fun i => ys[i]?))) (hn : n = min xs.length ys.length) (hz : n ≤ sizeLine)
    (hG : ∀ H', Same H1 H' → G H') (nD : H1 D = none)
    (hw : ∀ x y, wipe (((wipe σ vs).set i (some x)).set j (some y)) vs = wipe σ vs)
    (ht : ∀ (k : Nat) (x y : V), xs[k]? = some x → ys[k]? = some y → ∀ (H' : Hp) (R : VK), Same H1 H' → (∀ H'', Same H' H'' → R (f x y) H'') → te (((wipe σ vs).set i (some x)).set j (some y)) H' R)
    (hq : ∀ (H' : Hp), Same H1 H' → H' D = some (.lst (List.zipWith f xs ys)) → R H') :
    ∃ W : Nat → Nat → Hp → Prop, (∃ m, W 0 m (upd H1 D (.lst []))) ∧ ∀ k m H, W k m H →
      (J.stop k H ∧ R H) ∨ (J.go k H ∧ ∃ Nx : Hp → Prop, (∀ H', Nx H' → ∃ m', m' < m ∧ W (k + 1) m' H') ∧ ∀ x H', J.yld k H x H' → gTup K 2 (gCons (gName i) (gCons (gName j) gNil)) x (wipe σ vs) H' fun σ2 H2 => wipe σ2 vs = wipe σ vs ∧ tYes σ2 H2 fun b H3 =>
        if b = true then te σ2 H3 fun y H4 => ∃ acc, H4 D = some (.lst acc) ∧ acc.length < sizeLine ∧ Nx (upd H4 D (.lst (acc ++ [y]))) else Nx H3) := by
  have hln : (List.zipWith f xs ys).length = n := by rw [List.length_zipWith, hn]
  refine lc_it w (fun k H' => Same H1 H' ∧ H' D = some (.lst ((List.zipWith f xs ys).take k))) ⟨same_upd nD, upd_same⟩ (fun _ _ _ h => hG _ h.1) ?_ ?_
  · rintro k v H' H2 hk ⟨s1, hD⟩ ⟨T, x, y, rfl, nT, rfl, hx, hy⟩
    refine ⟨T, [x, y], rfl, SqT.of upd_same, rfl, x, [y], rfl, y, [], rfl, rfl, hw x y, ?_⟩
    unfold tYes
    dsimp only
    rw [if_pos rfl]
    have sT := same_upd (o := HO.tup [x, y]) nT
    refine ht k x y hx hy _ _ (s1.trans sT) fun H4 s4 => ⟨_, s4 _ _ (sT _ _ hD), ?_, same_but ((s1.trans sT).trans s4) nD, ?_⟩
    · rw [List.length_take, hln]
      omega
    · have e : (List.zipWith f xs ys)[k]? = some (f x y) := by
        rw [List.getElem?_zipWith, show xs[k]? = some x from hx, show ys[k]? = some y from hy]
      rw [upd_same, List.take_add_one, e]
      rfl
  · rintro H' ⟨s1, hD⟩
    rw [← hln, List.take_length] at hD
    exact hq H' s1 hD
theorem cut1 (xs : List V) : cutV xs (some 1) none = xs.drop 1 := by
  show (xs.drop (HT.sIx xs.length 0 (some ((1 : Nat) : Int)))).take (HT.sIx xs.length xs.length none - HT.sIx xs.length 0 (some ((1 : Nat) : Int))) = xs.drop 1
  rw [HT.sIx_nat, HT.sIx_none]
  cases xs with
  | nil => rfl
  | cons x xs =>
    rw [show min 1 (x :: xs).length = 1 by simp]
    simp
def ltV : V → V → Bool
  | .int i, .int j => decide (i < j)
  | _, _ => false
/-- a sequence of values in strictly ascending order -/
def ascV (xs : List V) : Bool := xs.all valueV && (List.zipWith ltV xs (xs.drop 1)).all id
/-- is_ascending(thing) -/
def spAsc (K : PySem.W.Frag) : Sp := fun vs H Q _ => ∃ (x : V) (t : String), vs = [x] ∧ TyOf K H x (.type t) ∧
  ((seqT t = false ∧ ∀ H', Same H H' → Q (.bl false) H') ∨
   (seqT t = true ∧ ∃ (a : Addr) (xs : List V), x = .ref a ∧ SqV K H a xs ∧ xs.length ≤ sizeLine ∧ (∀ y ∈ xs, ∃ u, TyOf K H y (.type u)) ∧ ∀ H', Same H H' → Q (.bl (ascV xs)) H'))
theorem valueV_int {x : V} (h : valueV x = true) : ∃ i, x = .int i ∧ 0 ≤ i ∧ i ≤ 1000000000 := by
  cases x with
  | int i =>
    have z : (decide ((0 : Int) ≤ i) && decide (i ≤ 1000000000)) = true := h
    rw [Bool.and_eq_true] at z
    exact ⟨i, rfl, of_decide_eq_true z.1, of_decide_eq_true z.2⟩
  | _ => cases h
end My
set_option Elab.async false
set_option linter.all false
set_option maxRecDepth 100000
set_option maxHeartbeats 4000000
namespace EnT
open PySem
open PySem.Sem (wp)
/-! ### enumerate(t), t a tuple -/
theorem meets_tup (l : Addr) (items : Array Value) :
    Meets (Builtin.«enumerate.__new__» ⟨[.type "enumerate", .ref l], []⟩) (fun _ R s => s.heap.IsTuple l items ∧
      R (.ok (.ret (.ref (s.heap.push { cls := .type "tuple_iterator", data := .fields #[.ref l, .int 0 0] }).objs.size)))
        { s with heap := (s.heap.push { cls := .type "tuple_iterator", data := .fields #[.ref l, .int 0 0] }).push { cls := .type "enumerate", data := .fields #[.none, .bool false, .ref s.heap.objs.size, rawInt 0, .none, .none] } }) :=
  .of_wp fun prog w A R s h => by
    obtain ⟨heap0, g, d, tk, os⟩ := s; obtain ⟨tupAt, h⟩ := h
    have subE := sub_enumerate
    wp_walk using wpAny_pyIter_tuple tupAt
    refine wpAny_stack_any fun stack => wpAny_pure ?_
    split
    · rename_i c _ _ _ _ _
      cases (c == Value.type "enumerate")
      · wp_walk using wpAny_pyIter_tuple tupAt
        exact ⟨_, rfl, h⟩
      · wp_walk using wpAny_pyIter_tuple tupAt
        exact ⟨_, rfl, h⟩
    · wp_walk using wpAny_pyIter_tuple tupAt
      exact ⟨_, rfl, h⟩
section
variable {prog : Program} {w : World} {A : Around} {E : Value → Shared → Prop} {s : Shared}
theorem call_tup {l : Addr} {items : Array Value} {Q : Value → Shared → Prop} (tupAt : s.heap.IsTuple l items)
    (h : ∀ hLaid, IsEnum hLaid (s.heap.objs.size + 1) s.heap.objs.size 0 .none → hLaid.IsTupleIter s.heap.objs.size l 0 → hLaid.objs.size = s.heap.objs.size + 2 →
      (∀ b o, s.heap.get? b = some o → hLaid.get? b = some o) → Q (.ref (s.heap.objs.size + 1)) { s with heap := hLaid }) :
    wpAny (model prog w) A (call (.type "enumerate") [.ref l]) Q E s := by
  refine callType_new F.called_enumerate (by decide) (F.typeCall_enumerate_1 _) (F.newCall_enumerate_1 _) (fun ob => F.args_object_init_2 ob _) F.entry_enumerate_new
    (meets_tup l items) ⟨tupAt, ?_⟩
  have sizePush := Heap.size_push (h := s.heap) (o := { cls := .type "tuple_iterator", data := .fields #[.ref l, .int 0 0] })
  show _ ∧ _
  rw [sizePush]
  have onTop := Heap.get?_push_size (s.heap.push { cls := .type "tuple_iterator", data := .fields #[.ref l, .int 0 0] })
    (o := { cls := .type "enumerate", data := .fields #[.none, .bool false, .ref s.heap.objs.size, rawInt 0, .none, .none] }) rfl
  rw [sizePush] at onTop
  exact ⟨⟨_, onTop, rfl⟩, h _ onTop ⟨_, Heap.get?_push_of_some _ (Heap.get?_push_size _ rfl), rfl, rfl⟩ (by rw [Heap.size_push, sizePush]) fun b o x => Heap.get?_push_of_some _ (Heap.get?_push_of_some _ x)⟩
end
end EnT
set_option Elab.async false
set_option linter.all false
set_option maxRecDepth 100000
set_option maxHeartbeats 4000000
namespace My
open PySem PySem.Spec PyProof.Rows L2
theorem next_enumT_end {prog : Program} {w : World} {A : Around} {E : Value → Shared → Prop} {s : Shared} {e it l : Addr} {i : Nat} {items : Array Value} {prev : Value} {Q : Option Value → Shared → Prop} (calmH : A.handled = none)
    (enAt : IsEnum s.heap e it i prev) (iter : s.heap.IsTupleIter it l i) (tupL : s.heap.IsTuple l items) (itemX : items[i]? = none)
    (goOn : ∀ h', Heap.ExtBut it s.heap h' → Q none { s with heap := h' }) : wpAny (model prog w) A (pyNext (.ref e)) Q E s := by
  have pairOld : s.TypeIs (.ref e) "enumerate" := ⟨_, enAt, rfl⟩
  unfold pyNext
  refine wpAny_bind (wpAny_attempt (wpAny_callSpecial?_slot (name := Str.ofString "__next__") pairOld F.slot_enumerate_next
    (wpAny_call_entry F.slot_enumerate_next pairOld F.entry_enumerate_next ?_ (F.args_enumerate_next_1 _))))
  show wpAny _ _ (field (.ref e) 2 >>= _) _ _ _
  refine wpAny_bind (wpAny_field enAt rfl (x := .ref it) rfl ?_)
  refine wpAny_bind (RZ.nextOf_tuple_end (A := A.in1) calmH iter tupL itemX fun h' x enNew hx' => ?_)
  obtain ⟨o, owned, calmX⟩ := hx'
  refine wpAny_bind (wpAny_isInstance (T := "StopIteration") (b := true) ⟨o, owned, calmX⟩ isSubtype_stop ?_)
  exact wpAny_pure (goOn _ enNew)
/-- the tuple at a, each item in a okNew pair with vals number -/
def IteT (K : PySem.W.Frag) (a : Addr) : It :=
  ⟨fun i H => ∃ (xs : List V) (x : V), SqT K H a xs ∧ xs[i]? = some x, fun i H v H' => ∃ T x, v = .ref T ∧ H T = none ∧ H' = upd H T (.tup [.int (i : Nat), x]) ∧ ∀ xs, SqT K H a xs → xs[i]? = some x, fun i H => ∃ xs : List V, SqT K H a xs ∧ xs.length ≤ i⟩
theorem turn_enumT {P : Program} {w : World} {K : PySem.W.Frag} {elts : List Expr} {kk : Nat} {tpos : Pos} (a e it : Addr) (apE : e ≠ it) (apA : a ≠ it) (apEA : e ≠ a) :
    Turn P w K (.Tuple elts kk tpos) (IteT K a) [e, it] e (fun i h => (∃ prev, IsEnum h e it ((i : Nat) : Int) prev) ∧ h.IsTupleIter it a i) where
  mem := by simp
  obj := fun i h stand b memB => by
    obtain ⟨⟨prev, enAt⟩, ⟨o, owned, calmX, hd⟩⟩ := stand
    have orB : b = e ∨ b = it := by simpa using memB
    rcases orB with eqZ | eqZ
    · rw [eqZ]; exact ⟨_, enAt, fun v q => nomatch q⟩
    · rw [eqZ]; exact ⟨o, owned, fun v q => by rw [hd] at q; cases q⟩
  keep := fun i h h' stand keepK => let ⟨⟨prev, enAt⟩, hi⟩ := stand; ⟨⟨prev, keepK e (by simp) _ enAt⟩, hi.at fun o q => keepK it (by simp) o q⟩
  item := by
    intro X eqP eqW eqK calmX i pins s σ H E I freeF stand glb
    subst eqP eqW eqK
    obtain ⟨⟨prev, enAt⟩, iter⟩ := stand
    obtain ⟨xs, x, tupQ, itemX⟩ := glb
    obtain ⟨vals, rels, p, hz⟩ := I.tuple tupQ
    have asTup : s.heap.IsTuple a vals.toArray := p
    obtain ⟨u, atU, relU⟩ := rels.get itemX
    have sizeE : e < s.heap.objs.size := Heap.lt_size enAt
    have sizeI : it < s.heap.objs.size := by obtain ⟨_, q, _⟩ := iter; exact Heap.lt_size q
    have below : i < vals.toArray.size := by
      rcases Nat.lt_or_ge i vals.length with eqZ | eqZ
      · simpa using eqZ
      · rw [List.getElem?_eq_none eqZ] at atU; cases atU
    have calmH : X.A.in1.handled = none := I.ok.hd calmX
    refine wpAny_pyNext_enum_itemD (Draws.tuple calmH it a apA vals.toArray) enAt ⟨iter, asTup⟩ below apE (by simp [apE, apEA]) fun y h' tok isY owned afterI pairOld grown keptO => ?_
    obtain ⟨iterNew, _⟩ := afterI
    have sameY : y = u := by
      have eqZ : vals[i]? = some y := by simpa using isY
      rw [atU] at eqZ
      exact (Option.some.inj eqZ).symm
    subst sameY
    refine ⟨_, rfl, wpAny_letOwnedTupleGo_enum (s := { s with heap := h', toks := tok + 1 }) owned fun hNew enNew butE => ?_⟩
    have pairAt : hNew.get? s.heap.objs.size = some { cls := .type "tuple", data := .seq #[.int i tok, y] } := (butE.2 _ (Nat.ne_of_gt sizeE)).trans pairOld
    have okNew : ObjOk X.prog X.w (upd H s.heap.objs.size (.tup [.int (i : Nat), x])) hNew s.heap.objs.size (.tup [.int (i : Nat), x]) :=
      ⟨by show 2 ≤ sizeLine; decide, [.int i tok, y], .cons ⟨_, rfl⟩ (.cons relU .nil), ⟨_, pairAt, rfl, _, rfl⟩⟩
    have I1 : Inv X pins σ (upd H s.heap.objs.size (.tup [.int (i : Nat), x])) { s with heap := hNew, toks := tok + 1 } :=
      I.turnedNew (ch := [e, it]) (fun b ob memB q => (butE.2 b (fun eqZ => memB (by simp [eqZ]))).trans (keptO b ob (fun eqZ => memB (by simp [eqZ])) (fun eqZ => memB (by simp [eqZ])) q)) freeF (Nat.le_refl _) okNew
    refine ⟨.ref s.heap.objs.size, _, I1, rfl, ⟨_, x, rfl, I.hok.fresh (Nat.le_refl _), rfl, fun ys isY => ?_⟩, ⟨⟨y, ?_⟩, iterNew.at fun o q => (butE.2 it (Ne.symm apE)).trans q⟩, fun b memB => ?_⟩
    · rw [I.tuple_inj isY tupQ]; exact itemX
    · have e1 : ((i + 1 : Nat) : Int) = (i : Int) + 1 := by omega
      rw [e1]; exact enNew
    · have lowB : b < s.heap.objs.size := by
        have orB : b = e ∨ b = it := by simpa using memB
        rcases orB with eqZ | eqZ
        · rw [eqZ]; exact sizeE
        · rw [eqZ]; exact sizeI
      rw [upd_ne (Nat.ne_of_lt lowB)]
      exact (freeF b memB).1
  done := by
    intro X eqP eqW eqK calmX i pins s σ H E I freeF stand glb
    subst eqP eqW eqK
    obtain ⟨⟨prev, enAt⟩, iter⟩ := stand
    obtain ⟨xs, tupQ, itemX⟩ := glb
    obtain ⟨vals, rels, p, hz⟩ := I.tuple tupQ
    obtain ⟨g0, g1, g2, g3, g4, g5⟩ := freeF it (by simp)
    have tupL := rels.length
    exact next_enumT_end (I.ok.hd calmX) enAt iter (show s.heap.IsTuple a vals.toArray from p) (by simp; omega) fun h' extB => ⟨rfl, I.turned (t' := s.toks) (fun b o memB q => extB b o memB q) g0 g1 g3 g4 g5⟩
  self := fun A i s Q E stand h => let ⟨⟨_, enAt⟩, _⟩ := stand; wpAny_pyIter_enum enAt h
def iEnumT (K : PySem.W.Frag) (ta : TA) : TI := fun σ H R => ta σ H fun vs H1 => ∃ a xs, vs = [.ref a] ∧ SqT K H1 a xs ∧ R (IteT K a) H1
theorem pi_enumT {X : Cx} {e : Expr} {ta : TA} {p pos tpos : Pos} {elts : List Expr} {kk : Nat} (glb : Gl X "enumerate") (noMg : X.mg "enumerate" = none) (args : PA X [e] ta) (stars : starEach [e] X.env = [(false, eval e X.env)] := by rfl) :
    PI X (.Tuple elts kk tpos) (.Call (.Name "enumerate" p) [e] [] pos) (iEnumT X.K ta) := by
  refine ⟨fun pins s σ H R I h => ?_⟩
  refine Call_ (ld_blt I glb noMg boot_enumerate (PyProof.Rows.callWith_type1 (thn (args.run pos pins s σ H _ I h) fun us s1 ⟨vs, H1, I1, relQ, gotQ⟩ => ?_) stars rfl))
  obtain ⟨a, xs, ex, tupQ, q⟩ := gotQ
  subst ex
  cases relQ with
  | cons r restR =>
    cases restR
    cases r
    obtain ⟨vals, rels, posT, hz⟩ := I1.tuple tupQ
    have asTup : s1.heap.IsTuple a vals.toArray := posT
    have sizeA : a < s1.heap.objs.size := by obtain ⟨o, owned, _⟩ := asTup; exact Heap.lt_size owned
    refine EnT.call_tup asTup fun h' enAt iter grown keptO => wpAny_pyIter_enum enAt ?_
    have I2 : Inv X pins σ H1 { s1 with heap := h' } := I1.kept (t' := s1.toks) keptO
    refine ⟨s1.heap.objs.size + 1, [s1.heap.objs.size + 1, s1.heap.objs.size], _, _, H1, rfl, I2, turn_enumT a (s1.heap.objs.size + 1) s1.heap.objs.size (Nat.succ_ne_self _) (Nat.ne_of_lt sizeA) (Ne.symm (Nat.ne_of_lt (Nat.lt_succ_of_lt sizeA))), ⟨⟨.none, enAt⟩, iter⟩, fun b memB => ?_, q⟩
    have orB : b = s1.heap.objs.size + 1 ∨ b = s1.heap.objs.size := by simpa using memB
    have leB : s1.heap.objs.size ≤ b := by
      rcases orB with eqZ | eqZ
      · rw [eqZ]; exact Nat.le_add_right _ _
      · rw [eqZ]; exact Nat.le_refl _
    exact I1.fpOk leB (I1.hok.fresh leB)
theorem walk_enumT {K : PySem.W.Frag} {a : Addr} {xs : List V} : Walk (IteT K a) xs.length (fun H => SqT K H a xs) (YPair (fun i => some (.int (i : Nat))) (fun i => xs[i]?)) := by
  refine ⟨fun j _ lt sq => ⟨xs, xs[j], sq, by simp [lt]⟩, fun _ sq => ⟨xs, sq, Nat.le_refl _⟩, fun j H v H' _ sq got => ?_⟩
  obtain ⟨pr, it, ev, fr, eh, same⟩ := got
  exact ⟨pr, .int (j : Nat), it, ev, fr, eh, rfl, same xs sq⟩
end My
set_option Elab.async false
set_option linter.all false
set_option maxRecDepth 100000
set_option maxHeartbeats 4000000
namespace My
open PySem PySem.Spec PyProof.Rows L2
/-! ### a law whose own frame knows that no repr is under way -/
/-- the promise of the law's def, called where no guard stands -/
structure FnG (P : Program) (w : World) (K : PySem.W.Frag) (mg : Str → Option Value) (base : Heap) (k : Nat) (f : Addr) (fd : FuncData) (ps : List Str) (sp : Sp) : Prop where
  len : ∀ vs H Q E, sp vs H Q E → vs.length = ps.length
  run : ∀ (A : Around) (outer : List Env) (s : Shared) (H : Hp) (args : Args) (us : List Value) (vs : List V) (Q : VK), A.guards = some [] → Room k A → Env0 P w K mg base A outer s H → BindsTo s fd args (ps.zip us) → Vals vs us → sp vs H Q E0 →
    codeAny (model P w) A (.call (.ref f) args) (CR CX0 outer P w H s Q E0) s
theorem fnG_of {P : Program} {w : World} {K : PySem.W.Frag} {mg : Str → Option Value} {base : Heap} {k : Nat} {f : Addr} {fd : FuncData} {x qual : Str} {st : Stmt} {N ps : List Str} {sp : Sp} (F : L2.Fun K x qual st f fd) (S : FnScope N ps (defScope st))
    (len : ∀ vs H Q E, sp vs H Q E → vs.length = ps.length)
    (hbody : ∀ (cdv : Value) (A : Around) (outer : List Env) (s : Shared) (H : Hp) (vs : List V) (Q : VK), A.guards = some [] → Room k (A.deeper (envOfC qual (defScope st) s.heap.objs.size f cdv)) → sp vs H Q E0 →
      ∃ t, PSs (cxOf CX0 P w K mg base N qual (defScope st) f cdv A outer s H E0).nox (defBody st) t ∧ t { nx := fun _ H' => Q .non H', rt := Q } (start N vs) H) :
    FnG P w K mg base (k + 1) f fd ps sp := by
  obtain ⟨oc, od, kV, doc, pm, an, cdv, ct, osl, rfl, lk, hcd⟩ := F.ex
  constructor
  · exact len
  intro A outer s0 H0 args ws xs Q hg room env binds rel prom
  have sameLen := len xs H0 Q E0 prom
  have old : ∀ b o, base.get? b = some o → s0.heap.get? b = some o := fun b o e => (env.bs b o e).1
  have inK : K.In s0.heap := env.mod.kin.keeps old
  have nolim : s0.heap.NoLimit := env.mod.nolimit.keeps old
  have kinds : ∀ y ∈ ps.zip ws, (defScope st).names.lookup y.1 = some .local ∨ ((defScope st).names.lookup y.1 = some .cell ∧ ((cellsFrom (s0.heap.objs.size + 1) (defScope st).names []).lookup y.1).isSome = true) := by
    rintro ⟨n, v⟩ hy
    have hn := (List.of_mem_zip hy).1
    exact (S.par n hn).elim .inl fun q => .inr ⟨q, PySem.W.cellsFrom_some _ _ _ (.inl q)⟩
  apply codeAny_call_function room.depth (inK _ _ lk) rfl S.co S.gen rfl (PySem.W.codeRec_of inK hcd)
  apply binds
  apply wpAny_newFunctionEnv_cells S.kind kinds
  intro e1 he1 s1 x
  subst he1
  refine ⟨nolim.keeps x.toInCall.keep, codeAny_func ?_⟩
  obtain ⟨t, ht0, hq⟩ := hbody cdv A outer s0 H0 xs Q hg (room.deeper _) prom
  have ht := ht0.nox
  have I := inv_start (CX := CX0) (E := E0) S room.hd env sameLen rel x
  refine wpAny_mono (ht.run [] s1 (start N xs) H0 _ I hq) ?_ fun e s' bad => bad
  rintro fl s' ended
  match fl, ended with
  | .ret u, ⟨v, σ', H', J, rv, q⟩ => exact ⟨v, H', J.os, J.bare, J.base, J.hok, rv, q⟩
  | .next, ⟨σ', H', J, q⟩ => exact ⟨V.non, H', J.os, J.bare, J.base, J.hok, rfl, q⟩
  | .brk, ⟨_, _, _, q⟩ => exact q.elim
  | .cont, ⟨_, _, _, q⟩ => exact q.elim
/-- the head's goal, from such a promise -/
theorem law_callG {P : Program} {w : World} {K : PySem.W.Frag} {mg mb : Str → Option Value} {k : Nat} {fa a : Addr} {fd : FuncData} {x : Str} {sp : Sp} {s : Shared} {us : List Value} {ns : List Int}
    (inK : K.In s.heap) (hns : s.heap.Ns mainGlobals mg) (hb : s.heap.Ns builtinsNs mb) (hbb : ∀ y : Str, y ≠ "__name__" → mb y = bootBuiltins y) (nolim : s.heap.NoLimit) (nogen : s.gens = #[])
    (ha : s.heap.get? a = some { cls := .type "list", data := .seq us.toArray }) (hi : IntsAre us ns) (few : ns.length ≤ sizeLine) (room : Room k callerA)
    (F : ∀ base : Heap, K.In base → base.Ns mainGlobals mg → FnG P w K mg base k fa fd [x] sp) (hbind : ∀ (s : Shared) (u : Value), BindsTo s fd ⟨[u], []⟩ [(x, u)])
    (hsp : ∀ H : Hp, Only H → SqL K H a (ns.map V.int) → sp [.ref a] H (fun v _ => v = .bl true) E0) :
    codeAny (model P w) callerA (.call (.ref fa) ⟨[.ref a], []⟩) (fun r s' => r = .ok (.ret (.bool true)) ∧ OldK s.heap s'.heap ∧ s'.os = s.os ∧ AllBare s'.gens) s := by
  have rel := vals_ints hi
  have lens := hi.length
  have main : ∀ H : Hp, Only H → SqL K H a (ns.map V.int) → HOk P w H s.heap → (∀ b, H b ≠ none → b = a) → (H a ≠ none → K.lookup a = none) →
      codeAny (model P w) callerA (.call (.ref fa) ⟨[.ref a], []⟩) (fun r s' => r = .ok (.ret (.bool true)) ∧ OldK s.heap s'.heap ∧ s'.os = s.os ∧ AllBare s'.gens) s := by
    intro H only scr hok alone apart
    have dictFree : ∀ {b : Addr} {o : Obj} {es : Array DictEntry} {ep : Nat}, s.heap.get? b = some o → o.data = .dict es ep → H b = none := by
      intro b o es ep e d
      apply Classical.byContradiction
      intro n
      have eb := alone b n
      rw [eb, ha] at e
      cases e
      cases d
    have nsT : ∀ {b : Addr} {m : Str → Option Value}, s.heap.Ns b m → (hidT s.heap H).Ns b m := by
      rintro b m ⟨o, es, ep, e, d, r⟩
      exact ⟨o, es, ep, hidT_get e (dictFree e d), d, r⟩
    have inT : K.In (hidT s.heap H) := by
      intro b o e
      apply hidT_get (inK b o e)
      apply Classical.byContradiction
      intro n
      have eb := alone b n
      subst eb
      rw [apart n] at e
      cases e
    obtain ⟨mc, lim1, lim2⟩ := nolim
    have modT : Mod K mg (hidT s.heap H) := ⟨inT, nsT hns, ⟨mb, nsT hb, hbb⟩, ⟨mc, nsT lim1, lim2⟩⟩
    have env : Env0 P w K mg (hidT s.heap H) callerA [] s H := ⟨rfl, modT, fun b o e => of_hidT e, Nat.le_of_eq (hidT_size _ _), trivial, fun b hb => (by cases hb), hok, .of_eq nogen⟩
    refine codeAny_mono ((F _ inT (nsT hns)).run callerA [] s H ⟨[.ref a], []⟩ [.ref a] [.ref a] _ rfl room env (hbind s (.ref a)) (.cons rfl .nil) (hsp H only scr)) ?_
    rintro r s' h
    match r, h with
    | .error _, h => exact h.elim
    | .ok .next, h => exact False.elim h
    | .ok .brk, h => exact False.elim h
    | .ok .cont, h => exact False.elim h
    | .ok (.ret u), ⟨v, H', os, bare, un, hok', rv, ev⟩ =>
      subst ev
      obtain rfl : u = Value.bool true := rv
      refine ⟨rfl, OldK.of_keep fun b o e => ?_, os, bare⟩
      rcases only b with z | ⟨ob, ys, z⟩
      · exact un.keep b o e z (by intro z; cases z) (by simp)
      · obtain ⟨e1, _⟩ := hok b _ z
        obtain ⟨e2, _⟩ := hok' b _ (un.frzs b ob _ z)
        rw [e] at e1
        cases e1
        exact e2
  cases hk : K.lookup a with
  | some o =>
    have e := inK a o hk
    rw [ha] at e
    cases e
    refine main (fun _ => none) (fun _ => .inl rfl) (.inr ⟨_, us.toArray, _, hk, rfl, rfl, rfl, by rw [List.size_toArray, lens]; exact few, by simpa using rel⟩) (fun b u z => ?_) (fun b z => absurd rfl z) fun z => absurd rfl z
    cases (show (none : Option HO) = some u from z)
  | none =>
    have top : (fun b => if b = a then some (HO.frz { cls := .type "list", data := .seq us.toArray } (.lst (ns.map V.int))) else none : Hp) a = some (HO.frz { cls := .type "list", data := .seq us.toArray } (.lst (ns.map V.int))) := if_pos rfl
    refine main (fun b => if b = a then some (.frz { cls := .type "list", data := .seq us.toArray } (.lst (ns.map V.int))) else none) (fun b => ?_) (.inl (.inr ⟨_, top⟩)) (fun b u z => ?_) (fun b z => ?_) fun _ => hk
    · by_cases eb : b = a
      · exact .inr ⟨_, _, if_pos eb⟩
      · exact .inl (if_neg eb)
    · by_cases eb : b = a
      · subst eb
        rw [top] at z
        cases z
        exact ⟨ha, by rw [List.length_map]; exact few, us, _, rel, ha⟩
      · cases (if_neg eb).symm.trans z
    · apply Classical.byContradiction
      intro eb
      exact z (if_neg eb)
theorem walk_ofG {l : PySem.W.OpenLaw} {n k : Nat} {q : Program} {loose : List Str} {XP : (Str → Option Value) → Heap → Prop} {YP : World → Heap → Prop} {d : DefRec} {x : Str}
    (hn : l.most = some n) (hn2 : n ≤ sizeLine) (hdf : d.params.defaults = []) (room : Room k callerA)
    (F : ∀ (w : World) (mg : Str → Option Value) (fa : Addr) (h : Heap), YP w h → h.Ns mainGlobals mg → mg d.name = some (.ref fa) →
      ∃ (K : PySem.W.Frag) (fd : FuncData) (sp : Sp), K.In h ∧ (∀ (s : Shared) (u : Value), BindsTo s fd ⟨[u], []⟩ [(x, u)]) ∧
        (∀ (H : Hp) (a : Addr) (ns : List Int), ns.length ≤ n → Only H → SqL K H a (ns.map V.int) → sp [.ref a] H (fun v _ => v = .bl true) E0) ∧
        ∀ base : Heap, K.In base → base.Ns mainGlobals mg → FnG l.prog w K mg base k fa fd [x] sp) :
    PySem.W.WalkO q loose XP YP l.row.toRowW d [] (fun f vs => PySem.call f vs) := by
  refine Att.attach_call hn hdf fun w s₀ s₁ mg mb fa o pm cd doc a us ns G Y ho hd hcd hmg hobj hints few nogen => ?_
  obtain ⟨K, fd, sp, inK, binds, prom, hF⟩ := F w mg fa _ Y G.T.g hmg
  exact law_callG inK G.T.g G.T.b G.T.builtins G.T.nolimit nogen hobj hints (Nat.le_trans few hn2) room hF binds (fun H only scr => prom H a ns few only scr)
/-- repr of a list or a tuple of data, where no repr is under way -/
def rReprD (K : PySem.W.Frag) : List V → Hp → VK → Prop := fun xs H Q => ∃ (a : Addr) (d : PyData), xs = [.ref a] ∧ Dp K H (.ref a) d ∧ d.showable = true ∧ d.hasDict = false ∧ d.depth ≤ 100 ∧ d.shown.length ≤ sizeLine ∧ Q (.str d.shown) H
theorem call_reprD {X : Cx} (hg : X.A.guards = some []) (hu : X.A.units + 150 < cLine) : CallR X (.builtin "repr") (rReprD X.K) := by
  intro pins s σ H xs us Q I r h
  obtain ⟨a, d, rfl, hd, hs, hk, hz, hl, q⟩ := h
  cases r with
  | cons r1 r2 =>
    cases r2
    rename_i u
    obtain ⟨as, rd⟩ := Dp.reads I d _ _ hd r1
    obtain rfl : u = Value.ref a := r1
    refine repr_of_reads' rd hs (fun z => by rw [hk] at z; cases z) hg (by omega) (fun b o e => e) (fun h' t tk k => ?_) hl
    exact ⟨.str d.shown, H, I.kept k, ⟨t, rfl⟩, q⟩
end My
set_option Elab.async false
set_option linter.all false
set_option maxRecDepth 100000
set_option maxHeartbeats 4000000
namespace My
open PySem PySem.Spec PyProof.Rows L2
/-! ### list(reversed(a list)) -/
section
variable {prog : Program} {w : World} {A : Around} {E : Value → Shared → Prop} {s : Shared}
theorem call_list_back {it l : Addr} {items : Array Value} {Q : Value → Shared → Prop} (calm : A.handled = none) (hit : s.heap.IsRevIter it l ((items.size : Int) - 1)) (hl : s.heap.IsList l items) (hne : l ≠ it) (few : items.size ≤ sizeLine)
    (hQ : ∀ (h' : Heap) (tk : Nat) (acc : Array Value) (c : Nat), (∀ b o, b ≠ it → s.heap.get? b = some o → h'.get? b = some o) → h'.get? s.heap.objs.size = some { cls := .type "list", dict := none, data := .seq acc c, slots := #[] } → ItemsOf (fun i v => items[items.size - 1 - i]? = some v) acc items.size →
      Q (.ref s.heap.objs.size) { s with heap := h', toks := tk }) : wpAny (model prog w) A (call (.type "list") [.ref it]) Q E s := by
  obtain ⟨oi, ei, _⟩ := id hit
  obtain ⟨ol, el, _⟩ := id hl
  have ni : s.heap.objs.size ≠ it := (Nat.ne_of_lt (Heap.lt_size ei)).symm
  have nl : s.heap.objs.size ≠ l := (Nat.ne_of_lt (Heap.lt_size el)).symm
  have out : s.heap.objs.size ∉ [it, l] := by
    intro z
    rcases List.mem_cons.mp z with z | z
    · exact ni z
    · exact nl (List.mem_singleton.mp z)
  apply callType_codes (Q₁ := fun obj s₁ => obj = .ref s.heap.objs.size ∧ s₁ = { s with heap := s.heap.push { cls := .type "list", data := .seq #[] } }) F.called_list (F.typeCall_list_1 _) F.entry_list_init (code_list_new _ ⟨rfl, rfl⟩)
  rintro obj s₁ ⟨rfl, rfl⟩
  have fresh : (s.heap.push { cls := .type "list", data := .seq #[] }).get? s.heap.objs.size = some { cls := .type "list", data := .seq #[] } := Heap.get?_push_size _ rfl
  refine ⟨⟨_, fresh, rfl⟩, F.args_list_init_2 _ _, ?_⟩
  have W := (Walks.listRev (prog := prog) (w := w) (A := A.in1.in1) calm it l hne items).toS
  show wpAny _ _ (do let old ← Builtin.List.listItems (.ref s.heap.objs.size); Builtin.List.listUpdate (.ref s.heap.objs.size) (fun _ => #[]); letGo old.toList.reverse; Builtin.List.listExtendWith (.ref s.heap.objs.size) (.ref it) .none) _ _ _
  apply wpAny_bind
  unfold Builtin.List.listItems
  apply wpAny_bind
  refine wpAny_seqItems fresh rfl (wpAny_pure ?_)
  show wpAny _ _ (updateSeq s.heap.objs.size (fun _ => #[]) >>= fun _ => letGo (#[] : Array Value).toList.reverse >>= fun _ => Builtin.List.listExtendWith (.ref s.heap.objs.size) (.ref it) .none) _ _ _
  apply wpAny_bind
  refine wpAny_updateSeq fresh rfl ?_
  have fresh2 := Heap.get?_update_self (Obj.mapSeq (fun _ => (#[] : Array Value))) fresh rfl
  generalize eh : (s.heap.push { cls := .type "list", data := .seq #[] }).update s.heap.objs.size (Obj.mapSeq (fun _ => (#[] : Array Value))) = h2 at fresh2 ⊢
  have keep2 : ∀ b o, b ≠ s.heap.objs.size → s.heap.get? b = some o → h2.get? b = some o := by
    intro b o nb e
    rw [← eh, Heap.get?_update_other _ _ (Ne.symm nb)]
    exact Heap.get?_push_of_some _ e
  have hit2 : h2.IsRevIter it l ((items.size : Int) - 1) := hit.at fun o e => keep2 _ o (Ne.symm ni) e
  have hl2 : h2.IsList l items := by
    obtain ⟨o, e, r⟩ := hl
    exact ⟨o, keep2 _ o (Ne.symm nl) e, r⟩
  have tI : ({ s with heap := h2 } : Shared).TypeIs (.ref it) "list_reverseiterator" := Heap.IsRevIter.typeIs (s := { s with heap := h2 }) hit2
  have n1 : Builtin.List.listSameRef (.ref s.heap.objs.size) (.ref it) = false := by simp [Builtin.List.listSameRef, ni]
  apply wpAny_bind
  apply wpAny_letGo
  unfold Builtin.List.listExtendWith
  apply wpAny_bind
  refine wpAny_typeOf tI ?_
  rw [if_neg (by rw [n1]; decide)]
  apply wpAny_bind
  refine wpAny_pyIter_revIter (s := { s with heap := h2 }) hit2 ?_
  apply wpAny_bind
  apply wpAny_holding
  unfold Builtin.List.listLengthHint
  apply wpAny_bind
  refine wpAny_specialOf tI RT.nolen_lri ?_
  show wpAny _ _ (specialOf (Value.ref it) (Str.ofString "__length_hint__") >>= _) _ _ _
  apply wpAny_bind
  refine wpAny_specialOf tI RT.hint_lri ?_
  generalize idq : ("list_reverseiterator.__length_hint__" : String) = idr
  wp_delta
  rw [show splitId idr = some ("list_reverseiterator", "__length_hint__") from by subst idq; decide +kernel]
  subst idq
  apply wpAny_bind
  refine wpAny_isInstance (b := true) tI (by rw [isSubtype_type]; kernel_rfl) ?_
  apply wpAny_pure
  rw [if_neg (by decide)]
  have z0 : ((items.size : Nat) : Int) - 1 - ((0 : Nat) : Int) = (items.size : Int) - 1 := by omega
  refine wpAny_pure ⟨plainId_quiet F.plain_extend_loop _, codeAny_extend_loopS W few _ out _ items.size 0 _ _ _ rfl (Nat.zero_le _) ⟨Nat.zero_le _, by rw [z0]; exact hit2, hl2⟩ fresh2 (ItemsOf.nil _) ?_⟩
  intro s' acc c moved at' given
  rw [Moved.eq_with moved]
  refine ⟨rfl, hQ s'.heap s'.toks acc c (fun b o nb e => moved.heap b o (fun z => ?_) (keep2 b o (Nat.ne_of_lt (Heap.lt_size e)) e)) at' given⟩
  rcases List.mem_cons.mp z with z | z
  · exact Nat.ne_of_lt (Heap.lt_size e) z
  · exact nb (List.mem_singleton.mp z)
end
def tLstRev (K : PySem.W.Frag) (te : TE) : TE := fun σ H Q => te σ H fun v H1 => ∃ (a : Addr) (xs : List V), v = .ref a ∧ SqL K H1 a xs ∧ ∀ q, H1 q = none → Q (.ref q) (upd H1 q (.lst xs.reverse))
theorem pe_lstRev {X : Cx} {e : Expr} {te : TE} {p p2 pos pos2 : Pos} (hc : X.calm = true) (g1 : Gl X "list") (m1 : X.mg "list" = none) (g2 : Gl X "reversed") (m2 : X.mg "reversed" = none) (he : PE X e te)
    (h1 : starEach [e] X.env = (false, eval e X.env) :: starEach [] X.env := by rfl)
    (h2 : starEach [.Call (.Name "reversed" p2) [e] [] pos2] X.env = (false, eval (.Call (.Name "reversed" p2) [e] [] pos2) X.env) :: starEach [] X.env := by rfl) :
    PE X (.Call (.Name "list" p) [.Call (.Name "reversed" p2) [e] [] pos2] [] pos) (tLstRev X.K te) := by
  refine ⟨fun pins s σ H Q I h => Call_ (ld_blt I g1 m1 boot_list (PyProof.Rows.callWith_type1 (args_cons (Call_ (ld_blt I g2 m2 PyProof.Rows.boot_reversed (PyProof.Rows.callWith_type1 (args_cons (thn (he.run pins s σ H _ I h) ?_) h1) h1 rfl))) h2) h2 rfl))⟩
  rintro u s1 ⟨v, H1, I1, r1, a, xs, rfl, hq, q⟩
  obtain rfl : u = Value.ref a := r1
  apply args_nil
  obtain ⟨its, rv, pl, few⟩ := I1.list hq
  apply call_reversed_list pl.isList
  apply args_nil
  have keep0 : ∀ b o, s1.heap.get? b = some o → (s1.heap.push (revObj a ((its.toArray.size : Int) - 1))).get? b = some o := fun b o e => Heap.get?_push_of_some _ e
  have I2 : Inv X pins σ H1 { s1 with heap := s1.heap.push (revObj a ((its.toArray.size : Int) - 1)) } := I1.kept (t' := s1.toks) keep0
  have fp := I1.fpOk (H' := H1) (b := s1.heap.objs.size) (Nat.le_refl _) (I1.hok.fresh (Nat.le_refl _))
  have hl := pl.isList
  obtain ⟨ol, el, _⟩ := id hl
  have hne : a ≠ s1.heap.objs.size := Nat.ne_of_lt (Heap.lt_size el)
  refine call_list_back (s := { s1 with heap := s1.heap.push (revObj a ((its.toArray.size : Int) - 1)) }) (I1.ok.hd hc) ⟨_, Heap.get?_push_size _ rfl, rfl, rfl⟩ (hl.push _) hne (by rw [List.size_toArray, ← rv.length]; exact few) fun h' tk acc c kp at' given => ?_
  refine ⟨.ref _, _, Inv.turnedNew (ch := [s1.heap.objs.size]) (t' := tk) (ob := .lst xs.reverse) I2 (fun b o nb e => kp b o (fun z => nb (by rw [z]; exact List.mem_cons_self ..)) e) (fun b hb => ?_) (Nat.le_refl _) ?_, rfl, q _ (I2.hok.fresh (Nat.le_refl _))⟩
  · rw [List.mem_singleton.mp hb]
    exact fp
  · exact (show ObjOk X.prog X.w _ _ _ (.lst xs.reverse) from ⟨by rw [List.length_reverse]; exact few, acc.toList, c, RT.vals_rev rv given, by rw [Array.toArray_toList]; exact at'⟩)
/-! ### set(a list of ints) -/
section
variable {P : Program} {w : World} {A : Around} {E : Value → Shared → Prop} {s : Shared}
/-- T(args), its __new__ giving an object of T, its __init__'s own check told by hand -/
theorem callT_by {T newId initId : String} {Bi : Builtin} {args : List Value} {Q Q₁ : Value → Shared → Prop} (ft : TypeCalled T newId initId) (ok : checkTypeCall T ⟨args, []⟩ = pure ()) (entryI : entryFor table initId = some Bi)
    (made : codeAny (model P w) A.in1 (.call (.builtin newId) ⟨.type T :: args, []⟩) (wants Q₁ E) s)
    (next : ∀ obj s₁, Q₁ obj s₁ → s₁.TypeIs obj T ∧ codeAny (model P w) A.in1 (.call (.builtin initId) ⟨obj :: args, []⟩) (wants (fun r s₂ => r = .none ∧ Q obj s₂) E) s₁) :
    wpAny (model P w) A (call (.type T) args) Q E s := by
  obtain ⟨c, tl, m1⟩ := ft.mro
  have m2 := ft.made
  have m3 := ft.sub
  have m4 := ft.notType
  have m5 := ft.canCreate
  apply wpAny_call
  apply codeAny_of_tree
  show wpAny _ _ (callAny (.type T) _) _ _ _
  refine wpAny_pure ⟨Code.quiet_builtin _ (by decide +kernel), codeAny_builtin F.entry_type_call ?_⟩
  rw [Around.under_plain (weight_type_call_type T args []) rfl]
  repeat any_goals first | assumption | wp_step
  refine codeAny_mono made ?_
  rintro r s₁ hr
  match r, hr with
  | .error _, hr => exact hr
  | .ok .next, hr => exact False.elim hr
  | .ok .brk, hr => exact False.elim hr
  | .ok .cont, hr => exact False.elim hr
  | .ok (.ret obj), hr =>
    obtain ⟨tO, run⟩ := next _ _ hr
    have q1 := ft.init.lookup
    have q2 := ft.init.bind obj
    repeat any_goals first | assumption | wp_step
    refine codeAny_mono run ?_
    rintro r2 s₂ hr2
    match r2, hr2 with
    | .error _, hr2 => exact hr2
    | .ok .next, hr2 => exact False.elim hr2
    | .ok .brk, hr2 => exact False.elim hr2
    | .ok .cont, hr2 => exact False.elim hr2
    | .ok (.ret u), hr2 =>
      obtain ⟨rfl, hq⟩ := hr2
      repeat any_goals first | assumption | wp_step
theorem call_set_listI {l : Addr} {items : Array Value} (ks : List Int) {Q : Value → Shared → Prop} (calm : A.handled = none) (hl : s.heap.IsList l items) (hi : IntsAre items.toList ks) (few : ks.length + 1 < scanBound)
    (hQ : ∀ (h' : Heap) (tk c : Nat), SetR w h' s.heap.objs.size (fun j => decide (j ∈ ks)) c → c ≤ ks.length → (∀ b o, s.heap.get? b = some o → h'.get? b = some o) → Q (.ref s.heap.objs.size) { s with heap := h', toks := tk }) :
    wpAny (model P w) A (call (.type "set") [.ref l]) Q E s := by
  have size : items.size = ks.length := by rw [← Array.length_toList]; exact IntsAre.length hi
  apply callT_by (Q₁ := fun obj s₁ => obj = .ref s.heap.objs.size ∧ s₁ = { s with heap := s.heap.push { cls := .type "set", dict := none, data := .set #[] 0 (.fresh 0 0 (!w.params.followText "set-order")) } }) F.called_set (F.typeCall_set_1 _) F.entry_set_init (code_set_led1 _ ⟨rfl, rfl⟩)
  rintro obj s₁ ⟨rfl, rfl⟩
  generalize en : ({ cls := .type "set", dict := none, data := .set #[] 0 (.fresh 0 0 (!w.params.followText "set-order")) } : Obj) = new
  have fresh : (s.heap.push new).get? s.heap.objs.size = some new := Heap.get?_push_size _ (by rw [← en]; rfl)
  have clsNew : new.cls = .type "set" := by rw [← en]
  have tNew : Shared.TypeIs { s with heap := s.heap.push new } (.ref s.heap.objs.size) "set" := ⟨_, fresh, clsNew⟩
  refine ⟨tNew, codeAny_call_builtin F.called_set.init.plain F.entry_set_init (check_set_init_1 tNew ?_)⟩
  obtain ⟨ol, el, cl, nl, dl⟩ := hl
  obtain ⟨c1, d1, a1, b1⟩ := ol
  simp only at cl dl
  subst cl
  subst dl
  have el' : (s.heap.push new).get? l = some { cls := .type "list", dict := d1, data := .seq items nl, slots := b1 } := Heap.get?_push_of_some _ el
  have k1 := F.sub_list_set
  have k2 := F.sub_list_frozenset
  have k3 : (Value.type "list" == Value.type "dict") = false := by decide
  have hl1 : (s.heap.push new).IsList l items := ⟨_, el', rfl, nl, rfl⟩
  subst en
  unfold Builtin.«set.__init__» noKeywords Builtin.Frozenset.updateFrom
  generalize ePI : pyIter = PI
  wp_walk
  subst ePI
  apply wpAny_pyIter_list hl1
  apply wpAny_bind
  apply wpAny_runValue
  have lS : l < s.heap.objs.size := Heap.lt_size el
  generalize en : ({ cls := .type "set", dict := none, data := .set #[] 0 (.fresh 0 0 (!w.params.followText "set-order")) } : Obj) = new at *
  have sz1 : (s.heap.push new).objs.size = s.heap.objs.size + 1 := Heap.size_push ..
  have nI : l ≠ (s.heap.push new).objs.size := by
    rw [sz1]
    exact Nat.ne_of_lt (Nat.lt_succ_of_lt lS)
  have nS : s.heap.objs.size ∉ [(s.heap.push new).objs.size, l] := by
    intro z
    rcases List.mem_cons.mp z with z | z
    · rw [sz1] at z
      exact Nat.ne_of_lt (Nat.lt_succ_self _) z
    · exact Nat.ne_of_lt lS (List.mem_singleton.mp z).symm
  have each : ∀ (i : Nat) (v : Value), items[i]? = some v → ∃ k t, ks[i]? = some k ∧ v = .int k t := by
    intro i v hv
    have hi' : i < ks.length := by
      rw [← size]
      exact (Array.getElem?_eq_some_iff.mp hv).1
    obtain ⟨t, e⟩ := PyProof.Rows.IntsAre.int_at hi i v (by rw [Array.getElem?_toList]; exact hv)
    refine ⟨ks[i], t, List.getElem?_eq_getElem hi', ?_⟩
    rw [e, List.getD_eq_getElem?_getD, List.getElem?_eq_getElem hi'] <;> rfl
  have calm3 : A.in1.in1.in1.handled = none := calm
  refine set_update_ints ((Walks.list calm3 _ l nI items).toS) s.heap.objs.size nS ks size few each (items.size - 0) 0 _ (by omega) (Nat.zero_le _) ⟨⟨_, Heap.get?_push_size _ rfl, rfl, rfl⟩, hl1.push _⟩ ?start ?fin
  case start =>
    subst en
    exact ⟨0, Nat.le_refl 0, setR_new_at (Heap.get?_push_of_some _ fresh)⟩
  case fin =>
    rintro ⟨h', g2, d', tk', os'⟩ c' moved le R
    obtain rfl : g2 = s.gens := moved.gens
    obtain rfl : d' = s.drawn := moved.drawn
    obtain rfl : os' = s.os := moved.os
    show wpAny _ _ _ _ _ _
    apply wpAny_pure
    show wpAny _ _ (ret Value.none) _ _ _
    refine wpAny_pure ⟨rfl, hQ h' tk' c' R (by omega) fun b o e => moved.heap b o (fun z => ?_) (Heap.get?_push_of_some _ (Heap.get?_push_of_some _ e))⟩
    have lb := Heap.lt_size e
    rcases List.mem_cons.mp z with z | z
    · exact Nat.ne_of_lt lb z
    · have z2 := List.mem_singleton.mp z
      rw [sz1] at z2
      exact Nat.ne_of_lt (Nat.lt_succ_of_lt lb) z2
end
/-- set(a list of ints) -/
def rSetL (K : PySem.W.Frag) (w : World) : List V → Hp → VK → Prop := fun xs H Q => ∃ (l : Addr) (ks : List Int), xs = [V.ref l] ∧ SqL K H l (ks.map V.int) ∧ ks.length ≤ 1000 ∧ ∀ (p : Addr) (c : Nat), H p = none → c ≤ ks.length → Q (.ref p) (upd H p (SetO w p (fun j => decide (j ∈ ks)) c))
theorem cr_setL {X : Cx} (hc : X.calm = true) : CallR X (.type "set") (rSetL X.K X.w) := by
  rintro pins s σ H xs us Q I r ⟨l, ks, rfl, hq, few, q⟩
  rw [Vals.ref1 r]
  obtain ⟨its, rv, pl, _⟩ := I.list hq
  refine call_set_listI ks (I.ok.hd hc) pl.isList (by simpa using ints_of_vals rv) (by unfold scanBound; omega) fun h' tk c R le keep => ?_
  exact ⟨.ref _, _, I.laid keep (Nat.le_refl _) (setO_new R), rfl, q _ c (I.hok.fresh (Nat.le_refl _)) le⟩
end My
set_option Elab.async false
set_option linter.all false
set_option maxRecDepth 100000
set_option maxHeartbeats 4000000
namespace My
open PySem PySem.Spec PyProof.Rows L2
/-! ### calls that may raise, what they raise wished for at the caller's slots -/
def tMkS (C : Addr) (sp : Sp) (E : L2.St → XK) (t : TA) : TE := fun σ H Q => t σ H fun vs H1 => ∀ x dx, H1 x = none → H1 dx = none → dx ≠ x →
  sp (.ref x :: vs) (upd (upd H1 dx (.own x)) x (.ins C dx [])) (fun v H2 => v = .non ∧ Q (.ref x) H2) (E σ)
def tMtS (C : Addr) (m : Str) (sp : Sp) (dvs : List V) (E : L2.St → XK) (ta : TE) (t : TA) : TE := fun σ H Q => ta σ H fun x H1 => ∃ a dx fs, x = .ref a ∧ H1 a = some (.ins C dx fs) ∧ fs.lookup m = none ∧
  t σ H1 fun vs H2 => sp (x :: (vs ++ dvs)) H2 Q (E σ)
section
variable {X : Cx} {CX : CXT} {k : Nat} {f C : Addr} {fd : FuncData} {ps : List Str} {sp : Sp} {dvs : List V} {ds : List Value} {E : L2.St → XK} {x m : Str} {p pos apos : Pos} {e o : Expr} {es : List Expr} {ta : TE} {t : TA}
theorem run_at {pins : List (Addr × Obj)} {σ : L2.St} {H : Hp} {s : Shared} {Q : VK} {us : List Value} {vs : List V} (F : FnOk X.prog X.w X.K X.mg X.base CX k f fd ps sp) (hr : Room k X.A) (hb : Binds X.K fd ps ds) (hd : Vals dvs ds) (hx : PassesAt CX X σ (E σ))
    (I : Inv X pins σ H s) (rel : Vals vs us) (h : sp (vs ++ dvs) H Q (E σ)) : wpAny (model X.prog X.w) X.A (call (.ref f) us) (EP X pins σ Q) X.xe s := by
  have rel2 : Vals (vs ++ dvs) (us ++ ds) := rel.append hd
  have lens : (us ++ ds).length = ps.length := rel2.length.symm.trans (F.len _ _ _ _ h)
  have ran := F.run X.A X.stack s H ⟨us, []⟩ (us ++ ds) (vs ++ dvs) Q (E σ) hr I.env0 (hb s us I.kIn lens) rel2 h
  apply wpAny_call
  refine codeAny_mono ran ?_
  rintro r s' ended
  match r, ended with
  | .error u, z => exact hx pins H s u s' I z
  | .ok (.ret u), z => exact I.after z
  | .ok .next, z => exact False.elim z
  | .ok .brk, z => exact False.elim z
  | .ok .cont, z => exact False.elim z
theorem pe_mtS {pl : Sem Bool} (he : PE X o ta) (c : Cls X.K C) (hm : Meth X.K C m f) (F : FnOk X.prog X.w X.K X.mg X.base CX k f fd ps sp) (hr : Room k X.A) (hb : Binds X.K fd ps ds) (hd : Vals dvs ds) (hx : ∀ σ, PassesAt CX X σ (E σ)) (ha : PA X (e :: es) t)
    (h1 : starEach (e :: es) X.env = (false, eval e X.env) :: starEach es X.env := by rfl) (h2 : (backTo pos (starEach es X.env)).any (·.1) = false := by rfl)
    (h3 : eval (.Call (.Attribute o m apos) (e :: es) [] pos) X.env = (do
      let ov ← eval o X.env
      standAt apos.atName
      let (f, first) ← holding [ov] (getMethod ov m pl)
      callWith pos f first (backTo pos (starEach (e :: es) X.env)) (backToKw pos (keywordEach [] X.env))) := by rfl) :
    PE X (.Call (.Attribute o m apos) (e :: es) [] pos) (tMtS C m sp dvs E ta t) := by
  constructor
  intro pins s σ H Q I h
  apply PySem.W.methodCall_KW (pl := pl) (thn (he.run pins s σ H _ I h) _) h3
  rintro u s1 ⟨y, H1, I1, ry, a, dx, fs, rfl, ea, l, q⟩
  obtain rfl : u = Value.ref a := ry
  apply getmeth_ok I1 ea c hm l
  apply PySem.W.callWith_K (first := [.ref a]) (h₀ := X.base) I.ok.mod.kin hm.kp (thn (ha.run pos pins s1 σ H1 _ I1 q) _) h1 h2
  rintro us s2 ⟨vs, H2, I2, r, q2⟩
  exact ⟨I2.kIn, run_at (us := .ref a :: us) (vs := .ref a :: vs) F hr hb hd (hx σ) I2 (.cons rfl r) q2⟩
theorem pe_mkS (M : Mk X.K C f) (F : FnOk X.prog X.w X.K X.mg X.base CX k f fd ps sp) (hr : Room (k + 1) X.A) (hg : Gl X x) (hm : X.mg x = some (.ref C)) (hb : Binds X.K fd ps []) (hx : ∀ σ, PassesAt CX X σ (E σ))
    (ha : PA X (e :: es) t) (h0 : (x == ("__debug__" : Str)) = false := by decide) (h1 : starEach (e :: es) X.env = (false, eval e X.env) :: starEach es X.env := by rfl) (h2 : (backTo pos (starEach es X.env)).any (·.1) = false := by rfl) :
    PE X (.Call (.Name x p) (e :: es) [] pos) (tMkS C sp E t) := by
  constructor
  intro pins s0 σ H Q I h
  apply wpAny_Call_Name_kw
  apply ld_glob I hg hm _ h0
  apply PySem.W.callWith_K (h₀ := X.base) I.ok.mod.kin M.kp (thn (ha.run pos pins s0 σ H _ I h) _) h1 h2
  rintro us s ⟨vs, H1, I1, rel, q⟩
  refine ⟨I1.kIn, ?_⟩
  show wpAny _ _ (call (.ref C) us) _ _ _
  have wish := q (s.heap.objs.size + 1) s.heap.objs.size (I1.hok.fresh (Nat.le_succ _)) (I1.hok.fresh (Nat.le_refl _)) (Nat.ne_of_lt (Nat.lt_succ_self _))
  have J := Inv.made (C := C) I1
  have rel2 : Vals (V.ref (s.heap.objs.size + 1) :: vs) (Value.ref (s.heap.objs.size + 1) :: us) := .cons rfl rel
  have lens : (Value.ref (s.heap.objs.size + 1) :: us).length = ps.length := rel2.length.symm.trans (F.len _ _ _ _ wish)
  have bound := hb _ (Value.ref (s.heap.objs.size + 1) :: us) J.kIn (by rw [List.append_nil]; exact lens)
  rw [List.append_nil] at bound
  have ran := F.run _ X.stack _ _ ⟨Value.ref (s.heap.objs.size + 1) :: us, []⟩ (Value.ref (s.heap.objs.size + 1) :: us) _ _ (E σ) (hr.make C us []) (J.env0.make C us []) bound rel2 wish
  refine wpAny_call (make_map (f := f) I1.kIn M.makes M.init (beq_iff_eq.mp M.fn) (codeAny_mono ran ?_))
  rintro r s' ended
  match r, ended with
  | .error u, z => exact hx σ pins _ _ u s' J z
  | .ok .next, z => exact False.elim z
  | .ok .brk, z => exact False.elim z
  | .ok .cont, z => exact False.elim z
  | .ok (.ret u), z =>
    obtain ⟨v, H', J2, rv, rfl, q3⟩ := J.after z
    exact ⟨rv, V.ref (s.heap.objs.size + 1), H', J2, rfl, q3⟩
end
/-! ### raise C(e, ..), C with an __init__ of its own, its context None -/
section
variable {X : Cx} {e : Expr} {es : List Expr} {ta : TA} {p pos : Pos}
/-- what a new exception's __init__ must promise -/
def mkWish (C : Addr) (sp : Sp) (vs : List V) (H1 : Hp) (Q : XK) : Prop := vs.length ≤ 1000 ∧ ∀ a, H1 a = none → sp (.ref a :: vs) (upd H1 a (exo a C none))
  (fun v H2 => v = .non ∧ ∃ (d : Addr) (fs : List (Str × V)), H2 a = some (exo a C (some d)) ∧ H2 d = some (exd d fs) ∧ H1 d = none ∧ Q (.ref C) (some d) (upd (del H2 a) d (.xd fs))) E0
theorem pmk_oexN {CX : CXT} {x : Str} {C fI : Addr} {k : Nat} {fd : FuncData} {ps : List Str} {sp : Sp} {R : List V → Hp → XK → Prop} (cv : ∀ vs H1 Q, R vs H1 Q → mkWish C sp vs H1 Q) (T : OexC X.K C) (iC : PySem.W.findIn X.K (.ref C) "__init__" = some (some (.ref fI))) (tI : PySem.W.typeIn X.K (.ref fI) = some (.type "function"))
    (F1 : FnOk X.prog X.w X.K X.mg X.base CX k fI fd ps sp) (hr : Room (k + 1) X.A) (hb : Binds X.K fd ps []) (hx : Passes CX X (fun _ _ _ => False)) (hg : Gl X x) (hm : X.mg x = some (.ref C)) (ha : PA X (e :: es) ta)
    (h0 : (x == ("__debug__" : Str)) = false := by decide) (h1 : starEach (e :: es) X.env = (false, eval e X.env) :: starEach es X.env := by rfl) (h2 : (backTo pos (starEach es X.env)).any (·.1) = false := by rfl) :
    L2N.PMk X (.Call (.Name x p) (e :: es) [] pos) (fun σ H Q => ta σ H fun vs H1 => R vs H1 Q) := by
  obtain ⟨nm, qn, N, bs, bm, sn, sub, ab, col, dd, k0, k1, k2, k3, k5, hC, hbm⟩ := T.cls
  intro pins s0 σ H Q I h
  apply wpAny_Call_Name_kw
  apply ld_glob I hg hm _ h0
  apply PySem.W.callWith_K (h₀ := X.base) I.ok.mod.kin T.kC (thn (ha.run pos pins s0 σ H _ I h) _) h1 h2
  rintro us ⟨heap, gens, drawn, toks, world⟩ ⟨vs, H1, I1, rel, told⟩
  obtain ⟨few, q⟩ := cv _ _ _ told
  refine ⟨I1.kIn, ?_⟩
  show wpAny _ _ (call (.ref C) us) _ _ _
  have le1 : heap.objs.size ≤ heap.objs.size + 1 := Nat.le_succ _
  have wish := q (heap.objs.size + 1) (I1.hok.fresh le1)
  have keep : ∀ b o, heap.get? b = some o → ((heap.push (PySem.W.kdv_tup us)).push (PySem.HandSPX.excO C heap.objs.size)).get? b = some o := fun b o z => Heap.get?_push_of_some _ (Heap.get?_push_of_some _ z)
  have lies : ((heap.push (PySem.W.kdv_tup us)).push (PySem.HandSPX.excO C heap.objs.size)).get? (heap.objs.size + 1) = some (PySem.HandSPX.excO C heap.objs.size) := by heap_get
  have J : Inv X pins σ (upd H1 (heap.objs.size + 1) (exo (heap.objs.size + 1) C none)) ⟨(heap.push (PySem.W.kdv_tup us)).push (PySem.HandSPX.excO C heap.objs.size), gens, drawn, toks, world⟩ := Inv.laid (t' := toks) I1 keep le1 (exo_ok lies)
  have rel2 : Vals (V.ref (heap.objs.size + 1) :: vs) (Value.ref (heap.objs.size + 1) :: us) := .cons rfl rel
  have lens : (Value.ref (heap.objs.size + 1) :: us).length = ps.length := rel2.length.symm.trans (F1.len _ _ _ _ wish)
  have fits : us.length ≤ sizeLine := by
    rw [← rel.length, sizeLine_eq]
    omega
  have bound := hb _ (Value.ref (heap.objs.size + 1) :: us) J.kIn (by rw [List.append_nil]; exact lens)
  rw [List.append_nil] at bound
  have ran := F1.run _ X.stack _ _ ⟨Value.ref (heap.objs.size + 1) :: us, []⟩ (Value.ref (heap.objs.size + 1) :: us) _ _ (fun _ _ _ => False) (hr.make C us []) (J.env0.make C us []) bound rel2 wish
  refine wpAny_call (PySem.HandSPX.call_own F.excBase_ValueError (fun Y => PySem.HandSPX.refsVE_contains Y bm hbm) (I1.kIn _ _ hC) (PySem.W.looks_findIn I1.kIn iC) (fun self => PySem.W.bind_fn I1.kIn self tI) fits (codeAny_mono ran ?_))
  rintro r s' ended
  match r, ended with
  | .error u, z => exact hx pins σ _ _ u s' J z
  | .ok .next, z => exact False.elim z
  | .ok .brk, z => exact False.elim z
  | .ok .cont, z => exact False.elim z
  | .ok (.ret u), ⟨v, H2, os2, bare2, un2, hok2, rv, ev, d, fs, ea, ed, hd1, q2⟩ =>
    subst ev
    obtain ⟨h2', g2, d2, t2, os'⟩ := s'
    obtain ⟨t0, G, J2, kG, ge, hoe, na⟩ := mk_end0 (d2 := d2) (t2 := t2) I1 le1 keep un2 hok2 os2 bare2 ea ed hd1
    refine ⟨rv, _, _, _, ⟨G, g2, d2, t2, os'⟩, _, .ref C, some d, rfl, J2, kG, ge, hoe, ⟨rfl, rfl, ?_⟩, rfl, rfl, na, rfl, bare2, raises_own T.exC T.tyC, q2⟩
    intro ws ew
    cases ew
    rfl
end
/-! ### == by an own __eq__, whatever it says -/
def rEqOwn (K : PySem.W.Frag) (C : Addr) (sp : Sp) : R2 := fun x y H Q => ∃ (a dx : Addr) (fs : List (Str × V)) (tb : Value), x = .ref a ∧ H a = some (.ins C dx fs) ∧ TyX K H y tb ∧ PySem.W.notFirst K C tb = true ∧
  sp [x, y] H (fun v H' => (∃ b, v = .bl b) ∧ Q v H') E0
theorem op_eqOwn {X : Cx} {n : Nat} {C f : Addr} {fd : FuncData} {ps : List Str} {sp : Sp} (F : FnOk X.prog X.w X.K X.mg X.base CX0 n f fd ps sp) (hr : Room n X.A)
    (hs : PySem.W.findIn X.K (.ref C) "__eq__" = some (some (.ref f))) (hf : PySem.W.isFn X.K (.ref f) = true) (hb : Binds X.K fd ps []) : OpR X (compareOp .Eq) (rEqOwn X.K C sp) := by
  rintro pins s σ H x y v u Q I rx ry ⟨a, dx, fs, tb, rfl, ha, ty, nf, h⟩
  obtain rfl : v = Value.ref a := rx
  show wpAny (model X.prog X.w) X.A (richCompare .Eq (.ref a) u) (EP X pins σ Q) X.xe s
  obtain ⟨mA, J, _⟩ := ins_get I.hok ha
  obtain ⟨od, J, _⟩ := J.look
  obtain ⟨m, hF⟩ := I.fr
  obtain ⟨P, kx, px, _⟩ := kit_of I ry ty
  have rel : Vals [V.ref a, y] [Value.ref a, u] := .cons rfl (.cons ry .nil)
  have lens := F.len _ _ _ _ h
  have bound := hb s [.ref a, u] I.kIn (by simpa using lens)
  rw [List.append_nil] at bound
  refine PySem.W.cmp_K (op := .Eq) (tb := tb) hr.units0 hF I.ok.mod.kin J ?looks nf hs hf ?_
  case looks => exact kx.ty _ _ I.kIn px
  refine wpAny_call (codeAny_mono (F.run X.A X.stack s H ⟨[.ref a, u], []⟩ [.ref a, u] [.ref a, y] _ E0 hr I.env0 bound rel h) ?_)
  rintro r s' ended
  match r, ended with
  | .error u, z => exact False.elim z
  | .ok .next, z => exact False.elim z
  | .ok .brk, z => exact False.elim z
  | .ok .cont, z => exact False.elim z
  | .ok (.ret w), z =>
    obtain ⟨v, H', J2, rv, ⟨b, rfl⟩, q⟩ := I.after z
    obtain rfl : w = Value.bool b := rv
    exact ⟨.bl b, H', J2, rfl, q⟩
end My
set_option Elab.async false
set_option linter.all false
set_option maxRecDepth 100000
set_option maxHeartbeats 4000000
namespace My
open PySem PySem.Spec PyProof.Rows L2
/-! ### data that values stand for -/
/-! no list and no dict in it -/
mutual
def tupD : PyData → Bool
  | .list _ => false
  | .dict _ => false
  | .tuple ds => decide (ds.length ≤ 1000) && tupDs ds
  | .none => true
  | .bool _ => true
  | .int _ => true
  | .str _ => true
def tupDs : List PyData → Bool
  | [] => true
  | d :: ds => tupD d && tupDs ds
end
/-! how deep tuples stand in one another -/
mutual
def dep : PyData → Nat
  | .tuple ds => depAll ds + 1
  | .list ds => depAll ds + 1
  | .dict _ => 0
  | .none => 0
  | .bool _ => 0
  | .int _ => 0
  | .str _ => 0
def depAll : List PyData → Nat
  | [] => 0
  | d :: ds => max (dep d) (depAll ds)
end
theorem tupDs_mem : ∀ {ds : List PyData} {d : PyData}, tupDs ds = true → d ∈ ds → tupD d = true
  | e :: ds, d, h, m => by
    have h' : (tupD e && tupDs ds) = true := by rw [tupDs] at h; exact h
    rw [Bool.and_eq_true] at h'
    rcases List.mem_cons.mp m with z | z
    · rw [z]; exact h'.1
    · exact tupDs_mem h'.2 z
theorem tupDs_of : ∀ {ds : List PyData}, (∀ d ∈ ds, tupD d = true) → tupDs ds = true
  | [], _ => by rw [tupDs]
  | e :: ds, h => by
    rw [tupDs, h e (List.mem_cons_self ..), tupDs_of fun d m => h d (List.mem_cons_of_mem _ m)]
    rfl
theorem depAll_mem : ∀ {ds : List PyData} {d : PyData}, d ∈ ds → dep d ≤ depAll ds
  | e :: ds, d, m => by
    rw [depAll]
    rcases List.mem_cons.mp m with z | z
    · rw [z]; exact Nat.le_max_left _ _
    · exact Nat.le_trans (depAll_mem z) (Nat.le_max_right _ _)
section
variable {K : PySem.W.Frag} {H H' : Hp}
mutual
theorem dp_keep (s : Same H H') : ∀ (d : PyData) (v : V), Dp K H v d → Dp K H' v d
  | .none, _, .non => .non
  | .bool b, _, .bl _ => .bl b
  | .int i, _, .int _ => .int i
  | .str x, _, .str _ => .str x
  | .list ds, _, .lst h a => .lst (s.seq h) (dpAll_keep s ds _ a)
  | .tuple ds, _, .tup h a => .tup (seqT_keep h s) (dpAll_keep s ds _ a)
theorem dpAll_keep (s : Same H H') : ∀ (ds : List PyData) (vs : List V), DpAll K H vs ds → DpAll K H' vs ds
  | [], _, .nil => .nil
  | d :: ds, _, .cons h a => .cons (dp_keep s d _ h) (dpAll_keep s ds _ a)
end
theorem dpAll_len : ∀ {vs : List V} {ds : List PyData}, DpAll K H vs ds → vs.length = ds.length
  | _, _, .nil => rfl
  | _, _, .cons _ a => congrArg (· + 1) (dpAll_len a)
theorem dpAll_get : ∀ {vs : List V} {ds : List PyData}, DpAll K H vs ds → ∀ {i : Nat} {x : V}, vs[i]? = some x → ∃ d, ds[i]? = some d ∧ Dp K H x d
  | _, _, .nil, i, x, e => by simp at e
  | _, _, @DpAll.cons _ _ v vs d ds h a, 0, x, e => ⟨d, rfl, by
      have z : v = x := Option.some.inj e
      rw [← z]; exact h⟩
  | _, _, .cons _ a, i + 1, x, e => dpAll_get a (i := i) e
theorem dpAll_getD : ∀ {vs : List V} {ds : List PyData}, DpAll K H vs ds → ∀ {i : Nat} {d : PyData}, ds[i]? = some d → ∃ x, vs[i]? = some x ∧ Dp K H x d
  | _, _, .nil, i, x, e => by simp at e
  | _, _, @DpAll.cons _ _ v vs d ds h a, 0, x, e => ⟨v, rfl, by
      have z : d = x := Option.some.inj e
      rw [← z]; exact h⟩
  | _, _, .cons _ a, i + 1, x, e => dpAll_getD a (i := i) e
theorem dpAll_snoc : ∀ {vs : List V} {ds : List PyData} {v : V} {d : PyData}, DpAll K H vs ds → Dp K H v d → DpAll K H (vs ++ [v]) (ds ++ [d])
  | _, _, _, _, .nil, h => .cons h .nil
  | _, _, _, _, .cons h a, g => .cons h (dpAll_snoc a g)
theorem dpAll_ints : ∀ {ns : List Int}, DpAll K H (ns.map V.int) (ns.map PyData.int)
  | [] => .nil
  | n :: ns => .cons (.int n) dpAll_ints
theorem dpAll_intsV : ∀ {ns : List Int} {vs : List V}, DpAll K H vs (ns.map PyData.int) → vs = ns.map V.int
  | [], _, .nil => rfl
  | n :: ns, _, .cons h a => by
    cases h
    rw [dpAll_intsV a]
    rfl
/-! such data do not mind what a list holds -/
mutual
theorem dp_put {a : Addr} {xs ys : List V} (e : H a = some (.lst xs)) : ∀ (d : PyData) (v : V), tupD d = true → Dp K H v d → Dp K (upd H a (.lst ys)) v d
  | .none, _, _, .non => .non
  | .bool b, _, _, .bl _ => .bl b
  | .int i, _, _, .int _ => .int i
  | .str x, _, _, .str _ => .str x
  | .list ds, _, t, _ => by rw [tupD] at t; cases t
  | .tuple ds, _, t, @Dp.tup _ _ b zs _ h al => by
    rw [tupD, Bool.and_eq_true] at t
    refine .tup ?_ (dpAll_put e ds _ t.2 al)
    rcases h with (h | ⟨o, h⟩) | h
    · exact .inl (.inl (by rw [upd_ne (fun z => by rw [z, e] at h; cases h)]; exact h))
    · exact .inl (.inr ⟨o, by rw [upd_ne (fun z => by rw [z, e] at h; cases h)]; exact h⟩)
    · exact .inr h
theorem dpAll_put {a : Addr} {xs ys : List V} (e : H a = some (.lst xs)) : ∀ (ds : List PyData) (vs : List V), tupDs ds = true → DpAll K H vs ds → DpAll K (upd H a (.lst ys)) vs ds
  | [], _, _, .nil => .nil
  | d :: ds, _, t, .cons h al => by
    rw [tupDs, Bool.and_eq_true] at t
    exact .cons (dp_put e d _ t.1 h) (dpAll_put e ds _ t.2 al)
end
def tyD : PyData → String
  | .none => "NoneType"
  | .bool _ => "bool"
  | .int _ => "int"
  | .str _ => "str"
  | .list _ => "list"
  | .tuple _ => "tuple"
  | .dict _ => "dict"
theorem dp_ty {x : V} {d : PyData} (h : Dp K H x d) : TyX K H x (.type (tyD d)) := by
  cases h with
  | non => exact .base .non
  | bl b => exact .base (.bl b)
  | int i => exact .base (.int i)
  | str z => exact .base (.str z)
  | lst h _ =>
    rcases h with (h | ⟨o, h⟩) | ⟨o, its, n, h, c, _⟩
    · exact .base (.lst h)
    · exact .base (.frz h)
    · exact .kList h c
  | tup h _ =>
    rcases h with (h | ⟨o, h⟩) | ⟨o, its, n, h, c, _⟩
    · exact .base (.tup h)
    · exact .fTuple h
    · exact .kTuple h c
theorem tyD_cases (d : PyData) : tyD d = "NoneType" ∨ tyD d = "bool" ∨ tyD d = "int" ∨ tyD d = "str" ∨ tyD d = "list" ∨ tyD d = "tuple" ∨ tyD d = "dict" := by
  cases d <;> simp [tyD]
theorem kit_dTuple (d : PyData) : PySem.W.kitOne K (.type (tyD d)) (.type "tuple") = some (decide (tyD d = "tuple")) := by
  rcases tyD_cases d with h | h | h | h | h | h | h <;> (rw [h]; exact kit_ty (by decide +kernel))
theorem kit_dList (d : PyData) : PySem.W.kitOne K (.type (tyD d)) (.type "list") = some (decide (tyD d = "list")) := by
  rcases tyD_cases d with h | h | h | h | h | h | h <;> (rw [h]; exact kit_ty (by decide +kernel))
theorem kit_dBool (d : PyData) : PySem.W.kitOne K (.type (tyD d)) (.type "bool") = some (decide (tyD d = "bool")) := by
  rcases tyD_cases d with h | h | h | h | h | h | h <;> (rw [h]; exact kit_ty (by decide +kernel))
theorem kit_dStr (d : PyData) : PySem.W.kitOne K (.type (tyD d)) (.type "str") = some (decide (tyD d = "str")) := by
  rcases tyD_cases d with h | h | h | h | h | h | h <;> (rw [h]; exact kit_ty (by decide +kernel))
theorem kit_dInt (d : PyData) : PySem.W.kitOne K (.type (tyD d)) (.type "int") = some (decide (tyD d = "int") || decide (tyD d = "bool")) := by
  rcases tyD_cases d with h | h | h | h | h | h | h <;> (rw [h]; exact kit_ty (by decide +kernel))
theorem kit_dSeq (d : PyData) : PySem.W.kitAny K (.type (tyD d)) [.type "list", .type "tuple"] = some (seqT (tyD d)) := by
  have h1 := kit_dList (K := K) d
  have h2 := kit_dTuple (K := K) d
  unfold seqT
  refine kitAny_cons h1 (fun e1 => ?_) (fun e1 => by rw [e1]; rfl)
  rw [e1, Bool.false_or]
  exact kitAny_cons h2 (fun e2 => by rw [e2]; exact kitAny_nil) (fun e2 => by rw [e2])
/-- [f(x) for x in xs] over a list or a tuple of data, the results' data tuples at most -/
theorem lcDg {te ti : TE} {j : Nat} {vs : List Nat} {σ : L2.St} {a : Addr} {xs : List V} {ds : List PyData} {g : PyData → PyData} {Q : VK} (hv : ∀ R : VK, R (.ref a) H → ti σ H R) (hs : SqV K H a xs) (hz : xs.length ≤ sizeLine) (hd : DpAll K H xs ds) (hg : ∀ d ∈ ds, tupD (g d) = true)
    (hw : ∀ x, wipe ((wipe σ vs).set j (some x)) vs = wipe σ vs)
    (ht : ∀ (x : V) (d : PyData), d ∈ ds → ∀ (H' : Hp) (R : VK), Same H H' → Dp K H' x d → (∀ y H'', Same H' H'' → Dp K H'' y (g d) → R y H'') → te ((wipe σ vs).set j (some x)) H' R)
    (hq : ∀ (D : Addr) (ys : List V) (H' : Hp), Same H H' → H D = none → H' D = some (.lst ys) → DpAll K H' ys (ds.map g) → Q (.ref D) H') : tLc (iSeq K ti) (gName j) tYes te vs σ H Q := by
  have len := dpAll_len hd
  have step : ∀ (D : Addr), H D = none → ∀ i x H', xs[i]? = some x → (Same H H' ∧ ∃ ys, H' D = some (.lst ys) ∧ DpAll K H' ys ((ds.take i).map g)) → gName j x (wipe σ vs) H' fun σ2 H2 => wipe σ2 vs = wipe σ vs ∧ tYes σ2 H2 fun b H3 =>
      if b = true then te σ2 H3 fun y H4 => ∃ acc, H4 D = some (.lst acc) ∧ acc.length < sizeLine ∧ (Same H (upd H4 D (.lst (acc ++ [y]))) ∧ ∃ ys, (upd H4 D (.lst (acc ++ [y]))) D = some (.lst ys) ∧ DpAll K (upd H4 D (.lst (acc ++ [y]))) ys ((ds.take (i + 1)).map g)) else (Same H H3 ∧ ∃ ys, H3 D = some (.lst ys) ∧ DpAll K H3 ys ((ds.take (i + 1)).map g)) := by
    rintro D nD i x H' hi ⟨s1, ys, hD, hys⟩
    refine ⟨hw x, ?_⟩
    unfold tYes
    dsimp only
    rw [if_pos rfl]
    obtain ⟨d, ed, hxd⟩ := dpAll_get (dpAll_keep s1 _ _ hd) hi
    have md := List.mem_of_getElem? ed
    have hlt : i < xs.length := (List.getElem?_eq_some_iff.mp hi).1
    refine ht x d md H' _ s1 hxd fun y H4 s4 hy => ⟨ys, s4 _ _ hD, ?_, same_but (s1.trans s4) nD, ys ++ [y], upd_same, ?_⟩
    · rw [dpAll_len hys, List.length_map, List.length_take]
      omega
    · rw [List.take_add_one, ed, List.map_append]
      refine dpAll_put (s4 _ _ hD) _ _ (tupDs_of fun e he => ?_) (dpAll_snoc (dpAll_keep s4 _ _ hys) hy)
      rcases List.mem_append.mp he with z | z
      · obtain ⟨d', m', rfl⟩ := List.mem_map.mp z
        exact hg d' (List.mem_of_mem_take m')
      · rw [List.mem_singleton.mp z]
        exact hg d md
  rcases hs with hs | hs
  · refine .inl (hv _ ⟨a, rfl, ⟨xs, hs⟩, fun D nD => lc_list (xs := xs) (fun i H' => Same H H' ∧ ∃ ys, H' D = some (.lst ys) ∧ DpAll K H' ys ((ds.take i).map g)) ⟨same_upd nD, [], upd_same, .nil⟩ (fun _ _ _ h => h.1.seq hs) (step D nD) ?_⟩)
    rintro H' ⟨s1, ys, hD, hys⟩
    rw [len, List.take_length] at hys
    exact hq D ys H' s1 nD hD hys
  · refine .inr (hv _ ⟨a, rfl, ⟨xs, hs⟩, fun D nD => lc_tup (xs := xs) (fun i H' => Same H H' ∧ ∃ ys, H' D = some (.lst ys) ∧ DpAll K H' ys ((ds.take i).map g)) ⟨same_upd nD, [], upd_same, .nil⟩ (fun _ _ _ h => seqT_keep hs h.1) (step D nD) ?_⟩)
    rintro H' ⟨s1, ys, hD, hys⟩
    rw [len, List.take_length] at hys
    exact hq D ys H' s1 nD hD hys
theorem lcD {te : TE} {i j : Nat} {vs : List Nat} {σ : L2.St} {a : Addr} {xs : List V} {ds : List PyData} {g : PyData → PyData} {Q : VK} (hv : σ[i]? = some (some (.ref a))) (hs : SqV K H a xs) (hz : xs.length ≤ sizeLine) (hd : DpAll K H xs ds) (hg : ∀ d ∈ ds, tupD (g d) = true)
    (hw : ∀ x, wipe ((wipe σ vs).set j (some x)) vs = wipe σ vs)
    (ht : ∀ (x : V) (d : PyData), d ∈ ds → ∀ (H' : Hp) (R : VK), Same H H' → Dp K H' x d → (∀ y H'', Same H' H'' → Dp K H'' y (g d) → R y H'') → te ((wipe σ vs).set j (some x)) H' R)
    (hq : ∀ (D : Addr) (ys : List V) (H' : Hp), Same H H' → H D = none → H' D = some (.lst ys) → DpAll K H' ys (ds.map g) → Q (.ref D) H') : tLc (iSeq K (tVar i)) (gName j) tYes te vs σ H Q :=
  lcDg (fun _ h => ⟨_, hv, h⟩) hs hz hd hg hw ht hq
end
end My
set_option Elab.async false
set_option linter.all false
set_option maxRecDepth 100000
namespace My
open PySem
/-- the text, by places -/
def topS (i : Nat) : Stmt := PySem.Challenge.pw_meetwhere_k02_whole_questions_and_unions.main.body.getD i (.Pass ⟨0, 0, 0, 0⟩)
end My
set_option Elab.async false
set_option linter.all false
set_option maxRecDepth 100000
set_option maxHeartbeats 4000000
namespace My
open PySem PySem.Spec PyProof.Rows L2
/-! ### data with lists and the one dict that the law hands in -/
mutual
inductive Dq (H : Hp) : V → PyData → Prop
  | non : Dq H .non .none
  | bl (b : Bool) : Dq H (.bl b) (.bool b)
  | int (i : Int) : Dq H (.int i) (.int i)
  | str (x : Str) : Dq H (.str x) (.str x)
  | lst {a : Addr} {xs : List V} {ds : List PyData} : H a = some (.lst xs) → DqAll H xs ds → Dq H (.ref a) (.list ds)
  | tup {a : Addr} {xs : List V} {ds : List PyData} : H a = some (.tup xs) → DqAll H xs ds → Dq H (.ref a) (.tuple ds)
  | dct {a : Addr} : H a = some (.dK [(Sum.inl 0, .int 1)]) → Dq H (.ref a) (.dict [(.int 0, .int 1)])
inductive DqAll (H : Hp) : List V → List PyData → Prop
  | nil : DqAll H [] []
  | cons {v : V} {vs : List V} {d : PyData} {ds : List PyData} : Dq H v d → DqAll H vs ds → DqAll H (v :: vs) (d :: ds)
end
def D01 : PyData := .dict [(.int 0, .int 1)]
section
variable {K : PySem.W.Frag} {H H' : Hp}
mutual
theorem dq_keep (s : Same H H') : ∀ (d : PyData) (v : V), Dq H v d → Dq H' v d
  | _, _, .non => .non
  | _, _, .bl b => .bl b
  | _, _, .int i => .int i
  | _, _, .str x => .str x
  | .list ds, _, .lst h a => .lst (s _ _ h) (dqAll_keep s ds _ a)
  | .tuple ds, _, .tup h a => .tup (s _ _ h) (dqAll_keep s ds _ a)
  | _, _, .dct h => .dct (s _ _ h)
theorem dqAll_keep (s : Same H H') : ∀ (ds : List PyData) (vs : List V), DqAll H vs ds → DqAll H' vs ds
  | [], _, .nil => .nil
  | d :: ds, _, .cons h a => .cons (dq_keep s d _ h) (dqAll_keep s ds _ a)
end
theorem Dq.keep {v : V} {d : PyData} (h : Dq H v d) (s : Same H H') : Dq H' v d := dq_keep s d v h
theorem DqAll.keep {vs : List V} {ds : List PyData} (h : DqAll H vs ds) (s : Same H H') : DqAll H' vs ds := dqAll_keep s ds vs h
theorem DqAll.len : ∀ {vs : List V} {ds : List PyData}, DqAll H vs ds → vs.length = ds.length
  | _, _, .nil => rfl
  | _, _, .cons _ a => congrArg (· + 1) a.len
theorem DqAll.get : ∀ {vs : List V} {ds : List PyData}, DqAll H vs ds → ∀ {i : Nat} {x : V}, vs[i]? = some x → ∃ d, ds[i]? = some d ∧ Dq H x d
  | _, _, .nil, i, x, e => by simp at e
  | _, _, @DqAll.cons _ v vs d ds h a, 0, x, e => ⟨d, rfl, by
      have z : v = x := Option.some.inj e
      rw [← z]; exact h⟩
  | _, _, .cons _ a, i + 1, x, e => a.get (i := i) e
theorem DqAll.getD : ∀ {vs : List V} {ds : List PyData}, DqAll H vs ds → ∀ {i : Nat} {d : PyData}, ds[i]? = some d → ∃ x, vs[i]? = some x ∧ Dq H x d
  | _, _, .nil, i, x, e => by simp at e
  | _, _, @DqAll.cons _ v vs d ds h a, 0, x, e => ⟨v, rfl, by
      have z : d = x := Option.some.inj e
      rw [← z]; exact h⟩
  | _, _, .cons _ a, i + 1, x, e => a.getD (i := i) e
theorem DqAll.snoc : ∀ {vs : List V} {ds : List PyData} {v : V} {d : PyData}, DqAll H vs ds → Dq H v d → DqAll H (vs ++ [v]) (ds ++ [d])
  | _, _, _, _, .nil, h => .cons h .nil
  | _, _, _, _, .cons h a, g => .cons h (a.snoc g)
theorem DqAll.app : ∀ {vs : List V} {ds : List PyData} {us : List V} {es : List PyData}, DqAll H vs ds → DqAll H us es → DqAll H (vs ++ us) (ds ++ es)
  | _, _, _, _, .nil, g => g
  | _, _, _, _, .cons h a, g => .cons h (a.app g)
theorem DqAll.drop : ∀ {vs : List V} {ds : List PyData} (n : Nat), DqAll H vs ds → DqAll H (vs.drop n) (ds.drop n)
  | _, _, 0, h => h
  | _, _, n + 1, .nil => .nil
  | _, _, n + 1, .cons _ a => a.drop n
theorem DqAll.take : ∀ {vs : List V} {ds : List PyData} (n : Nat), DqAll H vs ds → DqAll H (vs.take n) (ds.take n)
  | _, _, 0, _ => .nil
  | _, _, n + 1, .nil => .nil
  | _, _, n + 1, .cons h a => .cons h (a.take n)
theorem DqAll.set : ∀ {vs : List V} {ds : List PyData} {v : V} {d : PyData} (n : Nat), DqAll H vs ds → Dq H v d → DqAll H (vs.set n v) (ds.set n d)
  | _, _, _, _, _, .nil, _ => .nil
  | _, _, _, _, 0, .cons _ a, g => .cons g a
  | _, _, _, _, n + 1, .cons h a, g => .cons h (a.set n g)
theorem dqAll_ints : ∀ {ns : List Int}, DqAll H (ns.map V.int) (ns.map PyData.int)
  | [] => .nil
  | n :: ns => .cons (.int n) dqAll_ints
theorem Dq.ty {x : V} {d : PyData} (h : Dq H x d) : TyOf K H x (.type (tyD d)) := by
  cases h with
  | non => exact .non
  | bl b => exact .bl b
  | int i => exact .int i
  | str z => exact .str z
  | lst h _ => exact .lst h
  | tup h _ => exact .tup h
  | dct h => exact .dK h
/-! what the program asks of data -/
def seqOf : PyData → Option (List PyData)
  | .list ds => some ds
  | .tuple ds => some ds
  | _ => none
def intD : PyData → Bool
  | .int _ => true
  | _ => false
def wholeD (l h : Int) : PyData → Bool
  | .int i => decide (l ≤ i) && decide (i ≤ h)
  | _ => false
def valueD : PyData → Bool := wholeD 0 1000000000
theorem seqT_d (d : PyData) : seqT (tyD d) = (seqOf d).isSome := by cases d <;> rfl
theorem Dq.whole {x : V} {d : PyData} (h : Dq H x d) : wholeV x none none = intD d := by cases h <;> rfl
theorem Dq.wholeB {x : V} {d : PyData} {l g : Int} (h : Dq H x d) : wholeV x (some l) (some g) = wholeD l g d := by cases h <;> rfl
theorem Dq.value {x : V} {d : PyData} (h : Dq H x d) : valueV x = valueD d := h.wholeB
/-- a sequence of data: where it lies -/
theorem Dq.seq {x : V} {d : PyData} {ds : List PyData} (h : Dq H x d) (e : seqOf d = some ds) : ∃ a xs, x = .ref a ∧ (H a = some (.lst xs) ∨ H a = some (.tup xs)) ∧ DqAll H xs ds := by
  cases h with
  | lst h a =>
    have z := Option.some.inj e
    subst z
    exact ⟨_, _, rfl, .inl h, a⟩
  | tup h a =>
    have z := Option.some.inj e
    subst z
    exact ⟨_, _, rfl, .inr h, a⟩
  | _ => cases e
theorem sqv_of {a : Addr} {xs : List V} (h : H a = some (.lst xs) ∨ H a = some (.tup xs)) : SqV K H a xs := h.imp SqL.of SqT.of
end
/-! ### snapshots: the part of the heap in which the data lie, without the hand and without lists that still grow -/
structure Ext (a : Addr) (H G H' G' : Hp) : Prop where
  old : ∀ b o, b ≠ a → H b = some o → H' b = some o
  hand : H' a ≠ none
  up : Same G G'
  sub : Same G' H'
  off : G' a = none
  new : ∀ b o, G' b = some o → G b = some o ∨ H b = none
section
variable {a : Addr} {H G H1 G1 H2 G2 : Hp}
theorem Ext.refl (ha : H a ≠ none) (s : Same G H) (o : G a = none) : Ext a H G H G :=
  ⟨fun _ _ _ h => h, ha, Same.refl _, s, o, fun _ _ h => .inl h⟩
theorem Ext.trans (x : Ext a H G H1 G1) (y : Ext a H1 G1 H2 G2) : Ext a H G H2 G2 where
  old := fun b o n h => y.old b o n (x.old b o n h)
  hand := y.hand
  up := x.up.trans y.up
  sub := y.sub
  off := y.off
  new := fun b o h => by
    rcases y.new b o h with z | z
    · exact x.new b o z
    · right
      by_cases hb : b = a
      · rw [hb, y.off] at h
        cases h
      · cases e : H b with
        | none => rfl
        | some u => rw [x.old b u hb e] at z; cases z
theorem Ext.ha {o : HO} (x : Ext a H G H1 G1) (h : H a = some o) : a = a := rfl
/-- a new thing among the data -/
theorem Ext.mk_ {p : Addr} {o : HO} (x : Ext a H G H1 G1) (n : H1 p = none) : Ext a H G (upd H1 p o) (upd G1 p o) where
  old := fun b u hb h => by
    have e := x.old b u hb h
    rw [upd_ne (ne_of_none e n)]
    exact e
  hand := by
    have z : a ≠ p := fun z => x.hand (by rw [z]; exact n)
    rw [upd_ne z]
    exact x.hand
  up := fun b u h => by
    have e := x.up b u h
    rw [upd_ne (ne_of_none (x.sub _ _ e) n)]
    exact e
  sub := fun b u h => by
    by_cases hb : b = p
    · rw [hb, upd_same] at h ⊢
      exact h
    · rw [upd_ne hb] at h ⊢
      exact x.sub _ _ h
  off := by
    have z : a ≠ p := fun z => x.hand (by rw [z]; exact n)
    rw [upd_ne z]
    exact x.off
  new := fun b u h => by
    by_cases hb : b = p
    · right
      rw [hb]
      cases e : H p with
      | none => rfl
      | some w =>
        by_cases ha : p = a
        · exact absurd n (by rw [ha]; exact x.hand)
        · rw [x.old p w ha e] at n; cases n
    · rw [upd_ne hb] at h
      exact x.new b u h
/-- a new thing beside the data -/
theorem Ext.mk0 {p : Addr} {o : HO} (x : Ext a H G H1 G1) (n : H1 p = none) : Ext a H G (upd H1 p o) G1 where
  old := fun b u hb h => by
    have e := x.old b u hb h
    rw [upd_ne (ne_of_none e n)]
    exact e
  hand := by
    have z : a ≠ p := fun z => x.hand (by rw [z]; exact n)
    rw [upd_ne z]
    exact x.hand
  up := x.up
  sub := fun b u h => by
    rw [upd_ne (ne_of_none (x.sub _ _ h) n)]
    exact x.sub _ _ h
  off := x.off
  new := x.new
/-- a list of one's own grows -/
theorem Ext.put {p : Addr} {o : HO} (x : Ext a H G H1 G1) (n : H p = none) (g : G1 p = none) (pa : p ≠ a) : Ext a H G (upd H1 p o) G1 where
  old := fun b u hb h => by
    rw [upd_ne (ne_of_none h n)]
    exact x.old b u hb h
  hand := by
    rw [upd_ne (Ne.symm pa)]
    exact x.hand
  up := x.up
  sub := fun b u h => by
    rw [upd_ne (ne_of_none h g)]
    exact x.sub _ _ h
  off := x.off
  new := x.new
/-- .. and is among the data at last -/
theorem Ext.ice {p : Addr} {o : HO} (x : Ext a H G H1 G1) (n : H p = none) (h1 : H1 p = some o) (g : G1 p = none) (pa : p ≠ a) : Ext a H G H1 (upd G1 p o) where
  old := x.old
  hand := x.hand
  up := fun b u h => by
    have e := x.up b u h
    rw [upd_ne (ne_of_none e g)]
    exact e
  sub := fun b u h => by
    by_cases hb : b = p
    · rw [hb, upd_same] at h
      rw [hb, h1]
      exact h
    · rw [upd_ne hb] at h
      exact x.sub _ _ h
  off := by
    rw [upd_ne (Ne.symm pa)]
    exact x.off
  new := fun b u h => by
    by_cases hb : b = p
    · right
      rw [hb]
      exact n
    · rw [upd_ne hb] at h
      exact x.new b u h
/-- what changes nothing that stands -/
theorem Ext.pure (x : Ext a H G H1 G1) (s : Same H1 H2) : Ext a H G H2 G1 where
  old := fun b u hb h => s _ _ (x.old b u hb h)
  hand := fun z => by
    cases e : H1 a with
    | none => exact x.hand e
    | some u => rw [s _ _ e] at z; cases z
  up := x.up
  sub := x.sub.trans s
  off := x.off
  new := x.new
theorem Ext.draw {l : List V} (x : Ext a H G H1 G1) : Ext a H G (upd H1 a (.lst l)) G1 where
  old := fun b u hb h => by
    rw [upd_ne hb]
    exact x.old b u hb h
  hand := by
    rw [upd_same]
    intro z
    cases z
  up := x.up
  sub := fun b u h => by
    rw [upd_ne (ne_of_none h x.off)]
    exact x.sub _ _ h
  off := x.off
  new := x.new
/-- what is not among the data and stands, stays so -/
theorem Ext.stays {D : Addr} {o : HO} (x : Ext a H G H1 G1) (hD : H D = some o) (gD : G D = none) (da : D ≠ a) : H1 D = some o ∧ G1 D = none := by
  refine ⟨x.old _ _ da hD, ?_⟩
  cases e : G1 D with
  | none => rfl
  | some u =>
    rcases x.new D u e with z | z
    · rw [gD] at z; cases z
    · rw [hD] at z; cases z
end
end My
set_option Elab.async false
set_option linter.all false
set_option maxRecDepth 100000
set_option maxHeartbeats 4000000
namespace My
open PySem PySem.Spec PyProof.Rows L2
section
variable {P : Program} {w : World} {K : PySem.W.Frag} {mg : Str → Option Value} {base : Heap}
/-! ### widths, stores -/
theorem sc_is_whole : FnScope ["thing", "low", "high"] ["thing", "low", "high"] (defScope (topS 8)) := ⟨rfl, rfl, rfl, by decide +kernel, rfl, by decide +kernel, by decide +kernel⟩
theorem ok_is_whole {f : Addr} {fd : FuncData} {dvs : List V} (F : FunD K "is_whole" "is_whole" (defArgs (topS 8)) (defBody (topS 8)) (defScope (topS 8)) dvs [] f fd) (m_isinstance : mg "isinstance" = none) (m_int : mg "int" = none) (m_bool : mg "bool" = none) : FnOk P w K mg base CX0 1 f fd ["thing", "low", "high"] (spWhole K) := by
  refine F.ok sc_is_whole (fun vs H Q E h => ?_) (fun cdv A outer s H vs Q E hr h => ?_)
  · obtain ⟨x, t, l, h, rfl, _⟩ := h
    rfl
  · obtain ⟨x, t, l, h, rfl, ty, k⟩ := h
    refine ⟨_, PSs.nox ((pss_cons (ps_if (PW.pt (pw_or (pt_not (pt_val (pe_callB call_isi (by rfl) m_isinstance (by decide +kernel) (pa_cons (pv 0) (pa_cons (pe_bltn (v := .ty "int") (by rfl) m_int (by decide +kernel) rfl) pa_nil))))) (pw_or1 (pt_val (pe_callB call_isi (by rfl) m_isinstance (by decide +kernel) (pa_cons (pv 0) (pa_cons (pe_bltn (v := .ty "bool") (by rfl) m_bool (by decide +kernel) rfl) pa_nil))))))) (pss_one (ps_ret pe_bl)) pss_nil)
      (pss_one (ps_ret (pe_and (pe_or (pe_cmpR op_isN (pv 1) pe_non (nomark _)) (pe_one (pe_cmpR op_ge (pv 0) (pv 1) (nomark _)))) (pe_one (pe_or (pe_cmpR op_isN (pv 2) pe_non (nomark _)) (pe_one (pe_cmpR op_le (pv 0) (pv 2) (nomark _)))))))))), ?_⟩
    refine ⟨_, rfl, x, .ty "int", _, _, _, rfl, .ty _, .base ty, kit_int ty, _, rfl, ?_⟩
    have kb := kit_bool ty
    cases ty with
    | int i =>
      refine iteF ⟨_, rfl, _, .ty "bool", _, _, _, rfl, .ty _, .base (.int i), kb, _, rfl, iteF ?_⟩
      have e : wholeV (.int i) l h = (loOk i l && hiOk i h) := rfl
      rw [e] at k
      have last : (hiOk i h = true → Q (.bl true) H) → (hiOk i h = false → Q (.bl false) H) → tOrV (tOp (fun x y H Q => y = .non ∧ Q (.bl (decide (x = .non))) H) (tVar 2) (tC .non)) (tOp (rI0 fun i j => .bl (decide (i ≤ j))) (tVar 0) (tVar 2)) (start ["thing", "low", "high"] [.int i, optV l, optV h]) H Q := fun k1 k2 => by
        cases h with
        | none => exact ⟨_, rfl, rfl, _, rfl, k1 rfl⟩
        | some z =>
          refine ⟨_, rfl, rfl, _, rfl, ⟨_, rfl, _, rfl, _, _, rfl, rfl, ?_⟩⟩
          by_cases hz : i ≤ z
          · show Q (.bl (decide (i ≤ z))) H
            rw [decide_eq_true hz]
            exact k1 (decide_eq_true hz)
          · show Q (.bl (decide (i ≤ z))) H
            rw [decide_eq_false hz]
            exact k2 (decide_eq_false hz)
      cases l with
      | none =>
        refine ⟨_, rfl, rfl, _, rfl, _, rfl, last (fun z => ?_) (fun z => ?_)⟩ <;> (rw [z] at k; exact k)
      | some z =>
        refine ⟨_, rfl, rfl, _, rfl, ⟨_, rfl, _, rfl, _, _, rfl, rfl, _, rfl, ite2 (fun q => ?_) (fun q => ?_)⟩⟩
        · have hz : z ≤ i := of_decide_eq_true q
          rw [show loOk i (some z) = true from decide_eq_true hz, Bool.true_and] at k
          exact last (fun q => by rw [q] at k; exact k) (fun q => by rw [q] at k; exact k)
        · have hz : ¬ z ≤ i := fun y => q (decide_eq_true y)
          rw [show loOk i (some z) = false from decide_eq_false hz, Bool.false_and] at k
          exact k
    | bl b => exact iteF ⟨_, rfl, _, .ty "bool", _, _, _, rfl, .ty _, .base (.bl b), kb, _, rfl, iteT k⟩
    | _ => exact iteT k
end
end My
set_option Elab.async false
set_option linter.all false
set_option maxRecDepth 100000
set_option maxHeartbeats 4000000
namespace My
open PySem PySem.Spec PyProof.Rows L2
section
variable {P : Program} {w : World} {K : PySem.W.Frag} {mg : Str → Option Value} {base : Heap}
theorem sc_is_sequence : FnScope ["thing"] ["thing"] (defScope (topS 9)) := ⟨rfl, rfl, rfl, by decide +kernel, rfl, by decide +kernel, by decide +kernel⟩
theorem ok_is_sequence {f : Addr} {fd : FuncData} (F : Fun K "is_sequence" "is_sequence" (topS 9) f fd) (m_isinstance : mg "isinstance" = none) (m_list : mg "list" = none) (m_tuple : mg "tuple" = none) : FnOk P w K mg base CX0 1 f fd ["thing"] (spSeq K) := by
  refine F.ok sc_is_sequence (fun vs H Q E h => ?_) (fun cdv A outer s H vs Q E hr h => ?_)
  · obtain ⟨x, t, rfl, _⟩ := h
    rfl
  · obtain ⟨x, t, rfl, ty, k⟩ := h
    refine ⟨_, (pss_one (ps_ret (pe_callB call_isiT (by rfl) m_isinstance (by decide +kernel) (pa_cons (pv 0) (pa_cons (pe_tup (pa_cons (pe_bltn (v := .ty "list") (by rfl) m_list (by decide +kernel) rfl) (pa_cons (pe_bltn (v := .ty "tuple") (by rfl) m_tuple (by decide +kernel) rfl) pa_nil))) pa_nil))))), ?_⟩
    refine ⟨_, rfl, (by show 2 ≤ sizeLine; decide), fun p np => ⟨x, p, _, _, _, _, rfl, upd_same, .cons (.ty "list") (.cons (.ty "tuple") .nil), .base (TyOf.keep ty (same_upd np)), kit_seq ty, k _ (same_upd np)⟩⟩
theorem sc_is_value : FnScope ["thing"] ["thing"] (defScope (topS 14)) := ⟨rfl, rfl, rfl, by decide +kernel, rfl, by decide +kernel, by decide +kernel⟩
theorem ok_is_value {f : Addr} {fd : FuncData} (F : Fun K "is_value" "is_value" (topS 14) f fd) (cw : Cal P w K mg base 1 "is_whole" (spWhole K)) (gv : ∃ u, mg "GREATEST_VALUE" = some u ∧ RelV (.int 1000000000) u) : FnOk P w K mg base CX0 2 f fd ["thing"] (spValue K) := by
  refine F.ok sc_is_value (fun vs H Q E h => ?_) (fun cdv A outer s H vs Q E hr h => ?_)
  · obtain ⟨x, t, rfl, _⟩ := h
    rfl
  · obtain ⟨x, t, rfl, ty, k⟩ := h
    refine ⟨_, (pss_one (ps_ret (pe_c (cw) hr (by decide) rfl (pa_cons (pv 0) (pa_cons pe_int (pa_cons (C8.pe_gc rfl gv) pa_nil)))))), ?_⟩
    exact ⟨_, rfl, x, t, some 0, some 1000000000, rfl, ty, k⟩
end
end My
set_option Elab.async false
set_option linter.all false
set_option maxRecDepth 100000
set_option maxHeartbeats 4000000
namespace My
open PySem PySem.Spec PyProof.Rows L2
/-- __init__ of an error whose fields are kept as they come -/
def spErrF (K : PySem.W.Frag) (C : Addr) (fs : List Str) : Sp := fun vs H Q _ => ∃ (a : Addr) (xs : List V), vs = .ref a :: xs ∧ xs.length = fs.length ∧ H a = some (exo a C none) ∧
  ∀ (dx : Addr) (H' : Hp), H dx = none → dx ≠ a → (∀ b o, H b = some o → b ≠ a → H' b = some o) → H' a = some (exo a C (some dx)) → H' dx = some (exd dx (fs.zip xs).reverse) → Q .non H'
def spDE (K : PySem.W.Frag) : Sp := fun vs H Q _ => ∃ (a C : Addr) (x : V), vs = [.ref a, x] ∧ OexC K C ∧ H a = some (exo a C none) ∧ Q .non H
/-- an error of the program's own, its name x, with these fields -/
structure ErrF (P : Program) (w : World) (K : PySem.W.Frag) (mg : Str → Option Value) (base : Heap) (x : Str) (C : Addr) (fs : List Str) : Prop where
  t : ExT K C
  xf : XfC K C
  nf : ∀ f ∈ fs, PySem.W.findIn K (.ref C) f = some none
  gx : mg x = some (.ref C)
  ex : ∃ (fI : Addr) (fd : FuncData) (ps : List Str), FnOk P w K mg base CX0 2 fI fd ps (spErrF K C fs) ∧ PySem.W.findIn K (.ref C) "__init__" = some (some (.ref fI)) ∧ PySem.W.typeIn K (.ref fI) = some (.type "function") ∧ Binds K fd ps []
/-- what a raise of it asks: the fields' values; what it gives: the class, its dict -/
def rErrF (C : Addr) (fs : List Str) (vs : List V) (H1 : Hp) (Q : XK) : Prop := vs.length = fs.length ∧ vs.length ≤ 1000 ∧
  ∀ (dd : Addr) (H' : Hp), Same H1 H' → H1 dd = none → H' dd = some (.xd (fs.zip vs).reverse) → Q (.ref C) (some dd) H'
theorem pmk_errF {X : Cx} {x : Str} {C : Addr} {fs : List Str} {e : Expr} {es : List Expr} {ta : TA} {j : Nat} {p pos : Pos} (R : ErrF X.prog X.w X.K X.mg X.base x C fs) (hr : Room j X.A) (hj : 3 ≤ j) (hg : Gl X x) (ha : PA X (e :: es) ta)
    (h0 : (x == ("__debug__" : Str)) = false := by decide) (h1 : starEach (e :: es) X.env = (false, eval e X.env) :: starEach es X.env := by rfl) (h2 : (backTo pos (starEach es X.env)).any (·.1) = false := by rfl) :
    L2N.PMk X (.Call (.Name x p) (e :: es) [] pos) (fun σ H Q => ta σ H fun vs H1 => rErrF C fs vs H1 Q) := by
  obtain ⟨fI, fd, ps, F, iC, tI, b⟩ := R.ex
  refine pmk_oexN (fun vs H1 Q h => ?_) R.t.o iC tI F (hr.mono hj) b pass0 hg R.gx ha h0 h1 h2
  obtain ⟨hl, few, q⟩ := h
  refine ⟨few, fun a na => ⟨a, vs, rfl, hl, upd_same, fun dx H' nd nda kp ea ed => ?_⟩⟩
  have nd1 : H1 dx = none := by
    rw [upd_ne nda] at nd
    exact nd
  refine ⟨rfl, dx, _, ea, ed, nd1, q dx _ (fun b o e => ?_) nd1 upd_same⟩
  have nb : b ≠ a := ne_of_none e na
  rw [upd_ne (ne_of_none e nd1), del_ne nb]
  exact kp b o (by rw [upd_ne nb]; exact e) nb
section
variable {P : Program} {w : World} {K : PySem.W.Frag} {mg : Str → Option Value} {base : Heap}
structure DEf (P : Program) (w : World) (K : PySem.W.Frag) (mg : Str → Option Value) (base : Heap) : Prop where
  ex : ∃ (D f : Addr) (fd : FuncData) (ps : List Str) (mc : Value), ClX.CRead K D mc ∧ PySem.W.findCls K (.ref D) mc "__init__" = some (.val (.ref f)) ∧ FnOk P w K mg base CX0 1 f fd ps (spDE K) ∧ PySem.W.keepIn K (.ref f) = true ∧ Binds K fd ps [] ∧ mg "DealError" = some (.ref D)
theorem scDE : FnScope ["self", "message"] ["self", "message"] (defScope (inClass (topS 1) 0)) := ⟨rfl, rfl, rfl, by decide +kernel, rfl, by decide +kernel, by decide +kernel⟩
theorem ok_DE {f : Addr} {fd : FuncData} {dvs : List V} (F : FunD K "__init__" "DealError.__init__" (defArgs (inClass (topS 1) 0)) (defBody (inClass (topS 1) 0)) (defScope (inClass (topS 1) 0)) dvs [] f fd) (mV : mg "ValueError" = none) (vV : PySem.W.findCls K (.type "ValueError") (.type "type") "__init__" = some (.val (.builtin "ValueError.__init__"))) : FnOk P w K mg base CX0 1 f fd ["self", "message"] (spDE K) := by
  refine F.ok scDE (fun vs H Q E h => ?_) (fun cdv A outer s H vs Q E hr h => ?_)
  · obtain ⟨a, C, x, rfl, _⟩ := h
    rfl
  · obtain ⟨a, C, x, rfl, T, ha, k⟩ := h
    refine ⟨_, PSs.nox (pss_one (ps_expr (pe_veinit (by rfl) mV vV (pa_cons (pv 0) (pa_cons (pv 1) pa_nil))))), ?_⟩
    exact ⟨_, rfl, _, rfl, a, C, _, rfl, (by show 1 ≤ 1000; decide), T, ha, k⟩
theorem sc_BadWidths : FnScope ["self", "index"] ["self", "index"] (defScope (inClass (topS 2) 0)) := ⟨rfl, rfl, rfl, by decide +kernel, rfl, by decide +kernel, by decide +kernel⟩
theorem ok_BadWidths {f C : Addr} {fd : FuncData} (F : Fun K "__init__" "BadWidths.__init__" (inClass (topS 2) 0) f fd) (D : DEf P w K mg base) (T : ExT K C) (nf : ∀ f ∈ (["index"] : List Str), PySem.W.findIn K (.ref C) f = some none) : FnOk P w K mg base CX0 2 f fd ["self", "index"] (spErrF K C ["index"]) := by
  obtain ⟨D, fD, fdD, psD, mc, rd, fc, FD, kpD, bD, gD⟩ := D.ex
  refine F.ok sc_BadWidths (fun vs H Q E h => ?_) (fun cdv A outer s H vs Q E hr h => ?_)
  · obtain ⟨a, xs, rfl, hl, _⟩ := h
    rw [List.length_cons, hl]
    rfl
  · obtain ⟨a, xs, rfl, hl, ha, q⟩ := h
    match xs, hl with
    | [x], _ =>
    refine ⟨_, pss_cons (ps_expr (pe_clsfn rd fc FD hr (by decide) kpD bD (by rfl) gD (pa_cons (pv 0) (pa_cons pe_str pa_nil)))) (pss_one (ps_ost (pv 0) (pv 1))), ?_⟩
    refine ⟨_, rfl, a, C, _, rfl, T.o, ha, ?_⟩
    refine ⟨_, rfl, _, rfl, a, C, rfl, T.o, nf _ (by simp), .inl ⟨ha, fun dx nd ne => ?_⟩⟩
    exact q dx _ nd ne (fun b o e hb => by rw [upd_ne hb, upd_ne (ne_of_none e nd)]; exact e) upd_same (by rw [upd_ne ne, upd_same]; rfl)
theorem sc_BadQuestion : FnScope ["self", "what", "index"] ["self", "what", "index"] (defScope (inClass (topS 3) 0)) := ⟨rfl, rfl, rfl, by decide +kernel, rfl, by decide +kernel, by decide +kernel⟩
theorem ok_BadQuestion {f C : Addr} {fd : FuncData} (F : Fun K "__init__" "BadQuestion.__init__" (inClass (topS 3) 0) f fd) (D : DEf P w K mg base) (T : ExT K C) (nf : ∀ f ∈ (["what", "index"] : List Str), PySem.W.findIn K (.ref C) f = some none) : FnOk P w K mg base CX0 2 f fd ["self", "what", "index"] (spErrF K C ["what", "index"]) := by
  obtain ⟨D, fD, fdD, psD, mc, rd, fc, FD, kpD, bD, gD⟩ := D.ex
  refine F.ok sc_BadQuestion (fun vs H Q E h => ?_) (fun cdv A outer s H vs Q E hr h => ?_)
  · obtain ⟨a, xs, rfl, hl, _⟩ := h
    rw [List.length_cons, hl]
    rfl
  · obtain ⟨a, xs, rfl, hl, ha, q⟩ := h
    match xs, hl with
    | [x, y], _ =>
    refine ⟨_, pss_cons (ps_expr (pe_clsfn rd fc FD hr (by decide) kpD bD (by rfl) gD (pa_cons (pv 0) (pa_cons pe_str pa_nil)))) (pss_cons (ps_ost (pv 0) (pv 1)) (pss_one (ps_ost (pv 0) (pv 2)))), ?_⟩
    refine ⟨_, rfl, a, C, _, rfl, T.o, ha, ?_⟩
    refine ⟨_, rfl, _, rfl, a, C, rfl, T.o, nf _ (by simp), .inl ⟨ha, fun dx nd ne => ?_⟩⟩
    refine ⟨_, rfl, _, rfl, a, C, rfl, T.o, nf _ (by simp), .inr ⟨dx, _, upd_same, by rw [upd_ne ne, upd_same], (by show 1 ≤ 900; decide), ?_⟩⟩
    exact q dx _ nd ne (fun b o e hb => by rw [upd_ne (ne_of_none e nd), upd_ne hb, upd_ne (ne_of_none e nd)]; exact e) (by rw [upd_ne (Ne.symm ne)]; exact upd_same) upd_same
theorem sc_BadUnion : FnScope ["self", "what", "index"] ["self", "what", "index"] (defScope (inClass (topS 4) 0)) := ⟨rfl, rfl, rfl, by decide +kernel, rfl, by decide +kernel, by decide +kernel⟩
theorem ok_BadUnion {f C : Addr} {fd : FuncData} (F : Fun K "__init__" "BadUnion.__init__" (inClass (topS 4) 0) f fd) (D : DEf P w K mg base) (T : ExT K C) (nf : ∀ f ∈ (["what", "index"] : List Str), PySem.W.findIn K (.ref C) f = some none) : FnOk P w K mg base CX0 2 f fd ["self", "what", "index"] (spErrF K C ["what", "index"]) := by
  obtain ⟨D, fD, fdD, psD, mc, rd, fc, FD, kpD, bD, gD⟩ := D.ex
  refine F.ok sc_BadUnion (fun vs H Q E h => ?_) (fun cdv A outer s H vs Q E hr h => ?_)
  · obtain ⟨a, xs, rfl, hl, _⟩ := h
    rw [List.length_cons, hl]
    rfl
  · obtain ⟨a, xs, rfl, hl, ha, q⟩ := h
    match xs, hl with
    | [x, y], _ =>
    refine ⟨_, pss_cons (ps_expr (pe_clsfn rd fc FD hr (by decide) kpD bD (by rfl) gD (pa_cons (pv 0) (pa_cons pe_str pa_nil)))) (pss_cons (ps_ost (pv 0) (pv 1)) (pss_one (ps_ost (pv 0) (pv 2)))), ?_⟩
    refine ⟨_, rfl, a, C, _, rfl, T.o, ha, ?_⟩
    refine ⟨_, rfl, _, rfl, a, C, rfl, T.o, nf _ (by simp), .inl ⟨ha, fun dx nd ne => ?_⟩⟩
    refine ⟨_, rfl, _, rfl, a, C, rfl, T.o, nf _ (by simp), .inr ⟨dx, _, upd_same, by rw [upd_ne ne, upd_same], (by show 1 ≤ 900; decide), ?_⟩⟩
    exact q dx _ nd ne (fun b o e hb => by rw [upd_ne (ne_of_none e nd), upd_ne hb, upd_ne (ne_of_none e nd)]; exact e) (by rw [upd_ne (Ne.symm ne)]; exact upd_same) upd_same
end
end My
set_option Elab.async false
set_option linter.all false
set_option maxRecDepth 100000
set_option maxHeartbeats 4000000
namespace My
open PySem PySem.Spec PyProof.Rows L2

/-- a def that may be called by its name and may raise -/
structure CalX (P : Program) (w : World) (K : PySem.W.Frag) (mg : Str → Option Value) (base : Heap) (k : Nat) (x : Str) (sp : Sp) : Prop where
  ex : ∃ (f : Addr) (fd : FuncData) (ps : List Str), FnOk P w K mg base (L2N.CX P w) k f fd ps sp ∧ mg x = some (.ref f) ∧ PySem.W.keepIn K (.ref f) = true ∧ Binds K fd ps []
theorem pe_cX {X : Cx} {k j : Nat} {x : Str} {sp : Sp} {W : WX} {p pos : Pos} {e : Expr} {es : List Expr} {t : TA} (c : CalX X.prog X.w X.K X.mg X.base k x sp) (tk : L2N.Takes X W) (hr : Room j X.A) (hk : k ≤ j) (hg : Gl X x) (ha : PA X (e :: es) t)
    (d1 : (x == ("__debug__" : Str)) = false := by decide) (d2 : starEach (e :: es) X.env = (false, eval e X.env) :: starEach es X.env := by rfl) (d3 : (backTo pos (starEach es X.env)).any (·.1) = false := by rfl) :
    PE X (.Call (.Name x p) (e :: es) [] pos) (tCallSD sp [] (WE W) t) := by
  obtain ⟨f, fd, ps, F, gx, kp, b⟩ := c.ex
  exact pe_callSD F (hr.mono hk) hg gx kp b .nil (fun σ => L2N.passAt tk σ) ha d1 d2 d3
/-! an item of a list or of a tuple -/
def rIxV (K : PySem.W.Frag) : R2 := fun x y H Q => rIxL K x y H Q ∨ rIxT K x y H Q
theorem ix_seq {X : Cx} : IxR X (rIxV X.K) := IxR.or ix_list ix_tup
theorem rd_ix {K : PySem.W.Frag} {H : Hp} {Q : VK} {p : Addr} {xs : List V} {i : Int} {v : V} (h : SqV K H p xs) (e : atI xs i = some v) (q : Q v H) : rIxV K (.ref p) (.int i) H Q :=
  h.elim (fun h => .inl ⟨p, xs, i, v, rfl, rfl, h, e, q⟩) fun h => .inr ⟨p, xs, i, v, rfl, rfl, h, e, q⟩
def optS : Option Str → V
  | none => .non
  | some s => .str s
/-! what the program finds in a thing -/
def lenIn (l h : Int) (d : PyData) : Bool := match seqOf d with
  | some ds => decide (l ≤ (ds.length : Int)) && decide ((ds.length : Int) ≤ h)
  | none => false
def itemsD (d : PyData) : List PyData := (seqOf d).getD []
def itemD (d : PyData) (i : Nat) : PyData := (itemsD d).getD i .none
def tabD : PyData → Int
  | .int i => i
  | _ => 0
def placeD (ws : List Int) (d : PyData) : Option Str :=
  if !(lenIn 2 2 d && (intD (itemD d 0) && (seqOf (itemD d 1)).isSome)) then some ("row" : Str)
  else if !wholeD 0 ((ws.length : Int) - 1) (itemD d 0) then some ("table" : Str)
  else if ((itemsD (itemD d 1)).length : Int) ≠ ws.getD (tabD (itemD d 0)).toNat 0 then some ("width" : Str) else none
theorem itemsD_some {d : PyData} {ds : List PyData} (e : seqOf d = some ds) : itemsD d = ds := by
  unfold itemsD
  rw [e]
  rfl
theorem Dq.item {H : Hp} {x : V} {d : PyData} {ds : List PyData} {i : Nat} (h : Dq H x d) (e : seqOf d = some ds) (hi : i < ds.length) : ∃ a xs y, x = .ref a ∧ (H a = some (.lst xs) ∨ H a = some (.tup xs)) ∧ xs.length = ds.length ∧ atI xs (i : Int) = some y ∧ Dq H y (itemD d i) := by
  obtain ⟨a, xs, rfl, hs, hall⟩ := h.seq e
  obtain ⟨y, ey, hy⟩ := hall.getD (List.getElem?_eq_getElem hi)
  refine ⟨a, xs, y, rfl, hs, hall.len, atI_nat ey, ?_⟩
  unfold itemD
  rw [itemsD_some e, List.getD_eq_getElem?_getD, List.getElem?_eq_getElem hi]
  exact hy
def spSeqOf (K : PySem.W.Frag) : Sp := fun vs H Q _ => ∃ (x : V) (d : PyData) (l g : Int), vs = [x, .int l, .int g] ∧ Dq H x d ∧ ∀ H', Same H H' → Q (.bl (lenIn l g d)) H'
def spCouple (K : PySem.W.Frag) : Sp := fun vs H Q _ => ∃ (x : V) (d : PyData), vs = [x] ∧ Dq H x d ∧ ∀ H', Same H H' → Q (.bl (lenIn 2 2 d)) H'
def spPlaceF (K : PySem.W.Frag) : Sp := fun vs H Q _ => ∃ (p : Addr) (ws : List Int) (x : V) (d : PyData), vs = [.ref p, x] ∧ SqT K H p (ws.map V.int) ∧ Dq H x d ∧ ∀ H', Same H H' → Q (optS (placeD ws d)) H'
section
variable {P : Program} {w : World} {K : PySem.W.Frag} {mg : Str → Option Value} {base : Heap}
theorem sc_is_sequence_of : FnScope ["thing", "low", "high"] ["thing", "low", "high"] (defScope (topS 10)) := ⟨rfl, rfl, rfl, by decide +kernel, rfl, by decide +kernel, by decide +kernel⟩
theorem ok_is_sequence_of {f : Addr} {fd : FuncData} (F : L2.Fun K "is_sequence_of" "is_sequence_of" (topS 10) f fd) (cq : Cal P w K mg base 1 "is_sequence" (spSeq K)) (m_len : mg "len" = none) : FnOk P w K mg base CX0 2 f fd ["thing", "low", "high"] (spSeqOf K) := by
  refine F.ok sc_is_sequence_of (fun vs H Q E h => ?_) (fun cdv A outer s0 H vs Q E hr h => ?_)
  · obtain ⟨x, d, l, g, rfl, _⟩ := h
    rfl
  · obtain ⟨x, d, l, g, rfl, hd, q⟩ := h
    refine ⟨_, (pss_one (ps_ret (pe_and (pe_c cq hr (by decide) rfl (pa_cons (pv 0) pa_nil)) (pe_one (pe_chain op_le op_le (pv 1) (pe_callB call_len_seq (by rfl) m_len PySem.boot_len (pa_cons (pv 0) pa_nil)) (pv 2)))))), ?_⟩
    refine ⟨_, rfl, x, _, rfl, hd.ty, fun H1 s1 => ?_⟩
    rw [seqT_d]
    cases e : seqOf d with
    | none =>
      refine ⟨false, rfl, iteF ?_⟩
      have z : lenIn l g d = false := by unfold lenIn; rw [e]
      rw [z] at q
      exact q H1 s1
    | some ds =>
      refine ⟨true, rfl, iteT ?_⟩
      obtain ⟨a, xs, rfl, hs, hall⟩ := (hd.keep s1).seq e
      have hl := hall.len
      have z : lenIn l g d = (decide (l ≤ (ds.length : Int)) && decide ((ds.length : Int) ≤ g)) := by unfold lenIn; rw [e]
      rw [z] at q
      refine ⟨_, rfl, _, rfl, a, xs, rfl, sqv_of hs, _, _, rfl, rfl, _, rfl, ?_⟩
      rw [hl]
      by_cases h1 : l ≤ (ds.length : Int)
      · rw [decide_eq_true h1] at q ⊢
        refine iteT ⟨_, rfl, _, _, rfl, rfl, ?_⟩
        rw [Bool.true_and] at q
        exact q H1 s1
      · rw [decide_eq_false h1] at q ⊢
        exact iteF (q H1 s1)
theorem sc_is_couple : FnScope ["thing"] ["thing"] (defScope (topS 15)) := ⟨rfl, rfl, rfl, by decide +kernel, rfl, by decide +kernel, by decide +kernel⟩
theorem ok_is_couple {f : Addr} {fd : FuncData} (F : L2.Fun K "is_couple" "is_couple" (topS 15) f fd) (cs : Cal P w K mg base 2 "is_sequence_of" (spSeqOf K)) : FnOk P w K mg base CX0 3 f fd ["thing"] (spCouple K) := by
  refine F.ok sc_is_couple (fun vs H Q E h => ?_) (fun cdv A outer s0 H vs Q E hr h => ?_)
  · obtain ⟨x, d, rfl, _⟩ := h
    rfl
  · obtain ⟨x, d, rfl, hd, q⟩ := h
    refine ⟨_, (pss_one (ps_ret (pe_c cs hr (by decide) rfl (pa_cons (pv 0) (pa_cons pe_int (pa_cons pe_int pa_nil)))))), ?_⟩
    exact ⟨_, rfl, x, d, 2, 2, rfl, hd, q⟩
theorem sc_fault_of_place : FnScope ["widths", "thing"] ["widths", "thing"] (defScope (topS 16)) := ⟨rfl, rfl, rfl, by decide +kernel, rfl, by decide +kernel, by decide +kernel⟩
theorem ok_fault_of_place {f : Addr} {fd : FuncData} (F : L2.Fun K "fault_of_place" "fault_of_place" (topS 16) f fd) (cc : Cal P w K mg base 3 "is_couple" (spCouple K)) (cq : Cal P w K mg base 1 "is_sequence" (spSeq K)) (cw : Cal P w K mg base 1 "is_whole" (spWhole K)) (cw1 : C8.Cal P w K mg base 1 "is_whole" (spWhole K) [.non, .non]) (m_len : mg "len" = none) : FnOk P w K mg base CX0 4 f fd ["widths", "thing"] (spPlaceF K) := by
  refine F.ok sc_fault_of_place (fun vs H Q E h => ?_) (fun cdv A outer s0 H vs Q E hr h => ?_)
  · obtain ⟨p, ws, x, d, rfl, _⟩ := h
    rfl
  · obtain ⟨p, ws, x, d, rfl, hp, hd, q⟩ := h
    refine ⟨_, (pss_cons (ps_if (PW.pt (pw_or (pt_not (pt_val (pe_c cc hr (by decide) rfl (pa_cons (pv 1) pa_nil)))) (pw_or (pt_not (pt_val (C8.pe_c cw1 hr (by decide) rfl (pa_cons (pe_ix ix_seq (pv 1) pe_int (fun _ _ => rfl)) pa_nil)))) (pw_or1 (pt_not (pt_val (pe_c cq hr (by decide) rfl (pa_cons (pe_ix ix_seq (pv 1) pe_int (fun _ _ => rfl)) pa_nil)))))))) (pss_one (ps_ret pe_str)) pss_nil)
      (pss_cons (ps_if (pt_not (pt_val (pe_c cw hr (by decide) rfl (pa_cons (pe_ix ix_seq (pv 1) pe_int (fun _ _ => rfl)) (pa_cons pe_int (pa_cons (pe_op op_sub (pe_callB call_len_seq (by rfl) m_len PySem.boot_len (pa_cons (pv 0) pa_nil)) pe_int) pa_nil)))))) (pss_one (ps_ret pe_str)) pss_nil)
      (pss_cons (ps_if (pt_cmpR op_ne (pe_callB call_len_seq (by rfl) m_len PySem.boot_len (pa_cons (pe_ix ix_seq (pv 1) pe_int (fun _ _ => rfl)) pa_nil)) (pe_ix ix_tup (pv 0) (pe_ix ix_seq (pv 1) pe_int (fun _ _ => rfl)) (fun _ _ => rfl)) (nomark _)) (pss_one (ps_ret pe_str)) pss_nil)
      (pss_one (ps_ret pe_non))))), ?_⟩
    have row : (lenIn 2 2 d && (intD (itemD d 0) && (seqOf (itemD d 1)).isSome)) = false → placeD ws d = some ("row" : Str) := fun z => by
      unfold placeD
      rw [z]
      rfl
    refine ⟨_, rfl, x, d, rfl, hd, fun H1 s1 => ⟨_, rfl, ?_⟩⟩
    cases hc : lenIn 2 2 d with
    | false =>
      rw [hc] at row
      rw [row rfl] at q
      exact iteT (iteT (q H1 s1))
    | true =>
      rw [hc, Bool.true_and] at row
      refine iteF ?_
      obtain ⟨ds, e, l2⟩ : ∃ ds, seqOf d = some ds ∧ ds.length = 2 := by
        unfold lenIn at hc
        cases e : seqOf d with
        | none => rw [e] at hc; cases hc
        | some ds =>
          rw [e] at hc
          have z := Bool.and_eq_true_iff.mp hc
          have z1 := of_decide_eq_true z.1
          have z2 := of_decide_eq_true z.2
          exact ⟨ds, rfl, by omega⟩
      obtain ⟨a, xs, t, rfl, hs, hl, et, ht⟩ := (hd.keep s1).item (i := 0) e (by omega)
      refine ⟨_, rfl, rd_ix (sqv_of hs) et ⟨t, _, none, none, rfl, ht.ty, _, rfl, ?_⟩⟩
      rw [ht.whole]
      cases hi : intD (itemD d 0) with
      | false =>
        rw [hi] at row
        rw [row rfl] at q
        exact iteT (iteT (q H1 s1))
      | true =>
        rw [hi, Bool.true_and] at row
        refine iteF ?_
        obtain ⟨a', xs', r, ea, hs', hl', er, hr'⟩ := (hd.keep s1).item (i := 1) e (by omega)
        cases ea
        refine ⟨_, rfl, rd_ix (sqv_of hs') er ⟨r, _, rfl, hr'.ty, fun H2 s2 => ⟨_, rfl, ?_⟩⟩⟩
        rw [seqT_d]
        cases hq : (seqOf (itemD d 1)).isSome with
        | false =>
          rw [hq] at row
          rw [row rfl] at q
          exact iteT (q H2 (s1.trans s2))
        | true =>
          refine iteF ?_
          have s12 := s1.trans s2
          obtain ⟨b, ys, t2, eb, hb, _, et2, ht2⟩ := (hd.keep s12).item (i := 0) e (by omega)
          cases eb
          have lw : (ws.map V.int).length = ws.length := List.length_map ..
          refine ⟨_, rfl, rd_ix (sqv_of hb) et2 ?_⟩
          refine ⟨_, rfl, p, _, rfl, .inr (seqT_keep hp s12), _, _, rfl, rfl, ?_⟩
          rw [lw]
          refine ⟨t2, _, some 0, some ((ws.length : Int) - 1), rfl, ht2.ty, _, rfl, ?_⟩
          rw [ht2.wholeB]
          have tab : wholeD 0 ((ws.length : Int) - 1) (itemD d 0) = false → placeD ws d = some ("table" : Str) := fun z => by
            unfold placeD
            rw [hc, hi, hq, z]
            rfl
          cases hw : wholeD 0 ((ws.length : Int) - 1) (itemD d 0) with
          | false =>
            rw [tab hw] at q
            exact iteT (q H2 s12)
          | true =>
            refine iteF ?_
            obtain ⟨i, ei, i0, i1⟩ : ∃ i : Int, itemD d 0 = .int i ∧ 0 ≤ i ∧ i ≤ (ws.length : Int) - 1 := by
              cases ed : itemD d 0 with
              | int i =>
                rw [ed] at hw
                have z := Bool.and_eq_true_iff.mp hw
                exact ⟨i, rfl, of_decide_eq_true z.1, of_decide_eq_true z.2⟩
              | _ => rw [ed] at hw; cases hw
            obtain ⟨rs, ers⟩ := Option.isSome_iff_exists.mp hq
            obtain ⟨b2, ys2, r2, eb2, hb2, _, er2, hr2⟩ := (hd.keep s12).item (i := 1) e (by omega)
            cases eb2
            obtain ⟨c, zs, rfl, hc2, hall⟩ := hr2.seq ers
            refine ⟨_, rfl, rd_ix (sqv_of hb2) er2 ⟨c, zs, rfl, sqv_of hc2, ?_⟩⟩
            rw [ei] at ht2
            cases ht2
            have iN : i.toNat < ws.length := by omega
            have ew : atI (ws.map V.int) i = some (.int (ws.getD i.toNat 0)) := by
              have z := atI_nat (xs := ws.map V.int) (j := i.toNat) (v := .int (ws.getD i.toNat 0)) (by rw [List.getElem?_map, List.getD_eq_getElem?_getD, List.getElem?_eq_getElem iN]; rfl)
              rw [← z]
              congr 1
              omega
            refine ⟨_, rfl, _, rfl, rd_ix (sqv_of hb) et2 ⟨p, _, i, _, rfl, rfl, seqT_keep hp s12, ew, ?_⟩⟩
            rw [hall.len]
            have fin : placeD ws d = if (rs.length : Int) ≠ ws.getD i.toNat 0 then some ("width" : Str) else none := by
              unfold placeD
              rw [hc, hi, hq, hw, ei, itemsD_some ers]
              rfl
            rw [fin] at q
            refine ⟨rfl, _, rfl, ?_⟩
            by_cases same : (rs.length : Int) = ws.getD i.toNat 0
            · rw [if_neg (fun z => z same)] at q
              rw [same]
              refine iteNS (by first | exact decide_eq_true rfl | simp) ?_
              exact q H2 s12
            · rw [if_pos same] at q
              have ne : ((!decide (V.int (rs.length : Int) = V.int (ws.getD i.toNat 0))) = true) := by
                rw [decide_eq_false (fun z => same (V.int.inj z))]
                rfl
              first | exact (if_pos ne).mpr (q H2 s12) | (rw [if_pos ne]; exact q H2 s12)
end
end My
set_option Elab.async false
set_option linter.all false
set_option maxRecDepth 100000
set_option maxHeartbeats 4000000
namespace My
open PySem PySem.Spec PyProof.Rows L2
/-! ### names -/
def eight : List Str := ["a", "b", "c", "d", "e", "f", "g", "h"]
def nameV : V → Bool
  | .str s => decide (s ∈ eight)
  | _ => false
/-- is_name(x), x of a built-in type that is known -/
def spName (K : PySem.W.Frag) : Sp := fun vs H Q _ => ∃ (x : V) (t : String), vs = [x] ∧ TyOf K H x (.type t) ∧ Q (.bl (nameV x)) H
theorem in_eight (s : Str) : inV (.str s) (eight.map V.str) = decide (s ∈ eight) := by
  have gen : ∀ l : List Str, inV (.str s) (l.map V.str) = decide (s ∈ l) := by
    intro l
    induction l with
    | nil => rfl
    | cons z r ih =>
      unfold inV at ih ⊢
      rw [List.map_cons, List.any_cons, ih]
      have e : eqV (.str z) (.str s) = decide (z = s) := by
        first | rfl | simp [eqV]
      rw [e]
      by_cases h : z = s
      · subst h
        simp
      · have h' : ¬ s = z := fun y => h y.symm
        simp [h, h']
  exact gen eight
/-- the names among things, each once, in the order in which they first come -/
def addN (l : List Str) (x : V) : List Str := match x with
  | .str s => if s ∈ eight ∧ s ∉ l then l ++ [s] else l
  | _ => l
def unlN (xs : List V) : List Str := xs.foldl addN []
def asKeys (l : List Str) : List (Key × V) := l.map fun s => (Sum.inr s, V.bl true)
theorem unlN_snoc (xs : List V) (x : V) : unlN (xs ++ [x]) = addN (unlN xs) x := by
  unfold unlN
  rw [List.foldl_append]
  rfl
theorem any_keys (l : List Str) (s : Str) : ((asKeys l).any fun kv => decide (kv.1 = Sum.inr s)) = decide (s ∈ l) := by
  induction l with
  | nil => rfl
  | cons z r ih =>
    show (decide ((Sum.inr z : Key) = Sum.inr s) || (asKeys r).any fun kv => decide (kv.1 = Sum.inr s)) = _
    rw [ih]
    by_cases h : z = s
    · subst h
      simp
    · have h1 : ¬ (Sum.inr z : Key) = Sum.inr s := fun y => h (Sum.inr.inj y)
      have h2 : ¬ s = z := fun y => h y.symm
      simp [h1, h2]
theorem ty_flat {K : PySem.W.Frag} {H : Hp} {x : V} (h : flatV x = true) : ∃ t, TyOf K H x (.type t) := by
  cases x with
  | non => exact ⟨_, .non⟩
  | bl b => exact ⟨_, .bl b⟩
  | int i => exact ⟨_, .int i⟩
  | str z => exact ⟨_, .str z⟩
  | _ => cases h
/-- unlike_names(terms), a list of plain things -/
def spUnl (K : PySem.W.Frag) : Sp := fun vs H Q _ => ∃ (p : Addr) (xs : List V), vs = [.ref p] ∧ SqL K H p xs ∧ xs.length ≤ 1000 ∧ (∀ x ∈ xs, flatV x = true) ∧ ∀ (q : Addr) (H' : Hp), Same H H' → H' q = some (.tup ((unlN xs).map V.str)) → Q (.ref q) H'
section
variable {P : Program} {w : World} {K : PySem.W.Frag} {mg : Str → Option Value} {base : Heap}
theorem sc_is_name : FnScope ["thing"] ["thing"] (defScope (topS 23)) := ⟨rfl, rfl, rfl, by decide +kernel, rfl, by decide +kernel, by decide +kernel⟩
theorem ok_is_name {f : Addr} {fd : FuncData} (F : L2.Fun K "is_name" "is_name" (topS 23) f fd) {NA : Addr} (m_isinstance : mg "isinstance" = none) (m_str : mg "str" = none) (gNA : mg "NAMES" = some (.ref NA)) (hNA : ∀ H : Hp, SqT K H NA (eight.map V.str)) : FnOk P w K mg base CX0 1 f fd ["thing"] (spName K) := by
  refine F.ok sc_is_name (fun vs H Q E h => ?_) (fun cdv A outer s0 H vs Q E hr h => ?_)
  · obtain ⟨x, t, rfl, _⟩ := h
    rfl
  · obtain ⟨x, t, rfl, ty, q⟩ := h
    refine ⟨_, (pss_one (ps_ret (pe_and (pe_callB call_isi (by rfl) m_isinstance (by decide +kernel) (pa_cons (pv 0) (pa_cons (pe_bltn (v := .ty "str") (by rfl) m_str (by decide +kernel) rfl) pa_nil))) (pe_one (pe_cmpR op_in_seq (pv 0) (pe_glob (v := .ref NA) (by rfl) gNA rfl) (by rfl)))))), ?_⟩
    refine ⟨_, rfl, x, .ty "str", _, _, _, rfl, .ty _, .base ty, kit_str ty, ?_⟩
    cases ty with
    | str z => exact ⟨true, rfl, iteT ⟨_, rfl, NA, _, rfl, .inr (hNA H), rfl, by decide, by rw [show (if false = true then !inV (.str z) (eight.map V.str) else inV (.str z) (eight.map V.str)) = decide (z ∈ eight) from by rw [if_neg (fun y => nomatch y)]; exact in_eight z]; exact q⟩⟩
    | _ => exact ⟨false, rfl, iteF q⟩
theorem putK_name (l : List Str) (s : Str) : putK (asKeys l) (Sum.inr s) (.bl true) = asKeys (if s ∈ l then l else l ++ [s]) := by
  unfold putK
  rw [any_keys]
  by_cases h : s ∈ l
  · rw [if_pos (decide_eq_true h), if_pos h]
    unfold asKeys
    rw [List.map_map]
    apply List.map_congr_left
    intro z _
    show (if (Sum.inr z : Key) = Sum.inr s then ((Sum.inr z : Key), V.bl true) else (Sum.inr z, V.bl true)) = _
    split <;> rfl
  · rw [if_neg (fun z => h (of_decide_eq_true z)), if_neg h]
    unfold asKeys
    rw [List.map_append]
    rfl
/-- {x: True for x in xs if is_name(x)} -/
theorem dcNames {i j : Nat} {vs : List Nat} {σ : L2.St} {H : Hp} {a : Addr} {xs : List V} {Q : VK} (hv : σ[i]? = some (some (.ref a))) (hs : SqL K H a xs) (hz : xs.length ≤ 1000) (fl : ∀ x ∈ xs, flatV x = true)
    (hw : ∀ x, wipe ((wipe σ vs).set j (some x)) vs = wipe σ vs) (hj : ∀ x, ((wipe σ vs).set j (some x))[j]? = some (some x))
    (hq : ∀ (D : Addr) (H' : Hp), Same H H' → H D = none → H' D = some (.dK (asKeys (unlN xs))) → Q (.ref D) H') : tDc (iList K (tVar i)) (gName j) (tB (tCall (spName K) [] E0 (tCons (tVar j) tNil))) (tVar j) (tC (.bl true)) vs σ H Q := by
  refine ⟨_, hv, a, rfl, ⟨_, hs⟩, fun D nD => ?_⟩
  have w := walk_list (K := K) (a := a) (xs := xs)
  let Pv : Nat → Hp → Prop := fun i H' => Same H H' ∧ H' D = some (.dK (asKeys (unlN (xs.take i)))) ∧ (unlN (xs.take i)).length ≤ i
  refine ⟨fun i m H' => m = xs.length - i ∧ i ≤ xs.length ∧ Pv i H', ⟨xs.length, rfl, Nat.zero_le _, same_upd nD, upd_same, Nat.le_refl _⟩, ?_⟩
  rintro i m H' ⟨rfl, hi, s1, hD, hl⟩
  by_cases lt : i < xs.length
  · refine .inr ⟨w.goes i H' lt (s1.seq hs), Pv (i + 1), fun H2 p => ⟨xs.length - (i + 1), by omega, rfl, lt, p⟩, ?_⟩
    intro x H2 y
    obtain ⟨rfl, ex⟩ := w.yields i H' x H2 lt (s1.seq hs) y
    have tk : xs.take (i + 1) = xs.take i ++ [x] := by
      rw [List.take_add_one, ex]
      rfl
    have fx : flatV x = true := fl x (List.mem_of_getElem? ex)
    obtain ⟨t, ty⟩ := ty_flat (K := K) (H := H2) fx
    refine ⟨hw _, _, hj _, x, t, rfl, ty, _, rfl, ?_⟩
    have step : ∀ s : Str, nameV (.str s) = true → addN (unlN (xs.take i)) (.str s) = if s ∈ unlN (xs.take i) then unlN (xs.take i) else unlN (xs.take i) ++ [s] := fun s hn => by
      have me : s ∈ eight := of_decide_eq_true hn
      unfold addN
      dsimp only
      by_cases h : s ∈ unlN (xs.take i)
      · rw [if_pos h, if_neg (fun z => z.2 h)]
      · rw [if_neg h, if_pos ⟨me, h⟩]
    cases hn : nameV x with
    | false =>
      have stay : addN (unlN (xs.take i)) x = unlN (xs.take i) := by
        cases x with
        | str s =>
          have ne : ¬ s ∈ eight := of_decide_eq_false hn
          exact if_neg (fun z => ne z.1)
        | _ => rfl
      refine iteF ⟨s1, ?_, ?_⟩
      · rw [tk, unlN_snoc, stay]
        exact hD
      · rw [tk, unlN_snoc, stay]
        omega
    | true =>
      cases x with
      | str s =>
        refine iteT ⟨_, hj _, _, Sum.inr s, rfl, hD, ?_, ?_, ?_, ?_⟩
        · show (asKeys _).length < _
          unfold asKeys
          rw [List.length_map]
          exact small1000 (by omega)
        · intro b o e
          rw [upd_ne (ne_of_none e nD)]
          exact s1 _ _ e
        · rw [upd_same, putK_name, tk, unlN_snoc, step s hn]
        · rw [tk, unlN_snoc, step s hn]
          split
          · omega
          · rw [List.length_append]
            simp
            omega
      | _ => cases hn
  · have e : i = xs.length := by omega
    subst e
    rw [List.take_length] at hD
    exact .inl ⟨w.stops H' (s1.seq hs), hq D H' s1 nD hD⟩
theorem sc_unlike_names : FnScope ["terms", "term"] ["terms"] (defScope (topS 32)) := ⟨rfl, rfl, rfl, by decide +kernel, rfl, by decide +kernel, by decide +kernel⟩
theorem ok_unlike_names {f : Addr} {fd : FuncData} (F : L2.Fun K "unlike_names" "unlike_names" (topS 32) f fd) (cN : Cal P w K mg base 1 "is_name" (spName K)) (m_list : mg "list" = none) (m_tuple : mg "tuple" = none) : FnOk P w K mg base CX0 2 f fd ["terms"] (spUnl K) := by
  refine F.ok sc_unlike_names (fun vs H Q E h => ?_) (fun cdv A outer s0 H vs Q E hr h => ?_)
  · obtain ⟨p, xs, rfl, _⟩ := h
    rfl
  · obtain ⟨p, xs, rfl, hp, few, fl, q⟩ := h
    refine ⟨_, (pss_one (ps_ret (pe_callTy call_tuple_of (by rfl) m_tuple (by decide +kernel) (pa_cons (pe_callTy (call_list_dK rfl) (by rfl) m_list (by decide +kernel) (pa_cons (pe_dc (own := [("term", 1)]) (g := gName 1)  rfl sc_unlike_names.nd (pi_list (pv 0)) (blkOk_by (N := ["terms", "term"]) (sc := defScope (topS 32)) (by decide +kernel)) (fun _ _ _ _ _ => pg_name (i := 1) sc_unlike_names.nd rfl (Or.inl rfl)) (fun _ _ _ _ _ => pts_one (pt_val (pe_c cN hr (by decide) rfl (pa_cons (pv 1) pa_nil)))) (fun _ _ _ _ _ => (pv 1)) (fun _ _ _ _ _ => pe_bl)) pa_nil)) pa_nil)))), ?_⟩
    dsimp only [tRet, tCB, tCons, tNil]
    refine dcNames (by rfl) hp few fl (by intro _; rfl) (by intro _; rfl) fun D H1 s1 nD hD => ?_
    refine ⟨D, _, rfl, hD, fun l nl => ?_⟩
    have keys : ((asKeys (unlN xs)).map fun kv => kV kv.1) = (unlN xs).map V.str := by
      unfold asKeys
      rw [List.map_map]
      rfl
    rw [keys]
    refine ⟨l, _, rfl, .inl ⟨SqL.of upd_same, fun r nr => ?_⟩⟩
    exact q r _ ((s1.trans (same_upd nl)).trans (same_upd nr)) upd_same
end
end My
set_option Elab.async false
set_option linter.all false
set_option maxRecDepth 100000
set_option maxHeartbeats 4000000
namespace My
open PySem PySem.Spec PyProof.Rows L2
theorem take_cat {zs : List (List V)} {i : Nat} {z : List V} (h : zs[i]? = some z) : (zs.take (i + 1)).flatten = (zs.take i).flatten ++ z := by
  rw [List.take_add_one, h, List.flatten_append]
  simp
theorem cat_le {zs : List (List V)} {i : Nat} {z : List V} (h : zs[i]? = some z) : (zs.take i).flatten.length + z.length ≤ zs.flatten.length := by
  have e := take_cat h
  have e2 : zs.flatten = (zs.take (i + 1)).flatten ++ (zs.drop (i + 1)).flatten := by
    rw [← List.flatten_append, List.take_append_drop]
  rw [e2, e, List.length_append, List.length_append]
  omega
/-- [y for x in xs for y in (what x gives)] -/
theorem lc2Cat {j j1 : Nat} {vs vs1 : List Nat} {σ : L2.St} {H : Hp} {Q : VK} {wi wi1 : TI} (xs : List V) (zs : List (List V)) (len : zs.length = xs.length) (few : zs.flatten.length ≤ 1000)
    (hwi : ∀ R : It → Hp → Prop, (∀ (J : It) (G : Hp → Prop), Walk J xs.length G (YAt xs) → (∀ H', Same H H' → G H') → R J H) → wi σ H R)
    (hin : ∀ (i : Nat) (x : V) (z : List V) (H' : Hp) (R : It → Hp → Prop), xs[i]? = some x → zs[i]? = some z → Same H H' → (∀ (J1 : It) (G1 : Hp → Prop), Walk J1 z.length G1 (YAt z) → (∀ H'', Same H H'' → G1 H'') → R J1 H') → wi1 ((wipe σ vs).set j (some x)) H' R)
    (hw : ∀ x, wipe ((wipe σ vs).set j (some x)) vs = wipe σ vs)
    (hw1 : ∀ x y, wipe ((wipe ((wipe σ vs).set j (some x)) vs1).set j1 (some y)) vs1 = wipe ((wipe σ vs).set j (some x)) vs1)
    (hj : ∀ x y, ((wipe ((wipe σ vs).set j (some x)) vs1).set j1 (some y))[j1]? = some (some y))
    (hq : ∀ (D : Addr) (H' : Hp), Same H H' → H D = none → H' D = some (.lst zs.flatten) → Q (.ref D) H') : tLc2 wi (gName j) tYes wi1 (gName j1) tYes (tVar j1) vs vs1 σ H Q := by
  refine hwi _ fun J G w hG => fun D nD => ?_
  let Pv : Nat → Hp → Prop := fun i H' => Same H H' ∧ H' D = some (.lst (zs.take i).flatten)
  refine ⟨fun i m H' => m = xs.length - i ∧ i ≤ xs.length ∧ Pv i H', ⟨xs.length, rfl, Nat.zero_le _, same_upd nD, upd_same⟩, ?_⟩
  rintro i m H' ⟨rfl, hi, s1, hD⟩
  by_cases lt : i < xs.length
  · refine .inr ⟨w.goes i H' lt (hG _ s1), Pv (i + 1), fun H2 p => ⟨xs.length - (i + 1), by omega, rfl, lt, p⟩, ?_⟩
    intro x H2 y
    obtain ⟨rfl, ex⟩ := w.yields i H' x H2 lt (hG _ s1) y
    have ez : zs[i]? = some zs[i] := List.getElem?_eq_getElem (by omega)
    generalize zs[i]'(by omega) = z at ez
    have le := cat_le ez
    refine ⟨hw _, ?_⟩
    dsimp only [tYes]
    refine iteT ?_
    refine hin i x z H2 _ ex ez s1 fun J1 G1 w1 hG1 => ?_
    let P1 : Nat → Hp → Prop := fun k H' => Same H H' ∧ H' D = some (.lst ((zs.take i).flatten ++ z.take k))
    refine ⟨fun k m H' => m = z.length - k ∧ k ≤ z.length ∧ P1 k H', ⟨z.length, rfl, Nat.zero_le _, s1, by rw [List.take_zero, List.append_nil]; exact hD⟩, ?_⟩
    rintro k m H3 ⟨rfl, hk, s3, hD3⟩
    by_cases lt1 : k < z.length
    · refine .inr ⟨w1.goes k H3 lt1 (hG1 _ s3), P1 (k + 1), fun H4 p => ⟨z.length - (k + 1), by omega, rfl, lt1, p⟩, ?_⟩
      intro u H4 y1
      obtain ⟨rfl, eu⟩ := w1.yields k H3 u H4 lt1 (hG1 _ s3) y1
      refine ⟨hw1 _ _, ?_⟩
      refine iteT ⟨_, hj _ _, _, hD3, ?_, ?_, ?_⟩
      · rw [List.length_append, List.length_take]
        exact small1000 (by omega)
      · intro b o e
        rw [upd_ne (ne_of_none e nD)]
        exact s3 _ _ e
      · rw [upd_same, List.take_add_one, eu, List.append_assoc]
        rfl
    · have e : k = z.length := by omega
      subst e
      refine .inl ⟨w1.stops H3 (hG1 _ s3), s3, ?_⟩
      rw [take_cat ez]
      rw [List.take_length] at hD3
      exact hD3
  · have e : i = xs.length := by omega
    subst e
    rw [← len, List.take_length] at hD
    exact .inl ⟨w.stops H' (hG _ s1), hq D H' s1 nD hD⟩
end My
set_option Elab.async false
set_option linter.all false
set_option maxRecDepth 100000
set_option maxHeartbeats 4000000
namespace My
open PySem PySem.Spec PyProof.Rows L2
/-! ### questions in tuples through and through -/
structure Qn where
  head : List V
  body : List (Int × List V)
  pairs : List (V × V)
def AtomAt (K : PySem.W.Frag) (H : Hp) (x : V) (a : Int × List V) : Prop := ∃ p r, x = .ref p ∧ SqT K H p [.int a.1, .ref r] ∧ SqT K H r a.2
def PairAt (K : PySem.W.Frag) (H : Hp) (x : V) (u : V × V) : Prop := ∃ p, x = .ref p ∧ SqT K H p [u.1, u.2]
structure QnAt (K : PySem.W.Frag) (H : Hp) (p : Addr) (q : Qn) : Prop where
  ex : ∃ h b u bs us, SqT K H p [.ref h, .ref b, .ref u] ∧ SqT K H h q.head ∧ SqT K H b bs ∧ Paired (AtomAt K H) bs q.body ∧ SqT K H u us ∧ Paired (PairAt K H) us q.pairs
/-- what the document says of them, as far as sizes and kinds go -/
structure Qn.Ok (q : Qn) : Prop where
  h : q.head.length ≤ 1000
  b : (q.body.map (·.2)).flatten.length ≤ 1000
  p : q.pairs.length ≤ 1000
  fh : ∀ x ∈ q.head, flatV x = true
  fb : ∀ x ∈ (q.body.map (·.2)).flatten, flatV x = true
  fp : ∀ u ∈ q.pairs, flatV u.1 = true ∧ flatV u.2 = true
theorem AtomAt.keep {K : PySem.W.Frag} {H H' : Hp} {x : V} {a : Int × List V} (h : AtomAt K H x a) (s : Same H H') : AtomAt K H' x a := by
  obtain ⟨p, r, e, h1, h2⟩ := h
  exact ⟨p, r, e, seqT_keep h1 s, seqT_keep h2 s⟩
theorem PairAt.keep {K : PySem.W.Frag} {H H' : Hp} {x : V} {u : V × V} (h : PairAt K H x u) (s : Same H H') : PairAt K H' x u := by
  obtain ⟨p, e, h1⟩ := h
  exact ⟨p, e, seqT_keep h1 s⟩
theorem paired_imp {α β : Type} {F G : α → β → Prop} (f : ∀ a b, F a b → G a b) : ∀ {l₁ : List α} {l₂ : List β}, Paired F l₁ l₂ → Paired G l₁ l₂
  | _, _, .nil => .nil
  | _, _, .cons h t => .cons (f _ _ h) (paired_imp f t)
theorem paired_len {α β : Type} {F : α → β → Prop} : ∀ {l₁ : List α} {l₂ : List β}, Paired F l₁ l₂ → l₁.length = l₂.length
  | _, _, .nil => rfl
  | _, _, .cons _ t => by rw [List.length_cons, List.length_cons, paired_len t]
theorem paired_at {α β : Type} {F : α → β → Prop} : ∀ {l₁ : List α} {l₂ : List β}, Paired F l₁ l₂ → ∀ {i : Nat} {a : α} {b : β}, l₁[i]? = some a → l₂[i]? = some b → F a b
  | _, _, .cons h _, 0, a, b, e1, e2 => by
    cases Option.some.inj e1
    cases Option.some.inj e2
    exact h
  | _, _, .cons _ t, i + 1, a, b, e1, e2 => paired_at t (i := i) e1 e2
theorem QnAt.keep {K : PySem.W.Frag} {H H' : Hp} {p : Addr} {q : Qn} (h : QnAt K H p q) (s : Same H H') : QnAt K H' p q := by
  obtain ⟨h0, b, u, bs, us, h1, h2, h3, h4, h5, h6⟩ := h.ex
  exact ⟨h0, b, u, bs, us, seqT_keep h1 s, seqT_keep h2 s, seqT_keep h3 s, paired_imp (fun _ _ z => z.keep s) h4, seqT_keep h5 s, paired_imp (fun _ _ z => z.keep s) h6⟩
def Qn.names (q : Qn) : List Str := unlN (q.body.map (·.2)).flatten
def spNames (K : PySem.W.Frag) : Sp := fun vs H Q _ => ∃ (p : Addr) (q : Qn), vs = [.ref p] ∧ QnAt K H p q ∧ q.Ok ∧ ∀ (r : Addr) (H' : Hp), Same H H' → H' r = some (.tup (q.names.map V.str)) → Q (.ref r) H'
section
variable {P : Program} {w : World} {K : PySem.W.Frag} {mg : Str → Option Value} {base : Heap}
theorem sc_names_of : FnScope ["question", "atom", "term"] ["question"] (defScope (topS 33)) := ⟨rfl, rfl, rfl, by decide +kernel, rfl, by decide +kernel, by decide +kernel⟩
theorem ok_names_of {f : Addr} {fd : FuncData} (F : L2.Fun K "names_of" "names_of" (topS 33) f fd) (cU : Cal P w K mg base 2 "unlike_names" (spUnl K)) : FnOk P w K mg base CX0 3 f fd ["question"] (spNames K) := by
  refine F.ok sc_names_of (fun vs H Q E h => ?_) (fun cdv A outer s0 H vs Q E hr h => ?_)
  · obtain ⟨p, q, rfl, _⟩ := h
    rfl
  · obtain ⟨p, q, rfl, hq, ok, k⟩ := h
    refine ⟨_, (pss_one (ps_ret (pe_c cU hr (by decide) rfl (pa_cons (pe_lc2 (own := [("atom", 1), ("term", 2)]) (vs1 := [2]) (g := gName 1) (tt := tYes) (g1 := gName 2) (tt1 := tYes) rfl sc_names_of.nd (pi_tup (pe_ix ix_tup (pv 0) pe_int (fun _ _ => rfl))) (blkOk_by (N := ["question", "atom", "term"]) (sc := defScope (topS 33)) (by decide +kernel)) (by decide) (fun _ _ _ _ _ => pg_name (i := 1) sc_names_of.nd rfl (Or.inl rfl)) (fun _ _ _ _ _ => pts_nil) (fun _ _ _ _ _ => (show PI _ _ _ (iTup K (tOp (rIxT K) (tVar 1) (tC (.int 1)))) from pi_tup (pe_ix ix_tup (pv 1) pe_int (fun _ _ => rfl)))) (fun _ _ _ _ _ => pg_name (i := 2) sc_names_of.nd rfl (Or.inl rfl)) (fun _ _ _ _ _ => pts_nil) (fun _ _ _ _ _ => (pv 2))) pa_nil)))), ?_⟩
    obtain ⟨h0, b, u, bs, us, h1, h2, h3, h4, h5, h6⟩ := hq.ex
    have lb := paired_len h4
    dsimp only [tRet, tCall, tCons, tNil]
    refine lc2Cat bs (q.body.map (·.2)) (by rw [List.length_map, lb]) ok.b (fun R hR => ?_) (fun i x z H' R ex ez s1 hR => ?_) (by intro _; rfl) (by intro _ _; rfl) (by intro _ _; rfl) (fun D H1 s1 nD hD => ?_)
    · exact ⟨_, rfl, p, _, _, _, rfl, rfl, h1, atI_nat (j := 1) rfl, b, rfl, ⟨_, h3⟩, hR _ _ walk_tup fun H' s => seqT_keep h3 s⟩
    · rw [List.getElem?_map] at ez
      obtain ⟨a, ea, rfl⟩ := Option.map_eq_some_iff.mp ez
      obtain ⟨p1, r1, rfl, g1, g2⟩ := paired_at h4 ex ea
      exact ⟨_, rfl, p1, _, _, _, rfl, rfl, seqT_keep g1 s1, atI_nat (j := 1) rfl, r1, rfl, ⟨_, seqT_keep g2 s1⟩, hR _ _ walk_tup fun H'' s => seqT_keep g2 s⟩
    · exact ⟨D, _, rfl, SqL.of hD, ok.b, ok.fb, fun r H2 s2 e => k r H2 (s1.trans s2) e⟩
end
end My
set_option Elab.async false
set_option linter.all false
set_option maxRecDepth 100000
set_option maxHeartbeats 4000000
namespace My
open PySem PySem.Spec PyProof.Rows L2
/-- [g(x) for x in xs], new things may be made meanwhile -/
theorem lcS {j : Nat} {vs : List Nat} {σ : L2.St} {H : Hp} {Q : VK} {wi : TI} {te : TE} (xs : List V) (g : Nat → V) (few : xs.length ≤ 1000)
    (hwi : ∀ R : It → Hp → Prop, (∀ (J : It) (G : Hp → Prop), Walk J xs.length G (YAt xs) → (∀ H', Same H H' → G H') → R J H) → wi σ H R)
    (hw : ∀ x, wipe ((wipe σ vs).set j (some x)) vs = wipe σ vs)
    (he : ∀ (i : Nat) (x : V) (H' : Hp) (R : VK), xs[i]? = some x → Same H H' → (∀ H'', Same H' H'' → R (g i) H'') → te ((wipe σ vs).set j (some x)) H' R)
    (hq : ∀ (D : Addr) (H' : Hp), Same H H' → H D = none → H' D = some (.lst ((List.range xs.length).map g)) → Q (.ref D) H') : tLc wi (gName j) tYes te vs σ H Q := by
  refine hwi _ fun J G w hG => fun D nD => ?_
  let Pv : Nat → Hp → Prop := fun i H' => Same H H' ∧ H' D = some (.lst ((List.range i).map g))
  refine ⟨fun i m H' => m = xs.length - i ∧ i ≤ xs.length ∧ Pv i H', ⟨xs.length, rfl, Nat.zero_le _, same_upd nD, upd_same⟩, ?_⟩
  rintro i m H' ⟨rfl, hi, s1, hD⟩
  by_cases lt : i < xs.length
  · refine .inr ⟨w.goes i H' lt (hG _ s1), Pv (i + 1), fun H2 p => ⟨xs.length - (i + 1), by omega, rfl, lt, p⟩, ?_⟩
    intro x H2 y
    obtain ⟨rfl, ex⟩ := w.yields i H' x H2 lt (hG _ s1) y
    refine ⟨hw _, ?_⟩
    dsimp only [tYes]
    refine iteT (he i x H2 _ ex s1 fun H3 s3 => ⟨_, s3 _ _ hD, ?_, ?_, ?_⟩)
    · rw [List.length_map, List.length_range]
      exact small1000 (by omega)
    · intro b o e
      rw [upd_ne (ne_of_none e nD)]
      exact s3 _ _ (s1 _ _ e)
    · rw [upd_same, List.range_succ, List.map_append]
      rfl
  · have e : i = xs.length := by omega
    subst e
    exact .inl ⟨w.stops H' (hG _ s1), hq D H' s1 nD hD⟩

theorem wi_seq {K : PySem.W.Frag} {te : TE} {σ : L2.St} {H : Hp} {a : Addr} {xs : List V} (hv : ∀ R : VK, R (.ref a) H → te σ H R) (hs : SqV K H a xs) (R : It → Hp → Prop)
    (h : ∀ (J : It) (G : Hp → Prop), Walk J xs.length G (YAt xs) → (∀ H', Same H H' → G H') → R J H) : iSeq K te σ H R := by
  rcases hs with hs | hs
  · exact .inl (hv _ ⟨a, rfl, ⟨_, hs⟩, h _ _ (walk_list (K := K) (a := a)) fun H' s => s.seq hs⟩)
  · exact .inr (hv _ ⟨a, rfl, ⟨_, hs⟩, h _ _ (walk_tup (K := K) (a := a)) fun H' s => seqT_keep hs s⟩)
/-- [f(x) for x in xs], xs a list or a tuple of data -/
theorem lcQ {K : PySem.W.Frag} {j : Nat} {vs : List Nat} {σ : L2.St} {H : Hp} {Q : VK} {ti te : TE} {a : Addr} {xs : List V} {ds : List PyData} (f : PyData → V) (hv : ∀ R : VK, R (.ref a) H → ti σ H R) (hs : SqV K H a xs) (hd : DqAll H xs ds) (few : ds.length ≤ 1000)
    (hw : ∀ x, wipe ((wipe σ vs).set j (some x)) vs = wipe σ vs)
    (ht : ∀ (x : V) (d : PyData), d ∈ ds → ∀ (H' : Hp) (R : VK), Same H H' → Dq H' x d → (∀ H'', Same H' H'' → R (f d) H'') → te ((wipe σ vs).set j (some x)) H' R)
    (hq : ∀ (D : Addr) (H' : Hp), Same H H' → H D = none → H' D = some (.lst (ds.map f)) → Q (.ref D) H') : tLc (iSeq K ti) (gName j) tYes te vs σ H Q := by
  have hl := hd.len
  refine lcS xs (fun i => f (ds.getD i .none)) (by omega) (wi_seq hv hs) hw (fun i x H' R ex s hR => ?_) fun D H' s nD hD => ?_
  · obtain ⟨d, ed, hx⟩ := hd.get ex
    have e : ds.getD i .none = d := by
      rw [List.getD_eq_getElem?_getD, ed]
      rfl
    rw [e] at hR
    exact ht x d (List.mem_of_getElem? ed) H' R s (hx.keep s) hR
  · refine hq D H' s nD ?_
    rw [hD, hl]
    congr 2
    apply List.ext_getElem?
    intro i
    rw [List.getElem?_map, List.getElem?_map]
    by_cases lt : i < ds.length
    · rw [List.getElem?_range lt, List.getElem?_eq_getElem lt]
      show some (f (ds.getD i .none)) = some (f ds[i])
      rw [List.getD_eq_getElem?_getD, List.getElem?_eq_getElem lt]
      rfl
    · rw [List.getElem?_eq_none (by rw [List.length_range]; omega), List.getElem?_eq_none (by omega)]
      rfl
/-! enumerate over a list or a tuple -/
def iEnumS (K : PySem.W.Frag) (ta : TA) : TI := fun σ H R => iEnum K ta σ H R ∨ iEnumT K ta σ H R
theorem pi_enumS {X : Cx} {e : Expr} {ta : TA} {p pos tpos : Pos} {elts : List Expr} {kk : Nat} (hg : Gl X "enumerate") (hm : X.mg "enumerate" = none) (ha : PA X [e] ta) (hs : starEach [e] X.env = [(false, eval e X.env)] := by rfl) :
    PI X (.Tuple elts kk tpos) (.Call (.Name "enumerate" p) [e] [] pos) (iEnumS X.K ta) :=
  ⟨fun pins s σ H R I h => h.elim (fun h => (pi_enum hg hm ha hs).run pins s σ H R I h) (fun h => (pi_enumT hg hm ha hs).run pins s σ H R I h)⟩
theorem forEnum {K : PySem.W.Frag} {ta : TA} {a : Addr} {xs : List V} {g : TG} {tb : TS} {D : Ends} {σ : L2.St} {H : Hp} (hv : ∀ R : List V → Hp → Prop, R [.ref a] H → ta σ H R) (hs : SqV K H a xs) (Pv : Nat → L2.St → Hp → Prop) (h0 : Pv 0 σ H) (hG : ∀ i σ H', i ≤ xs.length → Pv i σ H' → Same H H')
    (hl : ∀ i x σ H' T, xs[i]? = some x → Pv i σ H' → H' T = none → g (.ref T) σ (upd H' T (.tup [.int (i : Nat), x])) fun σ2 H2 => tb { D with nx := Pv (i + 1), ct := Pv (i + 1), bk := D.nx } σ2 H2) (hd : ∀ σ H', Pv xs.length σ H' → D.nx σ H') : tFor (iEnumS K ta) g tb D σ H := by
  rcases hs with hs | hs
  · refine .inl (hv _ ⟨a, xs, rfl, hs, for_it (walk_enum (K := K) (a := a) (xs := xs)) Pv h0 (fun i σ H' hi p => (hG i σ H' hi p).seq hs) (fun i x σ H' H2 hi p y => ?_) hd⟩)
    obtain ⟨T, u, v, rfl, nT, rfl, eu, ev⟩ := y
    have eu := Option.some.inj eu
    subst eu
    exact hl i v σ H' T ev p nT
  · refine .inr (hv _ ⟨a, xs, rfl, hs, for_it (walk_enumT (K := K) (a := a) (xs := xs)) Pv h0 (fun i σ H' hi p => seqT_keep hs (hG i σ H' hi p)) (fun i x σ H' H2 hi p y => ?_) hd⟩)
    obtain ⟨T, u, v, rfl, nT, rfl, eu, ev⟩ := y
    have eu := Option.some.inj eu
    subst eu
    exact hl i v σ H' T ev p nT
/-! a list or a tuple unpacked -/
def gSq (K : PySem.W.Frag) (n : Nat) (t : TGs) : TG := fun v σ H Q => gTup K n t v σ H Q ∨ gUnl K n t v σ H Q
theorem pg_sq {X : Cx} {es : List Expr} {k : Nat} {t : TGs} {n : Nat} {pos : Pos} (hc : X.calm = true) (h : PGs X es t)
    (hn : (assignEach es X.env).length = n := by rfl) (hst : (assignEach es X.env).findIdx? (·.1) = none := by rfl) : PG X (.Tuple es k pos) (gSq X.K n t) :=
  ⟨fun pins s σ H v u Q I r hw => hw.elim (fun hw => (pg_tup hc h hn hst).run pins s σ H v u Q I r hw) (fun hw => (pg_unl hc h hn hst).run pins s σ H v u Q I r hw)⟩
theorem rd_sq {K : PySem.W.Frag} {n : Nat} {t : TGs} {a : Addr} {xs : List V} {σ : L2.St} {H : Hp} {Q : L2.St → Hp → Prop} (h : SqV K H a xs) (hl : xs.length = n) (q : t xs σ H Q) : gSq K n t (.ref a) σ H Q :=
  h.elim (fun h => .inr ⟨a, xs, rfl, h, hl, q⟩) fun h => .inl ⟨a, xs, rfl, h, hl, q⟩
/-! ### widths judged -/
/-- the first place at which f tells a word -/
def firstW {α β : Type} (f : α → Option β) : Nat → List α → Option (β × Nat)
  | _, [] => none
  | i, x :: xs => match f x with
    | some w => some (w, i)
    | none => firstW f (i + 1) xs
theorem firstW_none {α β : Type} {f : α → Option β} : ∀ {xs : List α} {i : Nat}, firstW f i xs = none → ∀ x ∈ xs, f x = none
  | [], _, _, x, h => by cases h
  | y :: ys, i, e, x, h => by
    rw [firstW] at e
    cases ey : f y with
    | some w => rw [ey] at e; cases e
    | none =>
      rw [ey] at e
      rcases List.mem_cons.mp h with z | z
      · rw [z]; exact ey
      · exact firstW_none (xs := ys) (i := i + 1) e x z
theorem firstW_drop {α β : Type} {f : α → Option β} {xs : List α} {i : Nat} (h : i < xs.length) : firstW f i (xs.drop i) = match f xs[i] with
    | some w => some (w, i)
    | none => firstW f (i + 1) (xs.drop (i + 1)) := by
  rw [List.drop_eq_getElem_cons h, firstW]
def wBad (w : Int) : Option Unit := if 1 ≤ w ∧ w ≤ 3 then none else some ()
/-- the place of the first wrong width -/
def wRes (ws : List Int) : Option Int := if 1 ≤ ws.length ∧ ws.length ≤ 6 then (firstW wBad 0 ws).map fun u => (u.2 : Int) else some 0
/-- a list or a tuple of ints -/
def IntsAt (H : Hp) (x : V) (ws : List Int) : Prop := ∃ a, x = .ref a ∧ (H a = some (.lst (ws.map V.int)) ∨ H a = some (.tup (ws.map V.int)))
theorem IntsAt.dq {H : Hp} {x : V} {ws : List Int} (h : IntsAt H x ws) : ∃ d, Dq H x d ∧ seqOf d = some (ws.map PyData.int) := by
  obtain ⟨a, rfl, h | h⟩ := h
  · exact ⟨_, .lst h dqAll_ints, rfl⟩
  · exact ⟨_, .tup h dqAll_ints, rfl⟩
theorem IntsAt.keep {H H' : Hp} {x : V} {ws : List Int} (h : IntsAt H x ws) (s : Same H H') : IntsAt H' x ws := by
  obtain ⟨a, e, h⟩ := h
  exact ⟨a, e, h.imp (s _ _) (s _ _)⟩
def spCheckW (K : PySem.W.Frag) (BW : Addr) : Sp := fun vs H Q E => ∃ (x : V) (ws : List Int), vs = [x] ∧ IntsAt H x ws ∧ ws.length ≤ 1000 ∧
  ((wRes ws = none ∧ ∀ (p : Addr) (H' : Hp), Same H H' → H' p = some (.tup (ws.map V.int)) → Q (.ref p) H') ∨
   ∃ i, wRes ws = some i ∧ ∀ (dd : Addr) (H' : Hp), Same H H' → H dd = none → H' dd = some (.xd [("index", .int i)]) → E (.ref BW) (some dd) H')
section
variable {P : Program} {w : World} {K : PySem.W.Frag} {mg : Str → Option Value} {base : Heap}
theorem sc_check_widths : FnScope ["widths", "index", "width"] ["widths"] (defScope (topS 11)) := ⟨rfl, rfl, rfl, by decide +kernel, rfl, by decide +kernel, by decide +kernel⟩
theorem ok_check_widths {f : Addr} {fd : FuncData} {dvs : List V} (F : FunD K "check_widths" "check_widths" (defArgs (topS 11)) (defBody (topS 11)) (defScope (topS 11)) dvs [] f fd) {BW : Addr} (RBadWidths : ErrF P w K mg base "BadWidths" BW ["index"]) (cs : Cal P w K mg base 2 "is_sequence_of" (spSeqOf K)) (cw : Cal P w K mg base 1 "is_whole" (spWhole K)) (gMOST_TABLES : ∃ u, mg "MOST_TABLES" = some u ∧ RelV (.int 6) u) (gMOST_COLUMNS : ∃ u, mg "MOST_COLUMNS" = some u ∧ RelV (.int 3) u) (m_enumerate : mg "enumerate" = none) (m_tuple : mg "tuple" = none) : FnOk P w K mg base (L2N.CX P w) 4 f fd ["widths"] (spCheckW K BW) := by
  refine F.ok sc_check_widths (fun vs H Q E h => ?_) (fun cdv A outer s0 H vs Q E hr h => ?_)
  · obtain ⟨x, ws, rfl, _⟩ := h
    rfl
  · obtain ⟨x, ws, rfl, hi, few, q⟩ := h
    refine ⟨_, (pss_cons (ps_if (pt_not (pt_val (pe_c cs hr (by decide) rfl (pa_cons (pv 0) (pa_cons pe_int (pa_cons (C8.pe_gc rfl gMOST_TABLES) pa_nil)))))) (pss_one (L2N.ps_raise rfl (L2N.takes_of rfl rfl rfl rfl) (pmk_errF RBadWidths hr (by decide) (by rfl) (pa_cons pe_int pa_nil)))) pss_nil)
      (pss_cons (ps_for (passes_of rfl) rfl (pi_enumS (by rfl) m_enumerate (pa_cons (pv 0) pa_nil)) (pg_tup (by rfl) (pgs_cons (pg_name (i := 1) sc_check_widths.nd rfl (.inl rfl)) (pgs_cons (pg_name (i := 2) sc_check_widths.nd rfl (.inl rfl)) pgs_nil))) (pss_one (ps_if (pt_not (pt_val (pe_c cw hr (by decide) rfl (pa_cons (pv 2) (pa_cons pe_int (pa_cons (C8.pe_gc rfl gMOST_COLUMNS) pa_nil)))))) (pss_one (L2N.ps_raise rfl (L2N.takes_of rfl rfl rfl rfl) (pmk_errF RBadWidths hr (by decide) (by rfl) (pa_cons (pv 1) pa_nil)))) pss_nil)))
      (pss_one (ps_ret (pe_callTy call_tuple_of (by rfl) m_tuple (by decide +kernel) (pa_cons (pv 0) pa_nil)))))), ?_⟩
    obtain ⟨d, hd, ed⟩ := hi.dq
    have lm : (ws.map PyData.int).length = ws.length := List.length_map ..
    have lv : (ws.map V.int).length = ws.length := List.length_map ..
    have el : lenIn 1 6 d = (decide (1 ≤ ws.length) && decide (ws.length ≤ 6)) := by
      unfold lenIn
      rw [ed]
      dsimp only
      rw [lm]
      congr 1 <;> exact decide_eq_decide.mpr (by omega)
    have bad : ∀ (i : Int) (H1 : Hp), Same H H1 → wRes ws = some i → ∀ dd H2, Same H1 H2 → H1 dd = none → H2 dd = some (.xd [("index", .int i)]) → E (.ref BW) (some dd) H2 := fun i H1 s1 e dd H2 s2 nd ed2 => by
      rcases q with ⟨z, _⟩ | ⟨i', z, q⟩
      · rw [z] at e; cases e
      · rw [z] at e
        cases e
        exact q dd H2 (s1.trans s2) (s1.free nd) ed2
    refine ⟨_, rfl, x, d, 1, 6, rfl, hd, fun H1 s1 => ⟨_, rfl, ?_⟩⟩
    rw [el]
    by_cases hl : 1 ≤ ws.length ∧ ws.length ≤ 6
    · rw [decide_eq_true hl.1, decide_eq_true hl.2]
      refine iteF ?_
      obtain ⟨a, rfl, ha⟩ := hi.keep s1
      have step : ∀ i : Nat, wRes ws = (firstW wBad i (ws.drop i)).map (fun u => (u.2 : Int)) → ∀ h : i < ws.length, (wBad ws[i] = none → wRes ws = (firstW wBad (i + 1) (ws.drop (i + 1))).map fun u => (u.2 : Int)) ∧ (wBad ws[i] = some () → wRes ws = some (i : Int)) := fun i e h => by
        rw [firstW_drop h] at e
        constructor
        · intro z
          rw [z] at e
          exact e
        · intro z
          rw [z] at e
          exact e
      refine forEnum (K := K) (fun R h => ⟨_, rfl, h⟩) (sqv_of ha) (fun i σ H' => Same H1 H' ∧ (∃ v1 v2, σ = [some (.ref a), v1, v2]) ∧ wRes ws = (firstW wBad i (ws.drop i)).map fun u => (u.2 : Int)) ⟨Same.refl _, ⟨_, _, rfl⟩, ?_⟩ (fun _ _ _ _ p => p.1) ?_ ?_
      · unfold wRes
        rw [if_pos hl]
        rfl
      · rintro i x σ H2 T ex ⟨s2, ⟨v1, v2, rfl⟩, hw⟩ nT
        have hi' : i < ws.length := by
          have := (List.getElem?_eq_some_iff.mp ex).1
          omega
        have exi : x = .int ws[i] := by
          rw [List.getElem?_map, List.getElem?_eq_getElem hi'] at ex
          exact (Option.some.inj ex).symm
        subst exi
        obtain ⟨go, stop⟩ := step i hw hi'
        have sT := same_upd (o := HO.tup [V.int (i : Nat), V.int ws[i]]) nT
        refine ⟨T, [.int (i : Nat), .int ws[i]], rfl, SqT.of upd_same, rfl, _, _, rfl, _, _, rfl, rfl, ?_⟩
        refine ⟨_, rfl, .int ws[i], _, some 1, some 3, rfl, .int _, _, rfl, ?_⟩
        show if (!(decide ((1 : Int) ≤ ws[i]) && decide (ws[i] ≤ 3))) = true then _ else _
        by_cases hb : 1 ≤ ws[i] ∧ ws[i] ≤ 3
        · rw [decide_eq_true hb.1, decide_eq_true hb.2]
          refine iteF ⟨s2.trans sT, ⟨_, _, rfl⟩, go ?_⟩
          unfold wBad
          rw [if_pos hb]
        · have e2 : (!(decide ((1 : Int) ≤ ws[i]) && decide (ws[i] ≤ 3))) = true := by
            rw [← Bool.decide_and, decide_eq_false hb]
            rfl
          rw [e2]
          refine iteT ⟨_, rfl, rfl, (by show 1 ≤ 1000; decide), fun dd H3 s3 nd ed3 => ?_⟩
          exact bad i _ ((s1.trans s2).trans sT) (stop (by unfold wBad; rw [if_neg hb])) dd H3 s3 nd ed3
      · rintro σ H2 ⟨s2, ⟨v1, v2, rfl⟩, hw⟩
        rw [lv, List.drop_length] at hw
        rcases q with ⟨_, q⟩ | ⟨i, z, _⟩
        · have s12 := s1.trans s2
          refine ⟨_, rfl, ?_⟩
          rcases ha with ha | ha
          · exact ⟨a, _, rfl, .inl ⟨SqL.of (s2 _ _ ha), fun p np => q p _ (s12.trans (same_upd np)) upd_same⟩⟩
          · exact ⟨a, _, rfl, .inr ⟨SqT.of (s2 _ _ ha), q a _ s12 (s2 _ _ ha)⟩⟩
        · rw [z] at hw; cases hw
    · have e2 : (decide (1 ≤ ws.length) && decide (ws.length ≤ 6)) = false := by
        rw [← Bool.decide_and, decide_eq_false hl]
      rw [e2]
      refine iteT ⟨rfl, (by show 1 ≤ 1000; decide), fun dd H3 s3 nd ed3 => ?_⟩
      exact bad 0 H1 s1 (by unfold wRes; rw [if_neg hl]) dd H3 s3 nd ed3
end
end My
set_option Elab.async false
set_option linter.all false
set_option maxRecDepth 100000
set_option maxHeartbeats 4000000
namespace My
open PySem PySem.Spec PyProof.Rows L2

/-- for i, x in enumerate(xs): data told wrong by f let out -/
theorem forFirst {K : PySem.W.Frag} {β : Type} {ta : TA} {a : Addr} {xs : List V} {ds : List PyData} {g : TG} {tb : TS} {D : Ends} {σ : L2.St} {H : Hp} (f : PyData → Option β) (S : L2.St → Prop) (h0 : S σ)
    (hv : ∀ R : List V → Hp → Prop, R [.ref a] H → ta σ H R) (hs : SqV K H a xs) (hd : DqAll H xs ds)
    (hl : ∀ (i : Nat) (x : V) (d : PyData) (σ : L2.St) (H' : Hp) (T : Addr) (N : L2.St → Hp → Prop), S σ → Same H H' → H' T = none → d ∈ ds → Dq H' x d → (f d = none → ∀ σ' H2, S σ' → Same H' H2 → N σ' H2) → (∀ w, f d = some w → firstW f 0 ds = some (w, i)) →
      g (.ref T) σ (upd H' T (.tup [.int (i : Nat), x])) fun σ2 H2 => tb { D with nx := N, ct := N, bk := D.nx } σ2 H2)
    (he : firstW f 0 ds = none → ∀ σ H', S σ → Same H H' → D.nx σ H') : tFor (iEnumS K ta) g tb D σ H := by
  have hlen := hd.len
  refine forEnum (K := K) hv hs (fun i σ H' => Same H H' ∧ S σ ∧ firstW f 0 ds = firstW f i (ds.drop i)) ⟨Same.refl _, h0, rfl⟩ (fun _ _ _ _ p => p.1) ?_ ?_
  · rintro i x σ H' T ex ⟨s, hS, e⟩ nT
    obtain ⟨d, ed, hx⟩ := hd.get ex
    have li := (List.getElem?_eq_some_iff.mp ed).1
    have ei : ds[i] = d := (List.getElem?_eq_some_iff.mp ed).2
    rw [firstW_drop li, ei] at e
    refine hl i x d σ H' T _ hS s nT (List.mem_of_getElem? ed) (hx.keep s) (fun z σ' H2 h2 s2 => ⟨s.trans s2, h2, ?_⟩) (fun w z => ?_)
    · rw [z] at e
      exact e
    · rw [z] at e
      exact e
  · rintro σ H' ⟨s, hS, e⟩
    rw [hlen, List.drop_length] at e
    exact he e σ H' hS s
/-! ### terms, atoms -/
def nameD : PyData → Bool
  | .str s => decide (s ∈ eight)
  | _ => false
theorem Dq.name {H : Hp} {x : V} {d : PyData} (h : Dq H x d) : nameV x = nameD d := by cases h <;> rfl
def termD (d : PyData) : Bool := nameD d || valueD d
def wordD (a z : Str) (ok : PyData → Bool) (ws : List Int) (d : PyData) : Option Str := match placeD ws d with
  | some w => if w = ("row" : Str) then some a else some w
  | none => if (itemsD (itemD d 1)).all ok then none else some z
def spTerm (K : PySem.W.Frag) : Sp := fun vs H Q _ => ∃ (x : V) (d : PyData), vs = [x] ∧ Dq H x d ∧ Q (.bl (termD d)) H
def spAtomF (K : PySem.W.Frag) : Sp := fun vs H Q _ => ∃ (p : Addr) (ws : List Int) (x : V) (d : PyData), vs = [.ref p, x] ∧ SqT K H p (ws.map V.int) ∧ Dq H x d ∧ (itemsD (itemD d 1)).length ≤ 1000 ∧ ∀ H', Same H H' → Q (optS (wordD "atom" "term" termD ws d)) H'
/-- a value, or one of these names -/
def toldD (ls : List Str) (d : PyData) : Bool := valueD d || (nameD d && (match d with
  | .str s => decide (s ∈ ls)
  | _ => false))
def spTold (K : PySem.W.Frag) : Sp := fun vs H Q _ => ∃ (x : V) (d : PyData) (n : Addr) (ls : List Str), vs = [x, .ref n] ∧ Dq H x d ∧ SqT K H n (ls.map V.str) ∧ Q (.bl (toldD ls d)) H
theorem in_strs (s : Str) : ∀ l : List Str, inV (.str s) (l.map V.str) = decide (s ∈ l) := by
  intro l
  induction l with
  | nil => rfl
  | cons z r ih =>
    unfold inV at ih ⊢
    rw [List.map_cons, List.any_cons, ih]
    have e : eqV (.str z) (.str s) = decide (z = s) := by
      first | rfl | simp [eqV]
    rw [e]
    by_cases h : z = s
    · subst h
      simp
    · have h' : ¬ s = z := fun y => h y.symm
      simp [h, h']
theorem strs_flat (l : List Str) : (l.map V.str).all flatV = true := by
  rw [List.all_eq_true]
  intro x hx
  obtain ⟨n, _, rfl⟩ := List.mem_map.mp hx
  rfl
theorem place_seq {ws : List Int} {d : PyData} (h : placeD ws d = none) : ∃ t r rs i, seqOf d = some [t, r] ∧ itemD d 0 = t ∧ itemD d 1 = r ∧ seqOf r = some rs ∧ t = .int i ∧ 0 ≤ i ∧ i < ws.length ∧ (rs.length : Int) = ws.getD i.toNat 0 := by
  unfold placeD at h
  cases hb : (lenIn 2 2 d && (intD (itemD d 0) && (seqOf (itemD d 1)).isSome)) with
  | false => rw [hb] at h; cases h
  | true =>
    rw [hb] at h
    obtain ⟨h1, h2⟩ := Bool.and_eq_true_iff.mp hb
    obtain ⟨h3, h4⟩ := Bool.and_eq_true_iff.mp h2
    unfold lenIn at h1
    cases e : seqOf d with
    | none => rw [e] at h1; cases h1
    | some ds =>
      rw [e] at h1
      obtain ⟨z1, z2⟩ := Bool.and_eq_true_iff.mp h1
      have z1 := of_decide_eq_true z1
      have z2 := of_decide_eq_true z2
      obtain ⟨t, r, rfl⟩ : ∃ t r, ds = [t, r] := by
        match ds, z1, z2 with
        | [t, r], _, _ => exact ⟨t, r, rfl⟩
        | [], z1, _ => simp at z1
        | [_], z1, _ => simp at z1
        | _ :: _ :: _ :: _, _, z2 => simp at z2; omega
      have i0 : itemD d 0 = t := by unfold itemD; rw [itemsD_some e]; rfl
      have i1 : itemD d 1 = r := by unfold itemD; rw [itemsD_some e]; rfl
      rw [i0] at h h3
      rw [i1] at h h4
      obtain ⟨rs, er⟩ := Option.isSome_iff_exists.mp h4
      cases t with
      | int i =>
        cases hw : wholeD 0 ((ws.length : Int) - 1) (.int i) with
        | false => rw [hw] at h; cases h
        | true =>
          obtain ⟨w1, w2⟩ := Bool.and_eq_true_iff.mp hw
          have w1 := of_decide_eq_true w1
          have w2 := of_decide_eq_true w2
          rw [hw, itemsD_some er] at h
          refine ⟨_, r, rs, i, rfl, i0, i1, er, rfl, w1, by omega, ?_⟩
          by_cases same : (rs.length : Int) = ws.getD i.toNat 0
          · exact same
          · rw [if_neg (by decide), if_neg (by decide), if_pos (show (rs.length : Int) ≠ ws.getD (tabD (.int i)).toNat 0 from same)] at h
            cases h
      | _ => cases h3
section
variable {P : Program} {w : World} {K : PySem.W.Frag} {mg : Str → Option Value} {base : Heap}
theorem sc_is_term : FnScope ["thing"] ["thing"] (defScope (topS 24)) := ⟨rfl, rfl, rfl, by decide +kernel, rfl, by decide +kernel, by decide +kernel⟩
theorem ok_is_term {f : Addr} {fd : FuncData} (F : L2.Fun K "is_term" "is_term" (topS 24) f fd) (cN : Cal P w K mg base 1 "is_name" (spName K)) (cV : Cal P w K mg base 2 "is_value" (spValue K)) : FnOk P w K mg base CX0 3 f fd ["thing"] (spTerm K) := by
  refine F.ok sc_is_term (fun vs H Q E h => ?_) (fun cdv A outer s0 H vs Q E hr h => ?_)
  · obtain ⟨x, d, rfl, _⟩ := h
    rfl
  · obtain ⟨x, d, rfl, hd, q⟩ := h
    refine ⟨_, (pss_one (ps_ret (pe_or (pe_c cN hr (by decide) rfl (pa_cons (pv 0) pa_nil)) (pe_one (pe_c cV hr (by decide) rfl (pa_cons (pv 0) pa_nil)))))), ?_⟩
    refine ⟨_, rfl, x, _, rfl, hd.ty, _, rfl, ?_⟩
    rw [hd.name]
    unfold termD at q
    cases hn : nameD d with
    | true =>
      rw [hn] at q
      exact iteT q
    | false =>
      rw [hn] at q
      refine iteF ⟨_, rfl, x, _, rfl, hd.ty, ?_⟩
      rw [hd.value]
      exact q
theorem sc__fault_of_atom : FnScope ["widths", "atom", "what", "term"] ["widths", "atom"] (defScope (topS 25)) := ⟨rfl, rfl, rfl, by decide +kernel, rfl, by decide +kernel, by decide +kernel⟩
theorem ok__fault_of_atom {f : Addr} {fd : FuncData} (F : L2.Fun K "_fault_of_atom" "_fault_of_atom" (topS 25) f fd) (cF : Cal P w K mg base 4 "fault_of_place" (spPlaceF K)) (cT : Cal P w K mg base 3 "is_term" (spTerm K)) (m_all : mg "all" = none) : FnOk P w K mg base CX0 5 f fd ["widths", "atom"] (spAtomF K) := by
  refine F.ok sc__fault_of_atom (fun vs H Q E h => ?_) (fun cdv A outer s0 H vs Q E hr h => ?_)
  · obtain ⟨p, ws, x, d, rfl, _⟩ := h
    rfl
  · obtain ⟨p, ws, x, d, rfl, hp, hd, few, q⟩ := h
    refine ⟨_, (pss_cons (ps_set (i := 2) sc__fault_of_atom.nd rfl (.inl rfl) (pe_c cF hr (by decide) rfl (pa_cons (pv 0) (pa_cons (pv 1) pa_nil))))
      (pss_cons (ps_if (pt_cmpR op_eq (pv 2) pe_str (nomark _)) (pss_one (ps_ret pe_str)) pss_nil)
      (pss_cons (ps_if (PW.pt (pw_and (pt_cmpR op_isN (pv 2) pe_non (nomark _)) (pw_and1 (pt_not (pt_truth (pe_callB (cr_all rfl) (by rfl) m_all (by decide +kernel) (pa_cons (pe_lc (own := [("term", 3)]) (g := gName 3) (tt := tYes) rfl sc__fault_of_atom.nd (pi_seq (pe_ix ix_seq (pv 1) pe_int (fun _ _ => rfl))) (blkOk_by (N := ["widths", "atom", "what", "term"]) (sc := defScope (topS 25)) (by decide +kernel)) (fun _ _ _ _ _ => pg_name (i := 3) sc__fault_of_atom.nd rfl (Or.inl rfl)) (fun _ _ _ _ _ => pts_nil) (fun _ _ _ _ _ => (pe_c cT hr (by decide) rfl (pa_cons (pv 3) pa_nil)))) pa_nil)) (by intro _; rfl)))))) (pss_one (ps_ret pe_str)) pss_nil)
      (pss_one (ps_ret (pv 2)))))), ?_⟩
    refine ⟨_, rfl, _, rfl, p, ws, x, d, rfl, hp, hd, fun H1 s1 => ?_⟩
    unfold wordD at q
    cases e : placeD ws d with
    | some w =>
      rw [e] at q
      dsimp only at q
      refine ⟨_, rfl, rfl, _, rfl, ?_⟩
      by_cases hw : w = ("row" : Str)
      · subst hw
        rw [if_pos rfl] at q
        exact iteT (q H1 s1)
      · rw [if_neg hw] at q
        have ne : decide (optS (some w) = V.str "row") = false := decide_eq_false fun z => hw (V.str.inj z)
        rw [ne]
        refine iteF ?_
        refine ⟨_, rfl, rfl, _, rfl, ?_⟩
        exact iteF (iteF ⟨_, rfl, q H1 s1⟩)
    | none =>
      rw [e] at q
      dsimp only at q
      refine ⟨_, rfl, rfl, _, rfl, iteF ?_⟩
      refine ⟨_, rfl, rfl, _, rfl, iteT ?_⟩
      obtain ⟨t, r, rs, i, ed, i0, i1, er, _⟩ := place_seq e
      obtain ⟨a, xs, y, rfl, hs, hl, ey, hy⟩ := (hd.keep s1).item (i := 1) ed (by show 1 < 2; decide)
      rw [i1] at hy few q
      obtain ⟨b, ys, rfl, hb, hall⟩ := hy.seq er
      rw [itemsD_some er] at few q
      dsimp only [tNot, tB, tCB, tCons, tNil]
      refine lcQ (K := K) (fun d => .bl (termD d)) (fun R h => ⟨_, rfl, rd_ix (sqv_of hs) ey h⟩) (sqv_of hb) hall few (by intro _; rfl) (fun x d m H2 R s2 hx kR => ?_) (fun D H2 s2 nD hD => ?_)
      · exact ⟨_, rfl, x, d, rfl, hx, kR _ (Same.refl _)⟩
      · have e1 : rs.map (fun d => V.bl (termD d)) = (rs.map termD).map V.bl := by rw [List.map_map]; rfl
        rw [e1] at hD
        refine ⟨D, _, rfl, SqL.of hD, _, rfl, ?_⟩
        have e2 : (rs.map termD).all id = rs.all termD := by rw [List.all_map]; rfl
        rw [e2]
        cases ht : rs.all termD with
        | true =>
          rw [ht, if_pos rfl] at q
          exact iteF ⟨_, rfl, q H2 (s1.trans s2)⟩
        | false =>
          rw [ht, if_neg (by decide)] at q
          exact iteT (q H2 (s1.trans s2))
theorem sc__is_told : FnScope ["thing", "names"] ["thing", "names"] (defScope (topS 27)) := ⟨rfl, rfl, rfl, by decide +kernel, rfl, by decide +kernel, by decide +kernel⟩
theorem ok__is_told {f : Addr} {fd : FuncData} (F : L2.Fun K "_is_told" "_is_told" (topS 27) f fd) (cN : Cal P w K mg base 1 "is_name" (spName K)) (cV : Cal P w K mg base 2 "is_value" (spValue K)) : FnOk P w K mg base CX0 3 f fd ["thing", "names"] (spTold K) := by
  refine F.ok sc__is_told (fun vs H Q E h => ?_) (fun cdv A outer s0 H vs Q E hr h => ?_)
  · obtain ⟨x, d, n, ls, rfl, _⟩ := h
    rfl
  · obtain ⟨x, d, n, ls, rfl, hd, hn, q⟩ := h
    refine ⟨_, (pss_one (ps_ret (pe_or (pe_c cV hr (by decide) rfl (pa_cons (pv 0) pa_nil)) (pe_one (pe_and (pe_c cN hr (by decide) rfl (pa_cons (pv 0) pa_nil)) (pe_one (pe_cmpR op_in_seq (pv 0) (pv 1) (by rfl)))))))), ?_⟩
    unfold toldD at q
    refine ⟨_, rfl, x, _, rfl, hd.ty, _, rfl, ?_⟩
    rw [hd.value]
    cases hv : valueD d with
    | true =>
      rw [hv] at q
      exact iteT q
    | false =>
      rw [hv, Bool.false_or] at q
      refine iteF ⟨_, rfl, x, _, rfl, hd.ty, _, rfl, ?_⟩
      rw [hd.name]
      cases hm : nameD d with
      | false =>
        rw [hm] at q
        exact iteF q
      | true =>
        rw [hm, Bool.true_and] at q
        cases hd with
        | str s =>
          refine iteT ⟨_, rfl, _, rfl, n, _, rfl, .inr hn, rfl, strs_flat ls, ?_⟩
          rw [if_neg (fun z => nomatch z), in_strs]
          exact q
        | _ => cases hm
end
end My
set_option Elab.async false
set_option linter.all false
set_option maxRecDepth 100000
set_option maxHeartbeats 4000000
namespace My
open PySem PySem.Spec PyProof.Rows L2

def rTupOf (K : PySem.W.Frag) : List V → Hp → VK → Prop := fun xs H Q => ∃ p ys, xs = [V.ref p] ∧ ((SqL K H p ys ∧ ∀ l, H l = none → Q (.ref l) (upd H l (.tup ys))) ∨ SqT K H p ys ∧ Q (.ref p) H)
def rLenOf (K : PySem.W.Frag) : List V → Hp → VK → Prop := fun xs H Q => ∃ p ys, xs = [V.ref p] ∧ (SqL K H p ys ∨ SqT K H p ys) ∧ Q (.int (ys.length : Nat)) H
/-! data without lists do not mind what a list holds -/
mutual
def noL : PyData → Bool
  | .list _ => false
  | .tuple ds => noLs ds
  | .dict _ => true
  | .none => true
  | .bool _ => true
  | .int _ => true
  | .str _ => true
def noLs : List PyData → Bool
  | [] => true
  | d :: ds => noL d && noLs ds
end
theorem noLs_of : ∀ {ds : List PyData}, (∀ d ∈ ds, noL d = true) → noLs ds = true
  | [], _ => by rw [noLs]
  | e :: ds, h => by
    rw [noLs, h e (List.mem_cons_self ..), noLs_of fun d m => h d (List.mem_cons_of_mem _ m)]
    rfl
theorem noLs_mem : ∀ {ds : List PyData} {d : PyData}, noLs ds = true → d ∈ ds → noL d = true
  | e :: ds, d, h, m => by
    rw [noLs, Bool.and_eq_true] at h
    rcases List.mem_cons.mp m with z | z
    · rw [z]; exact h.1
    · exact noLs_mem h.2 z
section
variable {H : Hp} {a : Addr} {xs ys : List V}
mutual
theorem dq_put (e : H a = some (.lst xs)) : ∀ (d : PyData) (v : V), noL d = true → Dq H v d → Dq (upd H a (.lst ys)) v d
  | .none, _, _, .non => .non
  | .bool b, _, _, .bl _ => .bl b
  | .int i, _, _, .int _ => .int i
  | .str x, _, _, .str _ => .str x
  | .list ds, _, t, _ => by rw [noL] at t; cases t
  | .tuple ds, _, t, .tup h al => by
    rw [noL] at t
    exact .tup (by rw [upd_ne (fun z => by rw [z, e] at h; cases h)]; exact h) (dqAll_put e ds _ t al)
  | .dict _, _, _, .dct h => .dct (by rw [upd_ne (fun z => by rw [z, e] at h; cases h)]; exact h)
theorem dqAll_put (e : H a = some (.lst xs)) : ∀ (ds : List PyData) (vs : List V), noLs ds = true → DqAll H vs ds → DqAll (upd H a (.lst ys)) vs ds
  | [], _, _, .nil => .nil
  | d :: ds, _, t, .cons h al => by
    rw [noLs, Bool.and_eq_true] at t
    exact .cons (dq_put e d _ t.1 h) (dqAll_put e ds _ t.2 al)
end
end
/-- [e for .. in xs]: data g d, without lists, for the data d -/
theorem lcQd {K : PySem.W.Frag} {vs : List Nat} {σ : L2.St} {H : Hp} {Q : VK} {ti te : TE} {G : TG} {a : Addr} {xs : List V} {ds : List PyData} (g : PyData → PyData) (hv : ∀ R : VK, R (.ref a) H → ti σ H R) (hs : SqV K H a xs) (hd : DqAll H xs ds) (few : ds.length ≤ 1000) (hg : ∀ d ∈ ds, noL (g d) = true)
    (ht : ∀ (x : V) (d : PyData) (H' : Hp) (R : VK) (N : Hp → Prop), d ∈ ds → Same H H' → Dq H' x d → (∀ y H'', Same H' H'' → Dq H'' y (g d) → R y H'') → G x (wipe σ vs) H' fun σ2 H2 => wipe σ2 vs = wipe σ vs ∧ if true = true then te σ2 H2 R else N H2)
    (hq : ∀ (D : Addr) (ys : List V) (H' : Hp), Same H H' → H D = none → H' D = some (.lst ys) → DqAll H' ys (ds.map g) → Q (.ref D) H') : tLc (iSeq K ti) G tYes te vs σ H Q := by
  have len := hd.len
  refine wi_seq hv hs _ fun J GG w hG => fun D nD => ?_
  let Pv : Nat → Hp → Prop := fun i H' => Same H H' ∧ ∃ ys, H' D = some (.lst ys) ∧ DqAll H' ys ((ds.take i).map g)
  refine ⟨fun i m H' => m = xs.length - i ∧ i ≤ xs.length ∧ Pv i H', ⟨xs.length, rfl, Nat.zero_le _, same_upd nD, [], upd_same, .nil⟩, ?_⟩
  rintro i m H' ⟨rfl, hi, s1, ys, hD, hys⟩
  by_cases lt : i < xs.length
  · refine .inr ⟨w.goes i H' lt (hG _ s1), Pv (i + 1), fun H2 p => ⟨xs.length - (i + 1), by omega, rfl, lt, p⟩, ?_⟩
    intro x H2 y
    obtain ⟨rfl, ex⟩ := w.yields i H' x H2 lt (hG _ s1) y
    obtain ⟨d, ed, hxd⟩ := hd.get ex
    have md := List.mem_of_getElem? ed
    refine ht x d H2 _ (Pv (i + 1)) md s1 (hxd.keep s1) fun y H4 s4 hy => ⟨ys, s4 _ _ hD, ?_, same_but (s1.trans s4) nD, ys ++ [y], upd_same, ?_⟩
    · rw [hys.len, List.length_map, List.length_take]
      exact small1000 (by omega)
    · rw [List.take_add_one, ed, List.map_append]
      refine dqAll_put (s4 _ _ hD) _ _ (noLs_of fun e he => ?_) ((hys.keep s4).snoc hy)
      rcases List.mem_append.mp he with z | z
      · obtain ⟨d', m', rfl⟩ := List.mem_map.mp z
        exact hg d' (List.mem_of_mem_take m')
      · rw [List.mem_singleton.mp z]
        exact hg d md
  · have e : i = xs.length := by omega
    subst e
    rw [len, List.take_length] at hys
    exact .inl ⟨w.stops H' (hG _ s1), hq D ys H' s1 nD hD hys⟩
/-! sizes -/
mutual
def fewD : PyData → Bool
  | .list ds => decide (ds.length ≤ 1000) && fewDs ds
  | .tuple ds => decide (ds.length ≤ 1000) && fewDs ds
  | .dict _ => true
  | .none => true
  | .bool _ => true
  | .int _ => true
  | .str _ => true
def fewDs : List PyData → Bool
  | [] => true
  | d :: ds => fewD d && fewDs ds
end
theorem fewDs_mem : ∀ {ds : List PyData} {d : PyData}, fewDs ds = true → d ∈ ds → fewD d = true
  | e :: ds, d, h, m => by
    rw [fewDs, Bool.and_eq_true] at h
    rcases List.mem_cons.mp m with z | z
    · rw [z]; exact h.1
    · exact fewDs_mem h.2 z
theorem fewDs_of : ∀ {ds : List PyData}, (∀ d ∈ ds, fewD d = true) → fewDs ds = true
  | [], _ => by rw [fewDs]
  | e :: ds, h => by
    rw [fewDs, h e (List.mem_cons_self ..), fewDs_of fun d m => h d (List.mem_cons_of_mem _ m)]
    rfl
theorem few_items {d : PyData} (h : fewD d = true) : (itemsD d).length ≤ 1000 ∧ ∀ e ∈ itemsD d, fewD e = true := by
  cases d with
  | list ds =>
    rw [fewD, Bool.and_eq_true] at h
    exact ⟨of_decide_eq_true h.1, fun e m => fewDs_mem h.2 m⟩
  | tuple ds =>
    rw [fewD, Bool.and_eq_true] at h
    exact ⟨of_decide_eq_true h.1, fun e m => fewDs_mem h.2 m⟩
  | _ => exact ⟨by show (([] : List PyData).length ≤ 1000); decide, fun e m => by cases (show e ∈ ([] : List PyData) from m)⟩
theorem few_item {d : PyData} (h : fewD d = true) (i : Nat) : fewD (itemD d i) = true := by
  unfold itemD
  rw [List.getD_eq_getElem?_getD]
  cases e : (itemsD d)[i]? with
  | none => rfl
  | some x => exact (few_items h).2 x (List.mem_of_getElem? e)
/-! ### heads, pairs, bodies judged -/
/-- what a raise of an error with a word and a place gives -/
def Rz (B : Addr) (w : Str) (i : Int) (H : Hp) (E : XK) : Prop := ∀ (dd : Addr) (H' : Hp), Same H H' → H dd = none → H' dd = some (.xd [("index", .int i), ("what", .str w)]) → E (.ref B) (some dd) H'
theorem Rz.from {B : Addr} {w : Str} {i : Int} {H H1 : Hp} {E : XK} (h : Rz B w i H E) (s : Same H H1) : Rz B w i H1 E := fun dd H' s' n e => h dd H' (s.trans s') (s.free n) e
theorem rz_err {B : Addr} {w : Str} {i : Int} {H : Hp} {E : XK} (h : Rz B w i H E) : rErrF B ["what", "index"] [.str w, .int i] H fun cls d H' => E cls d H' :=
  ⟨rfl, by show 2 ≤ 1000; decide, fun dd H' s n e => h dd H' s n e⟩
def placeI {β : Type} (o : Option (β × Nat)) : Option Int := o.map fun u => (u.2 : Int)
def headW (ls : List Str) (t : PyData) : Option Unit := if toldD ls t then none else some ()
def headR (ls : List Str) (d : PyData) : Option Int := if lenIn 0 3 d then placeI (firstW (headW ls) 0 (itemsD d)) else some 0
def pairW (ls : List Str) (u : PyData) : Option Unit := if lenIn 2 2 u && (itemsD u).all (toldD ls) then none else some ()
def pairsR (ls : List Str) (d : PyData) : Option Int := if lenIn 0 8 d then placeI (firstW (pairW ls) 0 (itemsD d)) else some 0
def bodyR (ws : List Int) (d : PyData) : Option (Str × Int) := if lenIn 1 8 d then (firstW (wordD "atom" "term" termD ws) 0 (itemsD d)).map fun u => (u.1, (u.2 : Int)) else some ("body", 0)
def headT (d : PyData) : PyData := .tuple (itemsD d)
def pairsT (d : PyData) : PyData := .tuple ((itemsD d).map headT)
def atomT (a : PyData) : PyData := .tuple [itemD a 0, headT (itemD a 1)]
def bodyT (d : PyData) : PyData := .tuple ((itemsD d).map atomT)
def spHeadC (BQ : Addr) (K : PySem.W.Frag) : Sp := fun vs H Q E => ∃ (x : V) (d : PyData) (n : Addr) (ls : List Str), vs = [x, .ref n] ∧ Dq H x d ∧ SqT K H n (ls.map V.str) ∧
  ((headR ls d = none ∧ ∀ p H', Same H H' → Dq H' (.ref p) (headT d) → Q (.ref p) H') ∨ ∃ i, headR ls d = some i ∧ Rz BQ "head" i H E)
def spPairsC (BQ : Addr) (K : PySem.W.Frag) : Sp := fun vs H Q E => ∃ (x : V) (d : PyData) (n : Addr) (ls : List Str), vs = [x, .ref n] ∧ Dq H x d ∧ SqT K H n (ls.map V.str) ∧ fewD d = true ∧
  ((pairsR ls d = none ∧ ∀ p H', Same H H' → Dq H' (.ref p) (pairsT d) → Q (.ref p) H') ∨ ∃ i, pairsR ls d = some i ∧ Rz BQ "unlike" i H E)
def spBodyC (BQ : Addr) (K : PySem.W.Frag) : Sp := fun vs H Q E => ∃ (x : V) (d : PyData) (p : Addr) (ws : List Int), vs = [.ref p, x] ∧ Dq H x d ∧ SqT K H p (ws.map V.int) ∧ fewD d = true ∧
  ((bodyR ws d = none ∧ ∀ p H', Same H H' → Dq H' (.ref p) (bodyT d) → Q (.ref p) H') ∨ ∃ w i, bodyR ws d = some (w, i) ∧ Rz BQ w i H E)
theorem lenIn_seq {l g : Int} {d : PyData} (h : lenIn l g d = true) : ∃ ds, seqOf d = some ds ∧ itemsD d = ds := by
  unfold lenIn at h
  cases e : seqOf d with
  | none => rw [e] at h; cases h
  | some ds => exact ⟨ds, rfl, itemsD_some e⟩
theorem told_noL {ls : List Str} {t : PyData} (h : toldD ls t = true) : noL t = true := by
  cases t with
  | list ds => cases h
  | tuple ds => cases h
  | _ => rfl
theorem headW_told {ls : List Str} {t : PyData} (h : headW ls t = none) : toldD ls t = true := by
  unfold headW at h
  cases e : toldD ls t with
  | true => rfl
  | false => rw [e] at h; cases h
section
variable {P : Program} {w : World} {K : PySem.W.Frag} {mg : Str → Option Value} {base : Heap}
theorem sc__check_head : FnScope ["head", "names", "index", "term"] ["head", "names"] (defScope (topS 28)) := ⟨rfl, rfl, rfl, by decide +kernel, rfl, by decide +kernel, by decide +kernel⟩
theorem ok__check_head {f : Addr} {fd : FuncData} {dvs : List V} (F : FunD K "_check_head" "_check_head" (defArgs (topS 28)) (defBody (topS 28)) (defScope (topS 28)) dvs [] f fd) {BQ : Addr} (RBadQuestion : ErrF P w K mg base "BadQuestion" BQ ["what", "index"]) (cs : Cal P w K mg base 2 "is_sequence_of" (spSeqOf K)) (cT : Cal P w K mg base 3 "_is_told" (spTold K)) (gMOST_HEAD : ∃ u, mg "MOST_HEAD" = some u ∧ RelV (.int 3) u) (m_enumerate : mg "enumerate" = none) (m_tuple : mg "tuple" = none) : FnOk P w K mg base (L2N.CX P w) 4 f fd ["head", "names"] (spHeadC BQ K) := by
  refine F.ok sc__check_head (fun vs H Q E h => ?_) (fun cdv A outer s0 H vs Q E hr h => ?_)
  · obtain ⟨x, d, n, ls, rfl, _⟩ := h
    rfl
  · obtain ⟨x, d, n, ls, rfl, hd, hn, q⟩ := h
    refine ⟨_, (pss_cons (ps_if (pt_not (pt_val (pe_c cs hr (by decide) rfl (pa_cons (pv 0) (pa_cons pe_int (pa_cons (C8.pe_gc rfl gMOST_HEAD) pa_nil)))))) (pss_one (L2N.ps_raise rfl (L2N.takes_of rfl rfl rfl rfl) (pmk_errF RBadQuestion hr (by decide) (by rfl) (pa_cons pe_str (pa_cons pe_int pa_nil))))) pss_nil)
      (pss_cons (ps_for (passes_of rfl) rfl (pi_enumS (by rfl) m_enumerate (pa_cons (pv 0) pa_nil)) (pg_tup (by rfl) (pgs_cons (pg_name (i := 2) sc__check_head.nd rfl (.inl rfl)) (pgs_cons (pg_name (i := 3) sc__check_head.nd rfl (.inl rfl)) pgs_nil))) (pss_one (ps_if (pt_not (pt_val (pe_c cT hr (by decide) rfl (pa_cons (pv 3) (pa_cons (pv 1) pa_nil))))) (pss_one (L2N.ps_raise rfl (L2N.takes_of rfl rfl rfl rfl) (pmk_errF RBadQuestion hr (by decide) (by rfl) (pa_cons pe_str (pa_cons (pv 2) pa_nil))))) pss_nil)))
      (pss_one (ps_ret (pe_callTy call_tuple_of (by rfl) m_tuple (by decide +kernel) (pa_cons (pv 0) pa_nil)))))), ?_⟩
    refine ⟨_, rfl, x, d, 0, 3, rfl, hd, fun H1 s1 => ⟨_, rfl, ?_⟩⟩
    cases hl : lenIn 0 3 d with
    | false =>
      refine iteT ?_
      rcases q with ⟨z, _⟩ | ⟨i, z, q⟩
      · unfold headR at z; rw [hl] at z; cases z
      · unfold headR at z
        rw [hl] at z
        cases z
        exact rz_err (q.from s1)
    | true =>
      refine iteF ?_
      have eR : headR ls d = placeI (firstW (headW ls) 0 (itemsD d)) := by unfold headR; rw [hl]; rfl
      obtain ⟨ds, ed, ei⟩ := lenIn_seq hl
      rw [ei] at eR
      have hT : headT d = .tuple ds := by unfold headT; rw [ei]
      obtain ⟨a, xs, rfl, ha, hall⟩ := (hd.keep s1).seq ed
      refine forFirst (K := K) (headW ls) (fun σ => ∃ v1 v2, σ = [some (.ref a), some (.ref n), v1, v2]) ⟨none, none, rfl⟩ (fun R h => ⟨_, rfl, h⟩) (sqv_of ha) hall ?_ ?_
      · rintro i x t _ H2 T N ⟨v1, v2, rfl⟩ s2 nT m hx go stop
        have sT := same_upd (o := HO.tup [V.int (i : Nat), x]) nT
        refine ⟨T, [.int (i : Nat), x], rfl, SqT.of upd_same, rfl, _, _, rfl, _, _, rfl, rfl, ?_⟩
        refine ⟨_, rfl, _, rfl, x, t, n, ls, rfl, hx.keep sT, seqT_keep hn ((s1.trans s2).trans sT), _, rfl, ?_⟩
        cases ht : toldD ls t with
        | true => exact iteF (go (by unfold headW; rw [ht]; rfl) _ _ ⟨_, _, rfl⟩ sT)
        | false =>
          refine iteT ⟨_, rfl, ?_⟩
          have e := stop () (by unfold headW; rw [ht]; rfl)
          rw [e] at eR
          rcases q with ⟨z, _⟩ | ⟨j, z, q⟩
          · rw [z] at eR; cases eR
          · rw [z] at eR
            have ej : j = (i : Int) := Option.some.inj eR
            subst ej
            exact rz_err (q.from ((s1.trans s2).trans sT))
      · rintro e _ H2 ⟨v1, v2, rfl⟩ s2
        rw [e] at eR
        rcases q with ⟨_, q⟩ | ⟨j, z, _⟩
        · rw [hT] at q
          refine ⟨_, rfl, ?_⟩
          rcases ha with ha | ha
          · exact ⟨a, _, rfl, .inl ⟨SqL.of (s2 _ _ ha), fun p np => q p _ ((s1.trans s2).trans (same_upd np)) (.tup upd_same (hall.keep (s2.trans (same_upd np))))⟩⟩
          · exact ⟨a, _, rfl, .inr ⟨SqT.of (s2 _ _ ha), q a _ (s1.trans s2) (.tup (s2 _ _ ha) (hall.keep s2))⟩⟩
        · rw [z] at eR; cases eR
end
end My
set_option Elab.async false
set_option linter.all false
set_option maxRecDepth 100000
set_option maxHeartbeats 4000000
namespace My
open PySem PySem.Spec PyProof.Rows L2
section
variable {P : Program} {w : World} {K : PySem.W.Frag} {mg : Str → Option Value} {base : Heap}
theorem sc__check_pairs : FnScope ["pairs", "names", "index", "pair", "term"] ["pairs", "names"] (defScope (topS 29)) := ⟨rfl, rfl, rfl, by decide +kernel, rfl, by decide +kernel, by decide +kernel⟩
theorem ok__check_pairs {f : Addr} {fd : FuncData} {dvs : List V} (F : FunD K "_check_pairs" "_check_pairs" (defArgs (topS 29)) (defBody (topS 29)) (defScope (topS 29)) dvs [] f fd) {BQ : Addr} (RBadQuestion : ErrF P w K mg base "BadQuestion" BQ ["what", "index"]) (cs : Cal P w K mg base 2 "is_sequence_of" (spSeqOf K)) (cC : Cal P w K mg base 3 "is_couple" (spCouple K)) (cT : Cal P w K mg base 3 "_is_told" (spTold K)) (gMOST_PAIRS : ∃ u, mg "MOST_PAIRS" = some u ∧ RelV (.int 8) u) (m_enumerate : mg "enumerate" = none) (m_tuple : mg "tuple" = none) (m_all : mg "all" = none) : FnOk P w K mg base (L2N.CX P w) 4 f fd ["pairs", "names"] (spPairsC BQ K) := by
  refine F.ok sc__check_pairs (fun vs H Q E h => ?_) (fun cdv A outer s0 H vs Q E hr h => ?_)
  · obtain ⟨x, d, n, ls, rfl, _⟩ := h
    rfl
  · obtain ⟨x, d, n, ls, rfl, hd, hn, few, q⟩ := h
    refine ⟨_, (pss_cons (ps_if (pt_not (pt_val (pe_c cs hr (by decide) rfl (pa_cons (pv 0) (pa_cons pe_int (pa_cons (C8.pe_gc rfl gMOST_PAIRS) pa_nil)))))) (pss_one (L2N.ps_raise rfl (L2N.takes_of rfl rfl rfl rfl) (pmk_errF RBadQuestion hr (by decide) (by rfl) (pa_cons pe_str (pa_cons pe_int pa_nil))))) pss_nil)
      (pss_cons (ps_for (passes_of rfl) rfl (pi_enumS (by rfl) m_enumerate (pa_cons (pv 0) pa_nil)) (pg_tup (by rfl) (pgs_cons (pg_name (i := 2) sc__check_pairs.nd rfl (.inl rfl)) (pgs_cons (pg_name (i := 3) sc__check_pairs.nd rfl (.inl rfl)) pgs_nil))) (pss_one (ps_if (PW.pt (pw_or (pt_not (pt_val (pe_c cC hr (by decide) rfl (pa_cons (pv 3) pa_nil)))) (pw_or1 (pt_not (pt_truth (pe_callB (cr_all rfl) (by rfl) m_all (by decide +kernel) (pa_cons (pe_lc (own := [("term", 4)]) (g := gName 4) (tt := tYes) rfl sc__check_pairs.nd (pi_seq (pv 3)) (blkOk_by (N := ["pairs", "names", "index", "pair", "term"]) (sc := defScope (topS 29)) (by decide +kernel)) (fun _ _ _ _ _ => pg_name (i := 4) sc__check_pairs.nd rfl (Or.inl rfl)) (fun _ _ _ _ _ => pts_nil) (fun _ _ _ _ _ => (pe_c cT hr (by decide) rfl (pa_cons (pv 4) (pa_cons (pv 1) pa_nil))))) pa_nil)) (by intro _; rfl)))))) (pss_one (L2N.ps_raise rfl (L2N.takes_of rfl rfl rfl rfl) (pmk_errF RBadQuestion hr (by decide) (by rfl) (pa_cons pe_str (pa_cons (pv 2) pa_nil))))) pss_nil)))
      (pss_one (ps_ret (pe_callTy call_tuple_of (by rfl) m_tuple (by decide +kernel) (pa_cons (pe_lc (own := [("pair", 3)]) (g := gName 3) (tt := tYes) rfl sc__check_pairs.nd (pi_seq (pv 0)) (blkOk_by (N := ["pairs", "names", "index", "pair", "term"]) (sc := defScope (topS 29)) (by decide +kernel)) (fun _ _ _ _ _ => pg_name (i := 3) sc__check_pairs.nd rfl (Or.inl rfl)) (fun _ _ _ _ _ => pts_nil) (fun _ _ _ _ _ => (show PE _ _ (tCB (rTupOf K) _) from pe_callTy call_tuple_of (by rfl) m_tuple (by decide +kernel) (pa_cons (pv 3) pa_nil)))) pa_nil)))))), ?_⟩
    refine ⟨_, rfl, x, d, 0, 8, rfl, hd, fun H1 s1 => ⟨_, rfl, ?_⟩⟩
    cases hl : lenIn 0 8 d with
    | false =>
      refine iteT ?_
      rcases q with ⟨z, _⟩ | ⟨i, z, q⟩
      · unfold pairsR at z; rw [hl] at z; cases z
      · unfold pairsR at z
        rw [hl] at z
        cases z
        exact rz_err (q.from s1)
    | true =>
      refine iteF ?_
      have eR : pairsR ls d = placeI (firstW (pairW ls) 0 (itemsD d)) := by unfold pairsR; rw [hl]; rfl
      obtain ⟨ds, ed, ei⟩ := lenIn_seq hl
      obtain ⟨few1, few2⟩ := few_items few
      rw [ei] at eR few1 few2
      have hT : pairsT d = .tuple (ds.map headT) := by unfold pairsT; rw [ei]
      obtain ⟨a, xs, rfl, ha, hall⟩ := (hd.keep s1).seq ed
      have ends : ∀ (i : Nat) (H3 : Hp), Same H1 H3 → firstW (pairW ls) 0 ds = some ((), i) → Rz BQ "unlike" i H3 E := fun i H3 s3 e => by
        rw [e] at eR
        rcases q with ⟨z, _⟩ | ⟨j, z, q⟩
        · rw [z] at eR; cases eR
        · rw [z] at eR
          have ej : j = (i : Int) := Option.some.inj eR
          subst ej
          exact q.from (s1.trans s3)
      refine forFirst (K := K) (pairW ls) (fun σ => ∃ v1 v2, σ = [some (.ref a), some (.ref n), v1, v2, none]) ⟨none, none, rfl⟩ (fun R h => ⟨_, rfl, h⟩) (sqv_of ha) hall ?_ ?_
      · rintro i x t _ H2 T N ⟨v1, v2, rfl⟩ s2 nT m hx go stop
        have sT := same_upd (o := HO.tup [V.int (i : Nat), x]) nT
        refine ⟨T, [.int (i : Nat), x], rfl, SqT.of upd_same, rfl, _, _, rfl, _, _, rfl, rfl, ?_⟩
        generalize eJ : upd H2 T _ = J
        rw [eJ] at sT
        clear eJ
        refine ⟨_, rfl, x, t, rfl, hx.keep sT, fun H3 s3 => ⟨_, rfl, ?_⟩⟩
        have s13 := (s2.trans sT).trans s3
        cases hc : lenIn 2 2 t with
        | false => exact iteT (iteT ⟨_, rfl, rz_err (ends i _ s13 (stop () (by unfold pairW; rw [hc]; rfl)))⟩)
        | true =>
          refine iteF ?_
          obtain ⟨us, eu, eiu⟩ := lenIn_seq hc
          obtain ⟨fu, _⟩ := few_items (few2 t m)
          rw [eiu] at fu
          obtain ⟨b, ys, rfl, hb, hys⟩ := (hx.keep (sT.trans s3)).seq eu
          dsimp only [tNot, tB, tCB, tCons, tNil]
          refine lcQ (K := K) (fun d => .bl (toldD ls d)) (fun R h => ⟨_, rfl, h⟩) (sqv_of hb) hys fu (by intro _; rfl) (fun y e _ H4 R s4 hy kR => ?_) (fun D H4 s4 nD hD => ?_)
          · exact ⟨_, rfl, _, rfl, y, e, n, ls, rfl, hy, seqT_keep hn ((s1.trans s13).trans s4), kR _ (Same.refl _)⟩
          · have e1 : us.map (fun d => V.bl (toldD ls d)) = (us.map (toldD ls)).map V.bl := by rw [List.map_map]; rfl
            rw [e1] at hD
            refine ⟨D, _, rfl, SqL.of hD, _, rfl, ?_⟩
            have e2 : (us.map (toldD ls)).all id = us.all (toldD ls) := by rw [List.all_map]; rfl
            rw [e2]
            cases ht : us.all (toldD ls) with
            | true => exact iteF (go (by unfold pairW; rw [hc, eiu, ht]; rfl) _ _ ⟨_, _, rfl⟩ ((sT.trans s3).trans s4))
            | false => exact iteT ⟨_, rfl, rz_err (ends i _ (s13.trans s4) (stop () (by unfold pairW; rw [hc, eiu, ht]; rfl)))⟩
      · rintro e _ H2 ⟨v1, v2, rfl⟩ s2
        have good := firstW_none e
        rw [e] at eR
        rcases q with ⟨_, q⟩ | ⟨j, z, _⟩
        · rw [hT] at q
          have inner : ∀ t ∈ ds, ∃ us, seqOf t = some us ∧ headT t = .tuple us ∧ noLs us = true := fun t m => by
            have z := good t m
            unfold pairW at z
            cases hc : lenIn 2 2 t && (itemsD t).all (toldD ls) with
            | false => rw [hc] at z; cases z
            | true =>
              obtain ⟨h1, h2⟩ := Bool.and_eq_true_iff.mp hc
              obtain ⟨us, eu, eiu⟩ := lenIn_seq h1
              rw [eiu] at h2
              exact ⟨us, eu, by unfold headT; rw [eiu], noLs_of fun y my => told_noL (List.all_eq_true.mp h2 y my)⟩
          dsimp only [tRet, tCB, tCons, tNil]
          refine lcQd (K := K) headT (fun R h => ⟨_, rfl, h⟩) (sqv_of (ha.imp (s2 _ _) (s2 _ _))) (hall.keep s2) few1 (fun t m => ?_) (fun x t H3 R N m s3 hx kR => ?_) (fun D ys H3 s3 nD hD hys => ?_)
          · obtain ⟨us, _, et, nl⟩ := inner t m
            rw [et, noL]
            exact nl
          · obtain ⟨us, eu, et, nl⟩ := inner t m
            rw [et] at kR
            obtain ⟨b, ys, rfl, hb, hys⟩ := hx.seq eu
            refine ⟨rfl, iteT ⟨_, rfl, ?_⟩⟩
            rcases hb with hb | hb
            · exact ⟨b, _, rfl, .inl ⟨SqL.of hb, fun p np => kR _ _ (same_upd np) (.tup upd_same (hys.keep (same_upd np)))⟩⟩
            · exact ⟨b, _, rfl, .inr ⟨SqT.of hb, kR _ _ (Same.refl _) (.tup hb hys)⟩⟩
          · refine ⟨D, ys, rfl, .inl ⟨SqL.of hD, fun p np => ?_⟩⟩
            exact q p _ (((s1.trans s2).trans s3).trans (same_upd np)) (.tup upd_same (hys.keep (same_upd np)))
        · rw [z] at eR; cases eR
theorem sc__check_body : FnScope ["widths", "body", "index", "atom", "what", "table", "terms"] ["widths", "body"] (defScope (topS 26)) := ⟨rfl, rfl, rfl, by decide +kernel, rfl, by decide +kernel, by decide +kernel⟩
theorem ok__check_body {f : Addr} {fd : FuncData} {dvs : List V} (F : FunD K "_check_body" "_check_body" (defArgs (topS 26)) (defBody (topS 26)) (defScope (topS 26)) dvs [] f fd) {BQ : Addr} (RBadQuestion : ErrF P w K mg base "BadQuestion" BQ ["what", "index"]) (cs : Cal P w K mg base 2 "is_sequence_of" (spSeqOf K)) (cF : Cal P w K mg base 5 "_fault_of_atom" (spAtomF K)) (gMOST_ATOMS : ∃ u, mg "MOST_ATOMS" = some u ∧ RelV (.int 8) u) (m_enumerate : mg "enumerate" = none) (m_tuple : mg "tuple" = none) : FnOk P w K mg base (L2N.CX P w) 6 f fd ["widths", "body"] (spBodyC BQ K) := by
  refine F.ok sc__check_body (fun vs H Q E h => ?_) (fun cdv A outer s0 H vs Q E hr h => ?_)
  · obtain ⟨x, d, p, ws, rfl, _⟩ := h
    rfl
  · obtain ⟨x, d, p, ws, rfl, hd, hp, few, q⟩ := h
    refine ⟨_, (pss_cons (ps_if (pt_not (pt_val (pe_c cs hr (by decide) rfl (pa_cons (pv 1) (pa_cons pe_int (pa_cons (C8.pe_gc rfl gMOST_ATOMS) pa_nil)))))) (pss_one (L2N.ps_raise rfl (L2N.takes_of rfl rfl rfl rfl) (pmk_errF RBadQuestion hr (by decide) (by rfl) (pa_cons pe_str (pa_cons pe_int pa_nil))))) pss_nil)
      (pss_cons (ps_for (passes_of rfl) rfl (pi_enumS (by rfl) m_enumerate (pa_cons (pv 1) pa_nil)) (pg_tup (by rfl) (pgs_cons (pg_name (i := 2) sc__check_body.nd rfl (.inl rfl)) (pgs_cons (pg_name (i := 3) sc__check_body.nd rfl (.inl rfl)) pgs_nil))) (pss_cons (ps_set (i := 4) sc__check_body.nd rfl (.inl rfl) (pe_c cF hr (by decide) rfl (pa_cons (pv 0) (pa_cons (pv 3) pa_nil)))) (pss_one (ps_if (pt_cmpR op_notN (pv 4) pe_non (nomark _)) (pss_one (L2N.ps_raise rfl (L2N.takes_of rfl rfl rfl rfl) (pmk_errF RBadQuestion hr (by decide) (by rfl) (pa_cons (pv 4) (pa_cons (pv 2) pa_nil))))) pss_nil))))
      (pss_one (ps_ret (pe_callTy call_tuple_of (by rfl) m_tuple (by decide +kernel) (pa_cons (pe_lc (own := [("table", 5), ("terms", 6)]) (g := gSq K 2 (gCons (gName 5) (gCons (gName 6) gNil))) (tt := tYes) rfl sc__check_body.nd (pi_seq (pv 1)) (blkOk_by (N := ["widths", "body", "index", "atom", "what", "table", "terms"]) (sc := defScope (topS 26)) (by decide +kernel)) (fun _ _ _ _ _ => pg_sq rfl (pgs_cons (pg_name (i := 5) sc__check_body.nd rfl (Or.inl rfl)) (pgs_cons (pg_name (i := 6) sc__check_body.nd rfl (Or.inl rfl)) pgs_nil))) (fun _ _ _ _ _ => pts_nil) (fun _ _ _ _ _ => (pe_tup (pa_cons (pv 5) (pa_cons (show PE _ _ (tCB (rTupOf K) _) from pe_callTy call_tuple_of (by rfl) m_tuple (by decide +kernel) (pa_cons (pv 6) pa_nil)) pa_nil))))) pa_nil)))))), ?_⟩
    refine ⟨_, rfl, x, d, 1, 8, rfl, hd, fun H1 s1 => ⟨_, rfl, ?_⟩⟩
    cases hl : lenIn 1 8 d with
    | false =>
      refine iteT ?_
      rcases q with ⟨z, _⟩ | ⟨w, i, z, q⟩
      · unfold bodyR at z; rw [hl] at z; cases z
      · unfold bodyR at z
        rw [hl] at z
        cases z
        exact rz_err (q.from s1)
    | true =>
      refine iteF ?_
      have eR : bodyR ws d = (firstW (wordD "atom" "term" termD ws) 0 (itemsD d)).map (fun u => (u.1, (u.2 : Int))) := by unfold bodyR; rw [hl]; rfl
      obtain ⟨ds, ed, ei⟩ := lenIn_seq hl
      obtain ⟨few1, few2⟩ := few_items few
      rw [ei] at eR few1 few2
      have hT : bodyT d = .tuple (ds.map atomT) := by unfold bodyT; rw [ei]
      obtain ⟨a, xs, rfl, ha, hall⟩ := (hd.keep s1).seq ed
      refine forFirst (K := K) (wordD "atom" "term" termD ws) (fun σ => ∃ v1 v2 v3, σ = [some (.ref p), some (.ref a), v1, v2, v3, none, none]) ⟨none, none, none, rfl⟩ (fun R h => ⟨_, rfl, h⟩) (sqv_of ha) hall ?_ ?_
      · rintro i x t _ H2 T N ⟨v1, v2, v3, rfl⟩ s2 nT m hx go stop
        have sT := same_upd (o := HO.tup [V.int (i : Nat), x]) nT
        refine ⟨T, [.int (i : Nat), x], rfl, SqT.of upd_same, rfl, _, _, rfl, _, _, rfl, rfl, ?_⟩
        generalize eJ : upd H2 T _ = J
        rw [eJ] at sT
        clear eJ
        have f2 := (few_items (few_item (few2 t m) 1)).1
        refine ⟨_, rfl, _, rfl, p, ws, x, t, rfl, seqT_keep hp ((s1.trans s2).trans sT), hx.keep sT, f2, fun H3 s3 => ?_⟩
        have s13 := (s2.trans sT).trans s3
        cases hw : wordD "atom" "term" termD ws t with
        | none => exact ⟨_, rfl, rfl, _, rfl, iteF (go hw _ _ ⟨_, _, _, rfl⟩ (sT.trans s3))⟩
        | some w =>
          refine ⟨_, rfl, rfl, _, rfl, iteT ⟨_, rfl, _, rfl, ?_⟩⟩
          have e := stop w hw
          rw [e] at eR
          rcases q with ⟨z, _⟩ | ⟨w', j, z, q⟩
          · rw [z] at eR; cases eR
          · rw [z] at eR
            have ej : (w', j) = (w, (i : Int)) := Option.some.inj eR
            cases ej
            exact rz_err (q.from (s1.trans s13))
      · rintro e _ H2 ⟨v1, v2, v3, rfl⟩ s2
        have good := firstW_none e
        rw [e] at eR
        rcases q with ⟨_, q⟩ | ⟨w, j, z, _⟩
        · rw [hT] at q
          have inner : ∀ t ∈ ds, ∃ u r rs, seqOf t = some [u, r] ∧ seqOf r = some rs ∧ atomT t = .tuple [u, .tuple rs] ∧ noL u = true ∧ noLs rs = true := fun t m => by
            have z := good t m
            unfold wordD at z
            cases hp : placeD ws t with
            | some w =>
              rw [hp] at z
              dsimp only at z
              by_cases h : w = ("row" : Str)
              · rw [if_pos h] at z; cases z
              · rw [if_neg h] at z; cases z
            | none =>
              rw [hp] at z
              dsimp only at z
              obtain ⟨u, r, rs, k, et, e0, e1, er, eu, _⟩ := place_seq hp
              rw [e1, itemsD_some er] at z
              cases ht : rs.all termD with
              | false => rw [ht] at z; cases z
              | true =>
                refine ⟨u, r, rs, et, er, by unfold atomT headT; rw [e0, e1, itemsD_some er], by rw [eu]; rfl, noLs_of fun y my => ?_⟩
                have zy := List.all_eq_true.mp ht y my
                cases y with
                | list l => cases zy
                | tuple l => cases zy
                | _ => rfl
          dsimp only [tRet, tCB, tCons, tNil]
          refine lcQd (K := K) atomT (fun R h => ⟨_, rfl, h⟩) (sqv_of (ha.imp (s2 _ _) (s2 _ _))) (hall.keep s2) few1 (fun t m => ?_) (fun x t H3 R N m s3 hx kR => ?_) (fun D ys H3 s3 nD hD hys => ?_)
          · obtain ⟨u, r, rs, _, _, et, n1, n2⟩ := inner t m
            rw [et, noL, noLs, noLs, noLs, n1, noL, n2]
            rfl
          · obtain ⟨u, r, rs, e1, e2, et, n1, n2⟩ := inner t m
            rw [et] at kR
            obtain ⟨b, ys, rfl, hb, hys⟩ := hx.seq e1
            match ys, hys with
            | [y, z], .cons hy (.cons hz .nil) =>
            obtain ⟨c, zs, rfl, hc, hzs⟩ := hz.seq e2
            refine rd_sq (sqv_of hb) rfl ⟨_, _, rfl, _, _, rfl, rfl, rfl, iteT ⟨_, rfl, _, rfl, ?_⟩⟩
            rcases hc with hc | hc
            · refine ⟨c, _, rfl, .inl ⟨SqL.of hc, fun l nl => ⟨(by show 2 ≤ sizeLine; decide), fun l2 nl2 => kR _ _ ((same_upd nl).trans (same_upd nl2)) ?_⟩⟩⟩
              have s4 := (same_upd (o := HO.tup zs) nl).trans (same_upd (o := HO.tup [y, V.ref l]) nl2)
              exact .tup upd_same (.cons (hy.keep s4) (.cons (.tup (same_upd nl2 _ _ upd_same) (hzs.keep s4)) .nil))
            · refine ⟨c, _, rfl, .inr ⟨SqT.of hc, (by show 2 ≤ sizeLine; decide), fun l2 nl2 => kR _ _ (same_upd nl2) ?_⟩⟩
              exact .tup upd_same (.cons (hy.keep (same_upd nl2)) (.cons (.tup (same_upd nl2 _ _ hc) (hzs.keep (same_upd nl2))) .nil))
          · refine ⟨D, ys, rfl, .inl ⟨SqL.of hD, fun l nl => ?_⟩⟩
            exact q l _ (((s1.trans s2).trans s3).trans (same_upd nl)) (.tup upd_same (hys.keep (same_upd nl)))
        · rw [z] at eR; cases eR
end
end My
set_option Elab.async false
set_option linter.all false
set_option maxRecDepth 100000
set_option maxHeartbeats 4000000
namespace My
open PySem PySem.Spec PyProof.Rows L2
/-! ### a list comprehension whose element may let an exception out -/
theorem letOut {X : Cx} {pins : List (Addr × Obj)} {σ : L2.St} {H : Hp} {s : Shared} {xe : Value → Shared → Prop} (I : Inv X pins σ H s) : Inv { X with xe := xe } pins σ H s := by
  obtain ⟨⟨a1, a2, a3, a4, a5, a6, a7, a8, a9, a10, a11, a12, a13, a14, a15, a16, a17, a18⟩, b1, b2, b3, b4, b5, b6, b7, b8, b9, b10⟩ := I
  exact ⟨⟨a1, a2, a3, a4, a5, a6, a7, a8, a9, a10, a11, a12, a13, a14, a15, a16, a17, a18⟩, b1, b2, b3, b4, b5, b6, b7, b8, b9, b10⟩
/-- what is wanted behind the block's code, for the block's own names env' -/
def Behind (M : Model) (A : Around) (E : Value → Shared → Prop) (Q : Value → Shared → Prop) (acc : Value) (ce : Env) (r : Result) (t : Shared) : Prop :=
  match r with
  | .ok _ => ∃ m, t.heap.Ns ce.locals m ∧ ∀ g, Heap.SameBut ce.locals t.heap g → Q acc { t with heap := g }
  | .error x => ∃ m, t.heap.Ns ce.locals m ∧ ∀ g, Heap.SameBut ce.locals t.heap g →
      wpAny M A (PySem.passOn "comprehension.variables-let-go" x ce : Sem Value) (fun _ _ => False) E { t with heap := g }
theorem compAny {M : Model} {A : Around} {E : Value → Shared → Prop} {s : Shared} {env : Env} {e : Expr} {scope : Scope} {pos : Pos} {acc0 first : Sem Value} {c : Comprehension} {cs : List Comprehension} {cl : List (Str × Addr)} {Q : Value → Shared → Prop}
    (clauses : clausesOf e = c :: cs) (plain : ∀ x, foldedSetIterable c.iter env x = pure x) (clos : closureFor scope env = pure cl) (fn : scope.kind = .function)
    (loc : ∀ y ∈ scope.names, y.2 = .local → scope.names.lookup y.1 = some .local)
    (h : wpAny M A first (fun x t1 => wpAny M A (pyIter x) (fun it t2 => wpAny M A acc0 (fun acc t3 => wpAny M A (newFunctionEnv scope env.globals cl [] env.qual none .none (some env))
      (fun ce t4 => codeAny M A (.compStart e 0 it acc { ce with scope := relabel scope env }) (Behind M A E Q acc { ce with scope := relabel scope env }) t4) E t3) E t2) E t1) E s) :
    wpAny M A (comprehension e scope env pos acc0 false first) Q E s := by
  unfold comprehension
  rw [clos, clauses]
  refine wpAny_bind (wpAny_mono h (fun x t1 k1 => ?_) fun _ _ z => z)
  refine wpAny_bind (wpAny_standAt (wpAny_bind (wpAny_of_eq (plain x) (wpAny_bind (wpAny_holding ?_)))))
  refine wpAny_mono k1 (fun it t2 k2 => wpAny_standIf (wpAny_bind ?_)) fun _ _ z => z
  refine wpAny_mono k2 (fun acc t3 k3 => wpAny_bind (wpAny_pure (wpAny_bind ?_))) fun _ _ z => z
  refine wpAny_mono k3 (fun ce t4 k4 => ?_) fun _ _ z => z
  dsimp only
  have own : ∀ y ∈ (scope.names.filter fun y => (y.2 == .local || y.2 == .cell) && y.1 != (".0" : Str)).reverse, y.2 = .local → Env.kindOf { ce with scope := relabel scope env } y.1 = some .local :=
    fun y my ey => lookup_relabel_local (loc y (List.mem_filter.mp (List.mem_reverse.mp my)).1 ey)
  refine wpAny_holding (wpAny_bind (wpAny_attempt (wpAny_holding (wpAny_run (codeAny_mono k4 fun r t5 k5 => ?_)))))
  cases r with
  | ok f =>
    obtain ⟨m, nm, k6⟩ := k5
    exact wpAny_bind (wpAny_holding (wpAny_comp_letGo (cenv := { ce with scope := relabel scope env }) fn _ t5 m own nm fun g m' _ sb => wpAny_pure (k6 g sb)))
  | error x =>
    obtain ⟨m, nm, k6⟩ := k5
    exact wpAny_bind (wpAny_holding (wpAny_comp_letGo (cenv := { ce with scope := relabel scope env }) fn _ t5 m own nm fun g m' _ sb => wpAny_mono (k6 g sb) (fun _ _ f => f.elim) fun _ _ z => z))
theorem frames_cut {h g B B' : Heap} : ∀ {l : List Env}, (∀ L ∈ frs l, g.get? L = h.get? L) → (∀ L ∈ frs l, B'.get? L = none) → h.FunFrames B l → g.FunFrames B' l
  | [], _, _, _ => trivial
  | env :: l, k, n, ⟨kd, ⟨L, o, ef, _, eo, nd⟩, r⟩ => by
    have mL : L ∈ frs (env :: l) := List.mem_filterMap.mpr ⟨env, List.mem_cons_self, ef⟩
    have sub : ∀ M ∈ frs l, M ∈ frs (env :: l) := fun M hM => by
      obtain ⟨e, he, q⟩ := List.mem_filterMap.mp hM
      exact List.mem_filterMap.mpr ⟨e, List.mem_cons_of_mem _ he, q⟩
    exact ⟨kd, ⟨L, o, ef, n L mL, by rw [k L mL]; exact eo, nd⟩, frames_cut (fun M hM => k M (sub M hM)) (fun M hM => n M (sub M hM)) r⟩
/-- an exception leaves the block's code, whose own names lie at C -/
theorem leak {X : Cx} {Ek : XK} (tk : L2N.Takes X (fun cls d _ H => Ek cls d H)) (hst : X.stack = X.env :: X.outer) (hf : X.env.frame = some X.env.locals) {ce : Env} (ef : ce.frame = X.env.frame) (note : ∀ e, noteFrame e ce = noteFrame e X.env)
    {pins : List (Addr × Obj)} {σ : L2.St} {H : Hp} {s s' : Shared} {e : Value} {Q : Value → Shared → Prop} {E2 : Value → Shared → Prop} {acc : Value} (I : Inv X pins σ H s) (fC : FpOk X pins H ce.locals) (out : ce.locals ∉ frs X.stack) {m : Str → Option Value} (nm : s.heap.Ns ce.locals m)
    (c : L2N.CX X.prog X.w X.stack H s Ek e s') :
    wpAny (model X.prog X.w) X.A (noteFrame e ce) (fun _ t => Behind (model X.prog X.w) X.A X.xe Q acc ce (.error e) t) E2 s' := by
  obtain ⟨a, B, H2, cls, d, rfl, fly, tracked, ub, na, os, ag, wish⟩ := c
  rw [note]
  have out' : ce.locals ∉ frs (X.env :: X.outer) := by rw [← hst]; exact out
  rw [hst] at fly ub
  have hfr : X.A.frames = some (X.env :: X.outer) := by rw [I.ok.frames, hst]
  obtain ⟨oC, es, ep, eC, dC, rC⟩ := id nm
  have bC : B.get? ce.locals = some oC := ub.keep _ _ eC fC.1 out'
  have h2C : H2 ce.locals = none := ub.free _ _ eC fC.1
  refine PXN.looks_onZ L2N.Zn.steady hfr hf fly fun h1 held up1 => ?_
  obtain ⟨stays1, noA, fun1, traced1⟩ := held
  have e1C : h1.get? ce.locals = some oC := stays1 _ _ bC
  refine ⟨m, ⟨oC, es, ep, e1C, dC, rC⟩, fun g sb => ?_⟩
  obtain ⟨oe, vs, T, oT, ts, ea, za, da, h1a, nT, nTa, eT, dT, h3T⟩ := traced1
  have neA : a ≠ ce.locals := fun z => by
    rw [z, e1C] at ea
    cases ea
    rw [dC] at da
    cases da
  have neT : T ≠ ce.locals := fun z => by
    rw [z, e1C] at eT
    cases eT
    rw [dC] at dT
    cases dT
  obtain ⟨B', inB, outB⟩ := restrict B fun b => decide (b ≠ ce.locals)
  have ofB' : ∀ b o, B'.get? b = some o → b ≠ ce.locals ∧ B.get? b = some o := fun b o q => by
    by_cases z : b = ce.locals
    · rw [outB b (decide_eq_false fun y => y z)] at q
      cases q
    · rw [inB b (decide_eq_true z)] at q
      exact ⟨z, q⟩
  have toB' : ∀ b o, b ≠ ce.locals → B.get? b = some o → B'.get? b = some o := fun b o z q => by
    rw [inB b (decide_eq_true z)]
    exact q
  have nonB' : ∀ b, B.get? b = none → B'.get? b = none := fun b q => by
    cases z : B'.get? b with
    | none => rfl
    | some o => rw [(ofB' b o z).2] at q; cases q
  have frNe : ∀ L ∈ frs (X.env :: X.outer), L ≠ ce.locals := fun L hL z => out' (by rw [← z]; exact hL)
  have stays2 : B'.StaysIn g := fun b o q => by
    obtain ⟨z, q2⟩ := ofB' b o q
    rw [sb.2 b z]
    exact stays1 b o q2
  have fun2 : g.FunFrames B' (X.env :: X.outer) := frames_cut (fun L hL => sb.2 L (frNe L hL)) (fun L hL => nonB' L (fun1.mem hL).1) fun1
  have traced2 : HandSPX.TracedZ g B' a (L2N.Zn cls d) (rawInt X.env.locals) := ⟨oe, vs, T, oT, ts, (sb.2 a neA).trans ea, za, da, h1a, nonB' T nT, nTa, (sb.2 T neT).trans eT, dT, h3T⟩
  unfold PySem.passOn
  refine wpAny_bind (wpAny_field (s := { s' with heap := g }) ((sb.2 a neA).trans ea) da h1a ?_)
  rw [if_neg (show ¬ ((Value.ref T == Value.none) = true) from by simp), ef, hf]
  have last : wpAny (model X.prog X.w) X.A (setFlight (.ref a) (some X.env.locals)) (fun _ t => wpAny (model X.prog X.w) X.A (throw (.ref a) : Sem Value) (fun _ _ => False) X.xe t) X.xe { s' with heap := g } := by
    refine HandSPX.setFlight_anyZ stays2 fun2 traced2 fun h4 k1 k2 k3 k4 => wpAny_throw (tk _ _ ?_)
    have k3' : HandSPX.TracedZ h4 B' a (L2N.Zn cls d) (rawInt X.env.locals) := k3
    obtain ⟨G, inG, outG⟩ := restrict h4 fun b => (B'.get? b).isSome || decide (b ∈ frs X.stack)
    have gB : ∀ b o, B'.get? b = some o → G.get? b = some o := fun b o q => by
      rw [inG b (by simp [q])]
      exact k1 b o q
    have gF : ∀ b, b ∈ frs X.stack → G.get? b = h4.get? b := fun b hb => inG b (by simp [hb])
    have ofG : ∀ b o, G.get? b = some o → h4.get? b = some o ∧ ((B'.get? b).isSome = true ∨ b ∈ frs X.stack) := fun b o q => by
      cases z : ((B'.get? b).isSome || decide (b ∈ frs X.stack)) with
      | false => rw [outG b z] at q; cases q
      | true =>
        rw [inG b z] at q
        exact ⟨q, by simpa [Bool.or_eq_true] using z⟩
    have inFr : ∀ b, b ∈ frs X.stack → b ∈ frs (X.env :: X.outer) := fun b hb => by rw [← hst]; exact hb
    -- a caller's frame: up to its slots the same all along
    have slots : ∀ b o, s.heap.get? b = some o → b ∈ frs X.stack → ∃ sl, h4.get? b = some { o with slots := sl } := fun b o q hb => by
      obtain ⟨sl, q1⟩ := ub.slot b o q (inFr b hb)
      have nd : ∀ vs, o.data ≠ .fields vs := fun vs z => by
        obtain ⟨_, o', q', nd'⟩ := fly.2.2.1.mem (inFr b hb)
        rw [q1] at q'
        cases q'
        exact nd' vs z
      obtain ⟨sl2, q2⟩ := up1 b _ q1 nd
      have q3 : g.get? b = _ := (sb.2 b (frNe b (inFr b hb))).trans q2
      obtain ⟨sl4, q4⟩ := k4 b _ q3 nd
      exact ⟨sl4, q4⟩
    refine ⟨a, B', { s with heap := G, gens := s'.gens, drawn := s'.drawn, toks := s'.toks }, pins, σ, H2, cls, d, rfl, ?_, fun b o q hb => ?_, Heap.UpToSlots.of_keeps fun b o q => (ofG b o q).1, .inr (.inr ?_), na, os, ag, wish⟩
    · refine I.call (ch := [ce.locals]) ⟨fun b o q n hb hx => ?_, fun b o q n hb _ => ?_, fun b o q n _ => ub.free b o q n, fun b o q hx => ?_, ub.tups, ub.frzs, ub.tbls⟩ (fun b u q => ?_) ag fun b hb => ?_
      · exact gB b o (toB' b o (fun z => hx (by rw [z]; exact List.mem_singleton.mpr rfl)) (ub.keep b o q n fun z => hb (by rw [hst]; exact z)))
      · obtain ⟨sl, q4⟩ := slots b o q hb
        exact ⟨sl, by rw [gF b hb]; exact q4⟩
      · have nb : b ≠ ce.locals := fun z => hx (by rw [z]; exact List.mem_singleton.mpr rfl)
        by_cases hb : b ∈ frs X.stack
        · obtain ⟨sl, q4⟩ := slots b o q hb
          exact ⟨_, by rw [gF b hb]; exact q4⟩
        · obtain ⟨o', q'⟩ := ub.there b o q fun z => hb (by rw [hst]; exact z)
          exact ⟨o', gB b o' (toB' b o' nb q')⟩
      · refine (tracked b u q).stay (fun c v hc y => gB c v (toB' c v (fun z => ?_) y)) (fun _ y => y) fun _ _ y => y
        rcases hc with y | y
        · rw [← y, z, h2C] at q; cases q
        · rw [z, h2C] at y; cases y
      · rw [List.mem_singleton.mp hb]
        exact ⟨fC.2.2.2.1, fC.2.1, fC.2.2.2.2.1, fC.2.2.2.2.2⟩
    · obtain ⟨q', hh⟩ := ofG b o q
      rcases hh with hh | hh
      · obtain ⟨o', y⟩ := Option.isSome_iff_exists.mp hh
        have z := k1 b o' y
        rw [q'] at z
        cases z
        exact y
      · exact absurd hh hb
    · rw [hst]
      exact ⟨k1, nonB' a noA, k2, k3'⟩
  first
    | exact wpAny_bind (wpAny_pure (wpAny_bind last))
    | exact wpAny_bind last
abbrev blkE (X : Cx) (s : Shared) (H : Hp) (scope : Scope) (ce : Env) (fp : List Addr) (xe : Value → Shared → Prop) : Cx := { X.blk s H scope ce fp with xe := xe }
theorem pe_lcX {X : Cx} {Ek : XK} {elt tg iter : Expr} {scope : Scope} {own : List (Str × Nat)} {pos : Pos} {wi : TI} {g : TG} {te : TE} (tk : L2N.Takes X (fun cls d _ H => Ek cls d H)) (hst : X.stack = X.env :: X.outer) (hf : X.env.frame = some X.env.locals)
    (calm : X.calm = true) (nd : X.N.Nodup) (hi : PI X tg iter wi) (ok : BlkOk X.N X.env.scope scope own)
    (hg : ∀ (t : Shared) (G : Hp) (C : Addr) (cl : List (Str × Addr)) (fp : List Addr), PG (X.blk t G scope (compEnvC scope cl C X.env) fp) tg g)
    (he : ∀ (t : Shared) (G : Hp) (C : Addr) (cl : List (Str × Addr)) (fp : List Addr) (xe : Value → Shared → Prop), (∀ σ, PassesAt (L2N.CX X.prog X.w) (blkE X t G scope (compEnvC scope cl C X.env) fp xe) σ Ek) → PE (blkE X t G scope (compEnvC scope cl C X.env) fp xe) elt te)
    (plain : ∀ x, foldedSetIterable iter X.env x = pure x := by intro _; rfl) :
    PE X (.ListComp elt [⟨tg, iter, [], 0⟩] scope pos) (tLc wi g tYes te (own.map (·.2))) := by
  refine ⟨fun pins s σ H Q I h => ?_⟩
  rw [eval_ListComp]
  have frees : ∀ y ∈ scope.names, y.2 = .free → ∃ c, X.env.cells.lookup y.1 = some c := fun y my ey => I.ok.has _ ((ok.free y my ey).imp id id)
  refine compAny rfl plain (closure_ok frees) ok.kind (fun y my ey => by rw [ok.uniq y my, ey]) ?_
  refine thn (hi.run pins s σ H _ I h) fun _ t1 h1 => thn h1 fun _ t2 ⟨it, fp, tn, J, H2, eit, I2, T, at0, fps, q⟩ => ?_
  subst eit
  refine wpAny_newObj_type (newEnv_comp ?_) (by show 0 ≤ sizeLine; decide)
  obtain ⟨D, eD⟩ : ∃ D, D = t2.heap.objs.size := ⟨_, rfl⟩
  have freshD : H2 D = none := I2.hok.fresh (by rw [eD]; exact Nat.le_refl _)
  obtain ⟨W, ⟨m0, w0⟩, turn⟩ := q D freshD
  rw [← eD]
  obtain ⟨t3, et3⟩ : ∃ t3 : Shared, t3 = { t2 with heap := t2.heap.push { cls := .type "list", data := .seq ([] : List Value).toArray } } := ⟨_, rfl⟩
  have I3 : Inv X pins σ (upd H2 D (.lst [])) t3 := by
    rw [et3]
    refine I2.laid (t' := t2.toks) (fun b o e => Heap.get?_push_of_some _ e) (by rw [eD]; exact Nat.le_refl _) ⟨Nat.zero_le _, [], 0, .nil, ?_⟩
    rw [eD]
    exact Heap.get?_push_size _ rfl
  have older : ∀ b ∈ fp, b < t2.heap.objs.size := fun b mb => (T.obj _ _ at0 b mb).elim fun o e => Heap.lt_size e.1
  have size3 : t3.heap.objs.size = t2.heap.objs.size + 1 := by
    rw [et3]
    exact Heap.size_push ..
  have fps3 : ∀ b ∈ fp, FpOk X pins (upd H2 D (.lst [])) b ∧ b < t3.heap.objs.size := fun b mb => by
    have lt := older b mb
    refine ⟨⟨?_, (fps b mb).2⟩, by rw [size3]; exact Nat.lt_succ_of_lt lt⟩
    rw [upd_ne (by rw [eD]; exact Nat.ne_of_lt lt)]
    exact (fps b mb).1
  have at3 : tn 0 t3.heap := T.keep _ _ _ at0 fun b _ o e => by
    rw [et3]
    exact Heap.get?_push_of_some _ e
  have IB := block_start I3 ok nd fps3
  show codeAny _ _ (.compStart (.ListComp elt [⟨tg, iter, [], 0⟩] scope pos) 0 (.ref it) (.ref D) (compEnvC scope (cellsFrom ((t2.heap.push { cls := .type "list", data := .seq ([] : List Value).toArray }).objs.size + 1) scope.names (cloFrom X.env.cells scope.names [])) (t2.heap.push { cls := .type "list", data := .seq ([] : List Value).toArray }).objs.size X.env))
    (Behind (model X.prog X.w) X.A X.xe _ (.ref D) (compEnvC scope (cellsFrom ((t2.heap.push { cls := .type "list", data := .seq ([] : List Value).toArray }).objs.size + 1) scope.names (cloFrom X.env.cells scope.names [])) (t2.heap.push { cls := .type "list", data := .seq ([] : List Value).toArray }).objs.size X.env)) _
  have h3 : t3.heap = t2.heap.push { cls := .type "list", data := .seq ([] : List Value).toArray } := by rw [et3]
  rw [← h3]
  obtain ⟨cl, ecl⟩ : ∃ cl, cl = cellsFrom (t3.heap.objs.size + 1) scope.names (cloFrom X.env.cells scope.names []) := ⟨_, rfl⟩
  obtain ⟨C, eC⟩ : ∃ C, C = t3.heap.objs.size := ⟨_, rfl⟩
  rw [← ecl] at IB ⊢
  rw [← eC] at IB ⊢
  have pg := hg t3 (upd H2 D (.lst [])) C cl fp
  obtain ⟨ce, ece⟩ : ∃ ce, ce = compEnvC scope cl C X.env := ⟨_, rfl⟩
  have ceL : ce.locals = C := by rw [ece]; rfl
  have ceF : ce.frame = X.env.frame := by rw [ece]; rfl
  have ceN : ∀ e, noteFrame e ce = noteFrame e X.env := fun e => by rw [ece]; rfl
  have pe := he t3 (upd H2 D (.lst [])) C cl fp (notedBy (model X.prog X.w) X.A ce fun e t' => Behind (model X.prog X.w) X.A X.xe (fun v s' => ∃ y H', Inv X pins σ H' s' ∧ RelV y v ∧ Q y H') (.ref D) ce (.error e) t')
  rw [← ece] at IB pg pe ⊢
  have back : ∀ {p : List (Addr × Obj)} {σ' : L2.St} {H' : Hp} {t : Shared} {xe : Value → Shared → Prop}, Inv (blkE X t3 (upd H2 D (.lst [])) scope ce fp xe) p σ' H' t → Inv X pins σ H' t := fun {p σ' H' t xe} J => I3.call' (ch := fp) J.os J.base J.hok J.bare fun b mb =>
    let z := (fps3 b mb).1; ⟨z.2.2.2.1, z.2.1, z.2.2.2.2.1, z.2.2.2.2.2⟩
  have newC : ∀ {p : List (Addr × Obj)} {σ' : L2.St} {H' : Hp} {t : Shared} {xe : Value → Shared → Prop}, Inv (blkE X t3 (upd H2 D (.lst [])) scope ce fp xe) p σ' H' t → FpOk X pins H' ce.locals := fun {p σ' H' t xe} J => I3.fpOk (by rw [ceL, eC]; exact Nat.le_refl _) J.free
  have outC : ce.locals ∉ frs X.stack := fun z => by
    rcases List.mem_cons.mp (I3.stkSub _ z) with y | y
    · exact (I3.fpOk (H' := fun _ => none) (b := ce.locals) (by rw [ceL, eC]; exact Nat.le_refl _) rfl).2.1 y
    · exact (I3.fpOk (H' := fun _ => none) (b := ce.locals) (by rw [ceL, eC]; exact Nat.le_refl _) rfl).2.2.1 y
  have PE1 := pe fun σ' p H' t e t' J c => by
    obtain ⟨m, nm, _⟩ := J.loc
    exact leak tk hst hf ceF ceN (back J) (newC J) outC nm c
  obtain ⟨t4, et4⟩ : ∃ t4 : Shared, t4 = { t3 with heap := pushCells (t3.heap.push { cls := .type "dict", data := .dict #[] }) scope.names } := ⟨_, rfl⟩
  have e4 : ({ t2 with heap := pushCells (t3.heap.push { cls := .type "dict", data := .dict #[] }) scope.names } : Shared) = t4 := by rw [et4, et3]
  rw [← et4] at IB
  rw [e4]
  have at4 : tn 0 t4.heap := T.keep _ _ _ at3 fun b _ o e => by
    rw [et4]
    exact pushCells_keeps _ _ _ _ (Heap.get?_push_of_some _ e)
  have loop : codeAny (model X.prog X.w) X.A (.compLoop (.ListComp elt [⟨tg, iter, [], 0⟩] scope pos) 0 (.ref it) (.ref D) ce) (Behind (model X.prog X.w) X.A X.xe (fun v s' => ∃ y H', Inv X pins σ H' s' ∧ RelV y v ∧ Q y H') (.ref D) ce) t4 := by
    refine compLoop_any (fun n t => ∃ i G, Inv (X.blk t3 (upd H2 D (.lst [])) scope ce fp) [] (wipe σ (own.map (·.2))) G t ∧ tn i t.heap ∧ (∀ b ∈ fp, G b = none) ∧ W i n G) ?_ m0 ⟨0, _, IB, at4, fun b mb => (fps3 b mb).1.1, w0⟩
    rintro n t5 ⟨i, G5, I5, at5, no5, w5⟩
    have stand : ∀ {σ' : L2.St} {G : Hp} {t : Shared}, Inv (X.blk t3 (upd H2 D (.lst [])) scope ce fp) [] σ' G t → (∀ b ∈ fp, G b = none) → ∀ b ∈ fp, FpOk (X.blk t3 (upd H2 D (.lst [])) scope ce fp) [] G b := fun {σ' G t} J no b mb =>
      ⟨no b mb, (J.ok.exf b mb).1, J.ok.exfs b mb, .inl mb, fun y c e => (J.ok.exf b mb).2 y c e, fun p hp => absurd (show p ∈ ([] : List (Addr × Obj)) ++ [] from hp) (by simp)⟩
    rcases turn i n G5 w5 with ⟨stop, done⟩ | ⟨go, Nx, less, step⟩
    · refine thnF (T.done (X.blk t3 (upd H2 D (.lst [])) scope ce fp) rfl rfl rfl calm i [] t5 _ G5 (fun _ _ => False) I5 (stand I5 no5) at5 stop) fun r t6 ⟨hr, I6⟩ => ?_
      subst hr
      obtain ⟨m, nm, _⟩ := I6.loc
      have f6 := newC (xe := fun _ _ => False) I6
      have J6 := back (xe := fun _ _ => False) I6
      refine ⟨m, nm, fun g sb => ⟨.ref D, G5, J6.turned (t' := t6.toks) (fun b o nb e => (sb.2 b nb).trans e) f6.1 f6.2.1 f6.2.2.2.1 f6.2.2.2.2.1 f6.2.2.2.2.2, rfl, done⟩⟩
    · refine thnF (T.item (X.blk t3 (upd H2 D (.lst [])) scope ce fp) rfl rfl rfl calm i [] t5 _ G5 (fun _ _ => False) I5 (stand I5 no5) at5 go) fun r t6 ⟨u, hr, k6⟩ => ?_
      subst hr
      refine thnF k6 fun _ t7 ⟨x, G7, I7, r7, y7, at7, no7⟩ => ?_
      have P7 := I7.pinned (stand I7 no7) (T.obj _ _ at7)
      refine thnF (pg.run _ t7 _ G7 x u _ P7 r7 (step x G7 y7)) fun _ t8 ⟨σ8, G8, I8, wiped, k8⟩ => ?_
      refine wpAny_tests_nil ?_
      rw [if_pos rfl]
      have k8 : te σ8 G8 fun y G9 => ∃ acc, G9 D = some (.lst acc) ∧ acc.length < sizeLine ∧ Nx (upd G9 D (.lst (acc ++ [y]))) := by
        have z := k8
        unfold tYes at z
        simpa using z
      refine wpAny_mono (PE1.run _ t8 σ8 G8 _ (letOut I8) k8) (fun v t9 ⟨y, G9, I9, r9, acc, e9, z9, nx⟩ => ?_) fun e t z => ?_
      · have I9' : Inv (X.blk t3 (upd H2 D (.lst [])) scope ce fp) ([] ++ pinsAt fp t7.heap) σ8 G9 t9 := letOut (xe := fun _ _ => False) I9
        refine app_ok (X := X.blk t3 (upd H2 D (.lst [])) scope ce fp) I9' e9 z9 r9 fun t10 I10 => ?_
        obtain ⟨m', lt, w'⟩ := less _ nx
        have held : ∀ b ∈ fp, ∀ o, t7.heap.get? b = some o → t10.heap.get? b = some o ∧ (upd G9 D (.lst (acc ++ [y]))) b = none := fun b mb o e =>
          let z := I10.pin (b, o) (List.mem_append_right _ (List.mem_append_right _ (mem_pinsAt mb e)))
          ⟨z.1, z.2.1⟩
        refine ⟨m', lt, i + 1, _, (I10.unpinned (pins := [])).weak (by rw [← wiped, wipe_length]) (fun j v e => ?_), T.keep _ _ _ at7 fun b mb o e => (held b mb o e).1, fun b mb => ?_, w'⟩
        · rw [← wiped] at e
          exact (wipe_some e).1
        · obtain ⟨o, e, _⟩ := T.obj _ _ at7 b mb
          exact (held b mb o e).2
      · exact z
  exact codeAny_compStart_list loop (T.self X.A 0 _ _ _ at4 loop)
end My
set_option Elab.async false
set_option linter.all false
set_option maxRecDepth 100000
set_option maxHeartbeats 4000000
namespace My
open PySem PySem.Spec PyProof.Rows L2

/-- [e for .. in xs]: e gives data without lists, or lets an exception out -/
theorem lcQX {K : PySem.W.Frag} {β : Type} {vs : List Nat} {σ : L2.St} {H : Hp} {Q : VK} {ti te : TE} {G : TG} {a : Addr} {xs : List V} {ds : List PyData} (f : PyData → Option β) (g : PyData → PyData) (hv : ∀ R : VK, R (.ref a) H → ti σ H R) (hs : SqV K H a xs) (hd : DqAll H xs ds) (few : ds.length ≤ 1000) (hg : ∀ d ∈ ds, f d = none → noL (g d) = true)
    (ht : ∀ (i : Nat) (x : V) (d : PyData) (H' : Hp) (R : VK) (N : Hp → Prop), d ∈ ds → Same H H' → Dq H' x d → (f d = none → ∀ y H'', Same H' H'' → Dq H'' y (g d) → R y H'') → (∀ w, f d = some w → firstW f 0 ds = some (w, i)) → G x (wipe σ vs) H' fun σ2 H2 => wipe σ2 vs = wipe σ vs ∧ if true = true then te σ2 H2 R else N H2)
    (hq : firstW f 0 ds = none → ∀ (D : Addr) (ys : List V) (H' : Hp), Same H H' → H D = none → H' D = some (.lst ys) → DqAll H' ys (ds.map g) → Q (.ref D) H') : tLc (iSeq K ti) G tYes te vs σ H Q := by
  have len := hd.len
  refine wi_seq hv hs _ fun J GG w hG => fun D nD => ?_
  let Pv : Nat → Hp → Prop := fun i H' => Same H H' ∧ firstW f 0 ds = firstW f i (ds.drop i) ∧ (∀ d ∈ ds.take i, f d = none) ∧ ∃ ys, H' D = some (.lst ys) ∧ DqAll H' ys ((ds.take i).map g)
  refine ⟨fun i m H' => m = xs.length - i ∧ i ≤ xs.length ∧ Pv i H', ⟨xs.length, rfl, Nat.zero_le _, same_upd nD, rfl, (by simp), [], upd_same, .nil⟩, ?_⟩
  rintro i m H' ⟨rfl, hi, s1, ef, old, ys, hD, hys⟩
  by_cases lt : i < xs.length
  · refine .inr ⟨w.goes i H' lt (hG _ s1), Pv (i + 1), fun H2 p => ⟨xs.length - (i + 1), by omega, rfl, lt, p⟩, ?_⟩
    intro x H2 y
    obtain ⟨rfl, ex⟩ := w.yields i H' x H2 lt (hG _ s1) y
    obtain ⟨d, ed, hxd⟩ := hd.get ex
    have md := List.mem_of_getElem? ed
    have li := (List.getElem?_eq_some_iff.mp ed).1
    have ei : ds[i] = d := (List.getElem?_eq_some_iff.mp ed).2
    rw [firstW_drop li, ei] at ef
    refine ht i x d H2 _ (Pv (i + 1)) md s1 (hxd.keep s1) (fun z y H4 s4 hy => ⟨ys, s4 _ _ hD, ?_, same_but (s1.trans s4) nD, ?_, ?_, ys ++ [y], upd_same, ?_⟩) (fun w z => by rw [z] at ef; exact ef)
    · rw [hys.len, List.length_map, List.length_take]
      exact small1000 (by omega)
    · rw [z] at ef
      exact ef
    · intro e he
      rw [List.take_add_one, ed] at he
      rcases List.mem_append.mp he with m | m
      · exact old e m
      · rw [List.mem_singleton.mp m]
        exact z
    · rw [List.take_add_one, ed, List.map_append]
      refine dqAll_put (s4 _ _ hD) _ _ (noLs_of fun e he => ?_) ((hys.keep s4).snoc hy)
      rcases List.mem_append.mp he with m | m
      · obtain ⟨d', m', rfl⟩ := List.mem_map.mp m
        exact hg d' (List.mem_of_mem_take m') (old d' m')
      · rw [List.mem_singleton.mp m]
        exact hg d md z
  · have e : i = xs.length := by omega
    subst e
    rw [len, List.drop_length] at ef
    rw [len, List.take_length] at hys
    exact .inl ⟨w.stops H' (hG _ s1), hq ef D ys H' s1 nD hD hys⟩
/-- a call that may raise, where what it raises passes -/
theorem pe_cP {X : Cx} {k j : Nat} {x : Str} {sp : Sp} {Ek : XK} {p pos : Pos} {e : Expr} {es : List Expr} {t : TA} (c : CalX X.prog X.w X.K X.mg X.base k x sp) (hp : ∀ σ, PassesAt (L2N.CX X.prog X.w) X σ Ek) (hr : Room j X.A) (hk : k ≤ j) (hg : Gl X x) (ha : PA X (e :: es) t)
    (d1 : (x == ("__debug__" : Str)) = false := by decide) (d2 : starEach (e :: es) X.env = (false, eval e X.env) :: starEach es X.env := by rfl) (d3 : (backTo pos (starEach es X.env)).any (·.1) = false := by rfl) :
    PE X (.Call (.Name x p) (e :: es) [] pos) (tCallSD sp [] (fun _ => Ek) t) := by
  obtain ⟨f, fd, ps, F, gx, kp, b⟩ := c.ex
  exact pe_callSD F (hr.mono hk) hg gx kp b .nil hp ha d1 d2 d3
/-! ### questions judged -/
def vOf : PyData → V
  | .int i => .int i
  | .str s => .str s
  | _ => .non
def bodyV (d : PyData) : List (Int × List V) := (itemsD d).map fun a => (tabD (itemD a 0), (itemsD (itemD a 1)).map vOf)
def namesD (d : PyData) : List Str := unlN ((bodyV d).map (·.2)).flatten
def qErr (ws : List Int) (d : PyData) : Option (Str × Int) :=
  if !lenIn 3 3 d then some ("form", 0) else match bodyR ws (itemD d 1) with
    | some e => some e
    | none => match headR (namesD (itemD d 1)) (itemD d 0) with
      | some i => some ("head", i)
      | none => (pairsR (namesD (itemD d 1)) (itemD d 2)).map fun i => ("unlike", i)
def qGood (d : PyData) : PyData := .tuple [headT (itemD d 0), bodyT (itemD d 1), pairsT (itemD d 2)]
theorem vOf_all {H : Hp} : ∀ {vs : List V} {ds : List PyData}, DqAll H vs ds → (∀ d ∈ ds, termD d = true) → vs = ds.map vOf
  | _, _, .nil, _ => rfl
  | _, _, .cons h a, k => by
    rw [List.map_cons, vOf_all a fun d m => k d (List.mem_cons_of_mem _ m)]
    congr 1
    have z := k _ (List.mem_cons_self ..)
    cases h with
    | int i => rfl
    | str s => rfl
    | _ => cases z
theorem flat_len {L : List (List V)} : (∀ l ∈ L, l.length ≤ 3) → L.flatten.length ≤ 3 * L.length := by
  induction L with
  | nil => intro _; exact Nat.le_refl _
  | cons l r ih =>
    intro h
    have h1 := h l (List.mem_cons_self ..)
    have h2 := ih fun x m => h x (List.mem_cons_of_mem _ m)
    rw [List.flatten_cons, List.length_append, List.length_cons]
    omega
/-- what a body that was let looks like -/
theorem body_ok {ws : List Int} {d : PyData} (h : bodyR ws d = none) : 1 ≤ (itemsD d).length ∧ (itemsD d).length ≤ 8 ∧ ∀ a ∈ itemsD d, ∃ t r rs i, seqOf a = some [t, r] ∧ itemD a 0 = t ∧ itemD a 1 = r ∧ seqOf r = some rs ∧ t = .int i ∧ 0 ≤ i ∧ i < ws.length ∧ (rs.length : Int) = ws.getD i.toNat 0 ∧ ∀ y ∈ rs, termD y = true := by
  unfold bodyR at h
  cases hl : lenIn 1 8 d with
  | false => rw [hl] at h; cases h
  | true =>
    rw [hl, if_pos rfl] at h
    obtain ⟨ds, ed, ei⟩ := lenIn_seq hl
    have z := hl
    unfold lenIn at z
    rw [ed] at z
    obtain ⟨z1, z2⟩ := Bool.and_eq_true_iff.mp z
    have z1 := of_decide_eq_true z1
    have z2 := of_decide_eq_true z2
    rw [ei] at h ⊢
    have e : firstW (wordD "atom" "term" termD ws) 0 ds = none := by
      cases q : firstW (wordD "atom" "term" termD ws) 0 ds with
      | none => rfl
      | some u => rw [q] at h; cases h
    refine ⟨by omega, by omega, fun a m => ?_⟩
    have good := firstW_none e a m
    unfold wordD at good
    cases hp : placeD ws a with
    | some w =>
      rw [hp] at good
      dsimp only at good
      by_cases hw : w = ("row" : Str)
      · rw [if_pos hw] at good; cases good
      · rw [if_neg hw] at good; cases good
    | none =>
      rw [hp] at good
      dsimp only at good
      obtain ⟨t, r, rs, k, et, e0, e1, er, eu, k0, k1, k2⟩ := place_seq hp
      rw [e1, itemsD_some er] at good
      refine ⟨t, r, rs, k, et, e0, e1, er, eu, k0, k1, k2, fun y my => ?_⟩
      cases ht : rs.all termD with
      | true => exact List.all_eq_true.mp ht y my
      | false => rw [ht] at good; cases good
theorem ws_three {ws : List Int} (h : wRes ws = none) {i : Nat} (hi : i < ws.length) : ws.getD i 0 ≤ 3 := by
  unfold wRes at h
  by_cases hl : 1 ≤ ws.length ∧ ws.length ≤ 6
  · rw [if_pos hl] at h
    have e : firstW wBad 0 ws = none := by
      cases q : firstW wBad 0 ws with
      | none => rfl
      | some u => rw [q] at h; cases h
    have z := firstW_none e ws[i] (List.getElem_mem hi)
    rw [List.getD_eq_getElem?_getD, List.getElem?_eq_getElem hi]
    unfold wBad at z
    by_cases hb : 1 ≤ ws[i] ∧ ws[i] ≤ 3
    · exact hb.2
    · rw [if_neg hb] at z; cases z
  · rw [if_neg hl] at h; cases h
theorem body_at {K : PySem.W.Frag} {H : Hp} {ws : List Int} {d : PyData} {x : V} (h : bodyR ws d = none) (hw : wRes ws = none) (hx : Dq H x (bodyT d)) : ∃ b bs, x = .ref b ∧ H b = some (.tup bs) ∧ Paired (AtomAt K H) bs (bodyV d) ∧ ((bodyV d).map (·.2)).flatten.length ≤ 1000 ∧ (∀ v ∈ ((bodyV d).map (·.2)).flatten, flatV v = true) := by
  obtain ⟨n1, n8, ok⟩ := body_ok h
  cases hx with
  | @tup b bs _ hb hall =>
  refine ⟨b, bs, rfl, hb, ?_, ?_, ?_⟩
  · have go : ∀ (ds : List PyData) (vs : List V), (∀ a ∈ ds, a ∈ itemsD d) → DqAll H vs (ds.map atomT) → Paired (AtomAt K H) vs (ds.map fun a => (tabD (itemD a 0), (itemsD (itemD a 1)).map vOf)) := by
      intro ds
      induction ds with
      | nil => intro vs _ hv; cases hv; exact .nil
      | cons a r ih =>
        intro vs mem hv
        rw [List.map_cons] at hv
        cases hv with
        | cons h1 h2 =>
        rw [List.map_cons]
        refine .cons ?_ (ih _ (fun y m => mem y (List.mem_cons_of_mem _ m)) h2)
        obtain ⟨t, r, rs, k, _, e0, e1, er, eu, _, _, _, terms⟩ := ok a (mem a (List.mem_cons_self ..))
        unfold atomT headT at h1
        rw [e0, e1, itemsD_some er] at h1
        subst eu
        cases h1 with
        | @tup p _ _ hp hpa =>
        cases hpa with
        | cons hi hr =>
        cases hi
        cases hr with
        | cons hr hn =>
        cases hn
        cases hr with
        | @tup q zs _ hq hqa =>
        have et : tabD (itemD a 0) = k := by rw [e0]; rfl
        rw [← et] at hp
        refine ⟨p, q, rfl, SqT.of hp, ?_⟩
        rw [e1, itemsD_some er, ← vOf_all hqa terms]
        exact SqT.of hq
    exact go _ _ (fun _ m => m) hall
  · refine Nat.le_trans (flat_len fun l m => ?_) ?_
    · obtain ⟨u, mu, rfl⟩ := List.mem_map.mp m
      obtain ⟨a, ma, rfl⟩ := List.mem_map.mp mu
      obtain ⟨t, r, rs, k, _, e0, e1, er, eu, k0, k1, k2, _⟩ := ok a ma
      show ((itemsD (itemD a 1)).map vOf).length ≤ 3
      rw [e1, itemsD_some er, List.length_map]
      have := ws_three hw (i := k.toNat) (by omega)
      omega
    · unfold bodyV
      rw [List.length_map, List.length_map]
      omega
  · intro v mv
    obtain ⟨l, ml, mv⟩ := List.mem_flatten.mp mv
    obtain ⟨u, mu, rfl⟩ := List.mem_map.mp ml
    obtain ⟨a, ma, rfl⟩ := List.mem_map.mp mu
    obtain ⟨y, my, rfl⟩ := List.mem_map.mp mv
    obtain ⟨t, r, rs, k, _, e0, e1, er, _, _, _, _, terms⟩ := ok a ma
    have my : y ∈ itemsD (itemD a 1) := my
    rw [e1, itemsD_some er] at my
    have z := terms y my
    cases y with
    | int i => rfl
    | str s => rfl
    | _ => cases z
theorem head_noL {ls : List Str} {d : PyData} (h : headR ls d = none) : noL (headT d) = true := by
  unfold headR at h
  cases hl : lenIn 0 3 d with
  | false => rw [hl] at h; cases h
  | true =>
    rw [hl, if_pos rfl] at h
    have e : firstW (headW ls) 0 (itemsD d) = none := by
      cases q : firstW (headW ls) 0 (itemsD d) with
      | none => rfl
      | some u => rw [q] at h; cases h
    unfold headT
    rw [noL]
    exact noLs_of fun t m => told_noL (headW_told (firstW_none e t m))
theorem pairs_noL {ls : List Str} {d : PyData} (h : pairsR ls d = none) : noL (pairsT d) = true := by
  unfold pairsR at h
  cases hl : lenIn 0 8 d with
  | false => rw [hl] at h; cases h
  | true =>
    rw [hl, if_pos rfl] at h
    have e : firstW (pairW ls) 0 (itemsD d) = none := by
      cases q : firstW (pairW ls) 0 (itemsD d) with
      | none => rfl
      | some u => rw [q] at h; cases h
    unfold pairsT
    rw [noL]
    refine noLs_of fun t m => ?_
    obtain ⟨u, mu, rfl⟩ := List.mem_map.mp m
    have z := firstW_none e u mu
    unfold pairW at z
    cases hc : lenIn 2 2 u && (itemsD u).all (toldD ls) with
    | false => rw [hc] at z; cases z
    | true =>
      unfold headT
      rw [noL]
      exact noLs_of fun y my => told_noL (List.all_eq_true.mp (Bool.and_eq_true_iff.mp hc).2 y my)
theorem body_noL {ws : List Int} {d : PyData} (h : bodyR ws d = none) : noL (bodyT d) = true := by
  obtain ⟨_, _, ok⟩ := body_ok h
  unfold bodyT
  rw [noL]
  refine noLs_of fun t m => ?_
  obtain ⟨a, ma, rfl⟩ := List.mem_map.mp m
  obtain ⟨t, r, rs, k, _, e0, e1, er, eu, _, _, _, terms⟩ := ok a ma
  unfold atomT headT
  rw [e0, e1, itemsD_some er, noL, noLs, noLs, noLs, eu, noL, noL]
  have z : noLs rs = true := noLs_of fun y my => by
    have z := terms y my
    cases y with
    | list l => cases z
    | tuple l => cases z
    | _ => rfl
  rw [z]
  rfl
theorem good_noL {ws : List Int} {d : PyData} (h : qErr ws d = none) : noL (qGood d) = true := by
  unfold qErr at h
  cases hl : lenIn 3 3 d with
  | false => rw [hl] at h; cases h
  | true =>
    rw [hl] at h
    have h : (match bodyR ws (itemD d 1) with
      | some e => some e
      | none => match headR (namesD (itemD d 1)) (itemD d 0) with
        | some i => some (("head" : Str), i)
        | none => (pairsR (namesD (itemD d 1)) (itemD d 2)).map fun i => (("unlike" : Str), i)) = none := h
    cases hb : bodyR ws (itemD d 1) with
    | some e => rw [hb] at h; cases h
    | none =>
      rw [hb] at h
      dsimp only at h
      cases hh : headR (namesD (itemD d 1)) (itemD d 0) with
      | some i => rw [hh] at h; cases h
      | none =>
        rw [hh] at h
        dsimp only at h
        cases hp : pairsR (namesD (itemD d 1)) (itemD d 2) with
        | some i => rw [hp] at h; cases h
        | none =>
          unfold qGood
          rw [noL, noLs, noLs, noLs, noLs, head_noL hh, body_noL hb, pairs_noL hp]
          rfl
/-- what a raise of an error with a place gives -/
def Rw (B : Addr) (i : Int) (H : Hp) (E : XK) : Prop := ∀ (dd : Addr) (H' : Hp), Same H H' → H dd = none → H' dd = some (.xd [("index", .int i)]) → E (.ref B) (some dd) H'
theorem Rw.from {B : Addr} {i : Int} {H H1 : Hp} {E : XK} (h : Rw B i H E) (s : Same H H1) : Rw B i H1 E := fun dd H' s' n e => h dd H' (s.trans s') (s.free n) e
def spQuestC (BW BQ : Addr) (K : PySem.W.Frag) : Sp := fun vs H Q E => ∃ (x y : V) (ws : List Int) (d : PyData), vs = [x, y] ∧ IntsAt H x ws ∧ ws.length ≤ 1000 ∧ Dq H y d ∧ fewD d = true ∧
  ((∃ i, wRes ws = some i ∧ Rw BW i H E) ∨ (wRes ws = none ∧ ∃ w i, qErr ws d = some (w, i) ∧ Rz BQ w i H E) ∨
   (wRes ws = none ∧ qErr ws d = none ∧ ∀ p H', Same H H' → Dq H' (.ref p) (qGood d) → Q (.ref p) H'))
section
variable {P : Program} {w : World} {K : PySem.W.Frag} {mg : Str → Option Value} {base : Heap}
theorem sc_check_question : FnScope ["widths", "question", "tables", "body", "names"] ["widths", "question"] (defScope (topS 30)) := ⟨rfl, rfl, rfl, by decide +kernel, rfl, by decide +kernel, by decide +kernel⟩
theorem ok_check_question {f : Addr} {fd : FuncData} {dvs : List V} (F : FunD K "check_question" "check_question" (defArgs (topS 30)) (defBody (topS 30)) (defScope (topS 30)) dvs [] f fd) {BW BQ : Addr} (RBadQuestion : ErrF P w K mg base "BadQuestion" BQ ["what", "index"]) (cW : CalX P w K mg base 4 "check_widths" (spCheckW K BW)) (cs : Cal P w K mg base 2 "is_sequence_of" (spSeqOf K)) (cB : CalX P w K mg base 6 "_check_body" (spBodyC BQ K)) (cH : CalX P w K mg base 4 "_check_head" (spHeadC BQ K)) (cP : CalX P w K mg base 4 "_check_pairs" (spPairsC BQ K)) (cN : Cal P w K mg base 3 "names_of" (spNames K)) : FnOk P w K mg base (L2N.CX P w) 7 f fd ["widths", "question"] (spQuestC BW BQ K) := by
  refine F.ok sc_check_question (fun vs H Q E h => ?_) (fun cdv A outer s0 H vs Q E hr h => ?_)
  · obtain ⟨x, y, ws, d, rfl, _⟩ := h
    rfl
  · obtain ⟨x, y, ws, d, rfl, hx, fw, hd, few, q⟩ := h
    refine ⟨_, (pss_cons (ps_set (i := 2) sc_check_question.nd rfl (.inl rfl) (pe_cX cW (L2N.takes_of rfl rfl rfl rfl) hr (by decide) rfl (pa_cons (pv 0) pa_nil)))
      (pss_cons (ps_if (pt_not (pt_val (pe_c cs hr (by decide) rfl (pa_cons (pv 1) (pa_cons pe_int (pa_cons pe_int pa_nil)))))) (pss_one (L2N.ps_raise rfl (L2N.takes_of rfl rfl rfl rfl) (pmk_errF RBadQuestion hr (by decide) (by rfl) (pa_cons pe_str (pa_cons pe_int pa_nil))))) pss_nil)
      (pss_cons (ps_set (i := 3) sc_check_question.nd rfl (.inl rfl) (pe_cX cB (L2N.takes_of rfl rfl rfl rfl) hr (by decide) rfl (pa_cons (pv 2) (pa_cons (pe_ix ix_seq (pv 1) pe_int (fun _ _ => rfl)) pa_nil))))
      (pss_cons (ps_set (i := 4) sc_check_question.nd rfl (.inl rfl) (pe_c cN hr (by decide) rfl (pa_cons (pe_tup (pa_cons (pe_tup pa_nil) (pa_cons (pv 3) (pa_cons (pe_tup pa_nil) pa_nil)))) pa_nil)))
      (pss_one (ps_ret (pe_tup (pa_cons (pe_cX cH (L2N.takes_of rfl rfl rfl rfl) hr (by decide) rfl (pa_cons (pe_ix ix_seq (pv 1) pe_int (fun _ _ => rfl)) (pa_cons (pv 4) pa_nil))) (pa_cons (pv 3) (pa_cons (pe_cX cP (L2N.takes_of rfl rfl rfl rfl) hr (by decide) rfl (pa_cons (pe_ix ix_seq (pv 1) pe_int (fun _ _ => rfl)) (pa_cons (pv 4) pa_nil))) pa_nil)))))))))), ?_⟩
    refine ⟨_, rfl, x, ws, rfl, hx, fw, ?_⟩
    rcases q with ⟨i, ew, q⟩ | q
    · exact .inr ⟨i, ew, q⟩
    have ew : wRes ws = none := q.elim (fun z => z.1) fun z => z.1
    refine .inl ⟨ew, fun p H1 s1 hp => ?_⟩
    have bad : ∀ (w : Str) (i : Int) (H2 : Hp), Same H H2 → qErr ws d = some (w, i) → Rz BQ w i H2 E := fun w i H2 s2 e => by
      rcases q with ⟨_, w', i', z, q⟩ | ⟨_, z, _⟩
      · rw [z] at e
        cases e
        exact q.from s2
      · rw [z] at e; cases e
    refine ⟨_, rfl, y, d, 3, 3, rfl, hd.keep s1, fun H2 s2 => ⟨_, rfl, ?_⟩⟩
    have s02 := s1.trans s2
    cases hl : lenIn 3 3 d with
    | false => exact iteT (rz_err (bad "form" 0 H2 s02 (by unfold qErr; rw [hl]; rfl)))
    | true =>
      refine iteF ?_
      obtain ⟨ds, ed, ei⟩ := lenIn_seq hl
      have l3 : ds.length = 3 := by
        unfold lenIn at hl
        rw [ed] at hl
        obtain ⟨z1, z2⟩ := Bool.and_eq_true_iff.mp hl
        have z1 := of_decide_eq_true z1
        have z2 := of_decide_eq_true z2
        omega
      have eQ : qErr ws d = (match bodyR ws (itemD d 1) with
        | some e => some e
        | none => match headR (namesD (itemD d 1)) (itemD d 0) with
          | some i => some (("head" : Str), i)
          | none => (pairsR (namesD (itemD d 1)) (itemD d 2)).map fun i => (("unlike" : Str), i)) := by
        unfold qErr
        rw [hl]
        rfl
      obtain ⟨a, xs, b, rfl, hs, _, eb, hb⟩ := (hd.keep s02).item (i := 1) ed (by omega)
      have fix := few_item few
      refine ⟨_, rfl, _, rfl, rd_ix (sqv_of hs) eb ⟨b, itemD d 1, p, ws, rfl, hb, SqT.of (s2 _ _ hp), fix 1, ?_⟩⟩
      cases hbd : bodyR ws (itemD d 1) with
      | some e =>
        obtain ⟨w, i⟩ := e
        exact .inr ⟨w, i, rfl, bad w i H2 s02 (by rw [eQ, hbd])⟩
      | none =>
        rw [hbd] at eQ
        dsimp only at eQ
        refine .inl ⟨rfl, fun bp H3 s3 hbp => ?_⟩
        refine ⟨(by show 0 ≤ sizeLine; decide), fun t1 n1 => ⟨_, rfl, (by show 0 ≤ sizeLine; decide), fun t2 n2 => ⟨(by show 3 ≤ sizeLine; decide), fun t3 n3 => ?_⟩⟩⟩
        have s4 := ((same_upd (o := HO.tup []) n1).trans (same_upd (o := HO.tup []) n2)).trans (same_upd (o := HO.tup [V.ref t1, V.ref bp, V.ref t2]) n3)
        obtain ⟨b', bs, eb', hbs, hpr, lfl, fl⟩ := body_at (K := K) hbd ew (hbp.keep s4)
        cases eb'
        refine ⟨t3, ⟨[], bodyV (itemD d 1), []⟩, rfl, ⟨t1, bp, t2, bs, [], SqT.of upd_same, ?_, SqT.of hbs, hpr, ?_, .nil⟩, ⟨by show 0 ≤ 1000; decide, lfl, by show 0 ≤ 1000; decide, (fun _ z => nomatch z), fl, fun _ z => nomatch z⟩, fun nm H5 s5 hn => ?_⟩
        · exact SqT.of (same_upd n3 _ _ (same_upd n2 _ _ upd_same))
        · exact SqT.of (same_upd n3 _ _ upd_same)
        have s35 := s4.trans s5
        have s05 := (s02.trans s3).trans s35
        have hnm : SqT K H5 nm ((namesD (itemD d 1)).map V.str) := SqT.of hn
        obtain ⟨a0, xs0, h0, ea0, hs0, _, eh, hh⟩ := (hd.keep s05).item (i := 0) ed (by omega)
        cases ea0
        refine ⟨_, rfl, rd_ix (sqv_of hs0) eh ⟨_, rfl, h0, itemD d 0, nm, _, rfl, hh, hnm, ?_⟩⟩
        cases hhd : headR (namesD (itemD d 1)) (itemD d 0) with
        | some i => exact .inr ⟨i, rfl, bad "head" i H5 s05 (by rw [eQ, hhd])⟩
        | none =>
          rw [hhd] at eQ
          dsimp only at eQ
          refine .inl ⟨rfl, fun hp1 H6 s6 hhp => ⟨_, rfl, ?_⟩⟩
          have s06 := s05.trans s6
          obtain ⟨a2, xs2, u2, ea2, hs2, _, eu, hu⟩ := (hd.keep s06).item (i := 2) ed (by omega)
          cases ea2
          refine ⟨_, rfl, rd_ix (sqv_of hs2) eu ⟨_, rfl, u2, itemD d 2, nm, _, rfl, hu, seqT_keep hnm s6, fix 2, ?_⟩⟩
          cases hpd : pairsR (namesD (itemD d 1)) (itemD d 2) with
          | some i => exact .inr ⟨i, rfl, bad "unlike" i H6 s06 (by rw [eQ, hpd]; rfl)⟩
          | none =>
            rw [hpd] at eQ
            refine .inl ⟨rfl, fun pp H7 s7 hpp => ⟨(by show 3 ≤ sizeLine; decide), fun z nz => ?_⟩⟩
            rcases q with ⟨_, w, i, e, _⟩ | ⟨_, _, q⟩
            · rw [e] at eQ; cases eQ
            have sz := same_upd (o := HO.tup [V.ref hp1, V.ref bp, V.ref pp]) nz
            refine q z _ ((s06.trans s7).trans sz) (.tup upd_same (.cons (hhp.keep (s7.trans sz)) (.cons (hbp.keep (((s35.trans s6).trans s7).trans sz)) (.cons (hpp.keep sz) .nil))))
end
end My
set_option Elab.async false
set_option linter.all false
set_option maxRecDepth 100000
set_option maxHeartbeats 4000000
namespace My
open PySem PySem.Spec PyProof.Rows L2

/-! ### unions judged -/
/-- what becomes of a union: a wrong question (word, place), wrong in itself (word, place), or good -/
inductive URes where
  | bq (w : Str) (i : Int)
  | bu (w : Str) (i : Int)
  | ok (d : PyData)
def headLen (q : PyData) : Nat := (itemsD (itemD q 0)).length
def lenW (n : Nat) (q : PyData) : Option Unit := if headLen q = n then none else some ()
def uRes (ws : List Int) (d : PyData) : URes :=
  if !lenIn 0 6 d then .bu "many" 0 else match firstW (qErr ws) 0 (itemsD d) with
    | some ((w, i), _) => .bq w i
    | none => match firstW (lenW (headLen (((itemsD d).map qGood).getD 0 .none))) 0 ((itemsD d).map qGood) with
      | some (_, i) => .bu "heads" i
      | none => .ok (.tuple ((itemsD d).map qGood))
def spUnionC (BW BQ BU : Addr) (K : PySem.W.Frag) : Sp := fun vs H Q E => ∃ (x y : V) (ws : List Int) (d : PyData), vs = [x, y] ∧ IntsAt H x ws ∧ ws.length ≤ 1000 ∧ Dq H y d ∧ fewD d = true ∧
  ((∃ i, wRes ws = some i ∧ Rw BW i H E) ∨ (wRes ws = none ∧ ∃ w i, uRes ws d = .bq w i ∧ Rz BQ w i H E) ∨ (wRes ws = none ∧ ∃ w i, uRes ws d = .bu w i ∧ Rz BU w i H E) ∨
   (wRes ws = none ∧ ∃ r, uRes ws d = .ok r ∧ ∀ p H', Same H H' → Dq H' (.ref p) r → Q (.ref p) H'))
/-- the length of the heads of a union of such questions -/
def spHeadLen (K : PySem.W.Frag) : Sp := fun vs H Q _ => ∃ (x : V) (qs : List PyData), vs = [x] ∧ Dq H x (.tuple qs) ∧ (∀ q ∈ qs, ∃ h b u, q = .tuple [.tuple h, b, u]) ∧ Q (match qs with
  | [] => .non
  | q :: _ => .int (headLen q : Nat)) H
theorem qGood_form (d : PyData) : ∃ h b u, qGood d = .tuple [.tuple h, b, u] := ⟨_, _, _, rfl⟩
section
variable {P : Program} {w : World} {K : PySem.W.Frag} {mg : Str → Option Value} {base : Heap}
theorem sc_head_length : FnScope ["union"] ["union"] (defScope (topS 37)) := ⟨rfl, rfl, rfl, by decide +kernel, rfl, by decide +kernel, by decide +kernel⟩
theorem ok_head_length {f : Addr} {fd : FuncData} (F : L2.Fun K "head_length" "head_length" (topS 37) f fd) (m_len : mg "len" = none) : FnOk P w K mg base CX0 1 f fd ["union"] (spHeadLen K) := by
  refine F.ok sc_head_length (fun vs H Q E h => ?_) (fun cdv A outer s0 H vs Q E hr h => ?_)
  · obtain ⟨x, qs, rfl, _⟩ := h
    rfl
  · obtain ⟨x, qs, rfl, hx, fm, q⟩ := h
    refine ⟨_, (pss_one (ps_ret (pe_ifExp (pt_truth (pv 0) (by intro _; rfl)) (pe_callB call_len_seq (by rfl) m_len PySem.boot_len (pa_cons (pe_ix ix_tup (pe_ix ix_tup (pv 0) pe_int (fun _ _ => rfl)) pe_int (fun _ _ => rfl)) pa_nil)) pe_non))), ?_⟩
    cases hx with
    | @tup a xs _ ha hall =>
    refine ⟨_, rfl, ?_⟩
    match qs, xs, hall, fm, q with
    | [], _, .nil, _, q => exact ⟨false, .inr (.inl ⟨_, SqT.of ha, rfl⟩), iteF q⟩
    | q0 :: qs, y :: ys, .cons hy hys, fm, q =>
      refine ⟨true, .inr (.inl ⟨_, SqT.of ha, rfl⟩), iteT ?_⟩
      obtain ⟨hs, b, u, rfl⟩ := fm q0 (List.mem_cons_self ..)
      cases hy with
      | @tup p zs _ hp hpa =>
      match zs, hpa with
      | z0 :: _, .cons hz _ =>
      cases hz with
      | @tup r ws _ hr1 hra =>
      refine ⟨_, rfl, a, _, _, _, rfl, rfl, SqT.of ha, atI_nat (j := 0) rfl, p, _, _, _, rfl, rfl, SqT.of hp, atI_nat (j := 0) rfl, r, ws, rfl, .inr (SqT.of hr1), ?_⟩
      rw [hra.len]
      exact q
theorem sc_check_union : FnScope ["widths", "union", "tables", "checked", "index", "question"] ["widths", "union"] (defScope (topS 31)) := ⟨rfl, rfl, rfl, by decide +kernel, rfl, by decide +kernel, by decide +kernel⟩
theorem ok_check_union {f : Addr} {fd : FuncData} {dvs : List V} (F : FunD K "check_union" "check_union" (defArgs (topS 31)) (defBody (topS 31)) (defScope (topS 31)) dvs [] f fd) {BW BQ BU : Addr} (RBadUnion : ErrF P w K mg base "BadUnion" BU ["what", "index"]) (cW : CalX P w K mg base 4 "check_widths" (spCheckW K BW)) (cs : Cal P w K mg base 2 "is_sequence_of" (spSeqOf K)) (cQ : CalX P w K mg base 7 "check_question" (spQuestC BW BQ K)) (cL : Cal P w K mg base 1 "head_length" (spHeadLen K)) (gMOST_QUESTIONS : ∃ u, mg "MOST_QUESTIONS" = some u ∧ RelV (.int 6) u) (m_tuple : mg "tuple" = none) (m_enumerate : mg "enumerate" = none) (m_len : mg "len" = none) : FnOk P w K mg base (L2N.CX P w) 8 f fd ["widths", "union"] (spUnionC BW BQ BU K) := by
  refine F.ok sc_check_union (fun vs H Q E h => ?_) (fun cdv A outer s0 H vs Q E hr h => ?_)
  · obtain ⟨x, y, ws, d, rfl, _⟩ := h
    rfl
  · obtain ⟨x, y, ws, d, rfl, hx, fw, hd, few, q⟩ := h
    refine ⟨_, (pss_cons (ps_set (i := 2) sc_check_union.nd rfl (.inr rfl) (pe_cX cW (L2N.takes_of rfl rfl rfl rfl) hr (by decide) rfl (pa_cons (pv 0) pa_nil)))
      (pss_cons (ps_if (pt_not (pt_val (pe_c cs hr (by decide) rfl (pa_cons (pv 1) (pa_cons pe_int (pa_cons (C8.pe_gc rfl gMOST_QUESTIONS) pa_nil)))))) (pss_one (L2N.ps_raise rfl (L2N.takes_of rfl rfl rfl rfl) (pmk_errF RBadUnion hr (by decide) (by rfl) (pa_cons pe_str (pa_cons pe_int pa_nil))))) pss_nil)
      (pss_cons (ps_set (i := 3) sc_check_union.nd rfl (.inl rfl) (pe_callTy call_tuple_of (by rfl) m_tuple (by decide +kernel) (pa_cons (pe_lcX (Ek := E) (own := [("question", 5)]) (g := gName 5) (L2N.takes_of rfl rfl rfl rfl) rfl rfl rfl sc_check_union.nd (pi_seq (pv 1)) (blkOk_by (N := ["widths", "union", "tables", "checked", "index", "question"]) (sc := defScope (topS 31)) (by decide +kernel)) (fun _ _ _ _ _ => pg_name (i := 5) sc_check_union.nd rfl (Or.inl rfl)) (fun _ _ _ _ _ _ hp => (show PE _ _ (tCallSD (spQuestC BW BQ K) [] (fun _ => E) (tCons (tVar 2) (tCons (tVar 5) tNil))) from pe_cP cQ hp hr (by decide) rfl (pa_cons (pv 2) (pa_cons (pv 5) pa_nil))))) pa_nil)))
      (pss_cons (ps_for (passes_of rfl) rfl (pi_enumS (by rfl) m_enumerate (pa_cons (pv 3) pa_nil)) (pg_tup (by rfl) (pgs_cons (pg_name (i := 4) sc_check_union.nd rfl (.inl rfl)) (pgs_cons (pg_name (i := 5) sc_check_union.nd rfl (.inl rfl)) pgs_nil))) (pss_one (ps_if (pt_cmpR op_ne (pe_callB call_len_seq (by rfl) m_len PySem.boot_len (pa_cons (pe_ix ix_tup (pv 5) pe_int (fun _ _ => rfl)) pa_nil)) (pe_c cL hr (by decide) rfl (pa_cons (pv 3) pa_nil)) (nomark _)) (pss_one (L2N.ps_raise rfl (L2N.takes_of rfl rfl rfl rfl) (pmk_errF RBadUnion hr (by decide) (by rfl) (pa_cons pe_str (pa_cons (pv 4) pa_nil))))) pss_nil)))
      (pss_one (ps_ret (pv 3))))))), ?_⟩
    refine ⟨_, rfl, x, ws, rfl, hx, fw, ?_⟩
    rcases q with ⟨i, ew, q⟩ | q
    · exact .inr ⟨i, ew, q⟩
    have ew : wRes ws = none := q.elim (fun z => z.1) fun z => z.elim (fun z => z.1) fun z => z.1
    refine .inl ⟨ew, fun p H1 s1 hp => ?_⟩
    have badQ : ∀ (w : Str) (i : Int) (H2 : Hp), Same H H2 → uRes ws d = .bq w i → Rz BQ w i H2 E := fun w i H2 s2 e => by
      rcases q with ⟨_, w', i', z, q⟩ | ⟨_, w', i', z, q⟩ | ⟨_, r, z, q⟩
      · rw [z] at e
        cases e
        exact q.from s2
      · rw [z] at e; cases e
      · rw [z] at e; cases e
    have badU : ∀ (w : Str) (i : Int) (H2 : Hp), Same H H2 → uRes ws d = .bu w i → Rz BU w i H2 E := fun w i H2 s2 e => by
      rcases q with ⟨_, w', i', z, q⟩ | ⟨_, w', i', z, q⟩ | ⟨_, r, z, q⟩
      · rw [z] at e; cases e
      · rw [z] at e
        cases e
        exact q.from s2
      · rw [z] at e; cases e
    have good : ∀ (r : PyData) (p : Addr) (H2 : Hp), Same H H2 → uRes ws d = .ok r → Dq H2 (.ref p) r → Q (.ref p) H2 := fun r p H2 s2 e hr => by
      rcases q with ⟨_, w', i', z, q⟩ | ⟨_, w', i', z, q⟩ | ⟨_, r', z, q⟩
      · rw [z] at e; cases e
      · rw [z] at e; cases e
      · rw [z] at e
        cases e
        exact q p H2 s2 hr
    refine ⟨_, rfl, y, d, 0, 6, rfl, hd.keep s1, fun H2 s2 => ⟨_, rfl, ?_⟩⟩
    have s02 := s1.trans s2
    cases hl : lenIn 0 6 d with
    | false => exact iteT (rz_err (badU "many" 0 H2 s02 (by unfold uRes; rw [hl]; rfl)))
    | true =>
      refine iteF ?_
      obtain ⟨ds, ed, ei⟩ := lenIn_seq hl
      obtain ⟨few1, few2⟩ := few_items few
      have eU : uRes ws d = (match firstW (qErr ws) 0 ds with
        | some ((w, i), _) => URes.bq w i
        | none => match firstW (lenW (headLen ((ds.map qGood).getD 0 .none))) 0 (ds.map qGood) with
          | some (_, i) => .bu "heads" i
          | none => .ok (.tuple (ds.map qGood))) := by
        unfold uRes
        rw [hl, ei]
        rfl
      rw [ei] at few1 few2
      obtain ⟨a, xs, rfl, ha, hall⟩ := (hd.keep s02).seq ed
      dsimp only [tNext, tSeq, tAsg, tRet, tCB, tCons, tNil]
      refine lcQX (K := K) (qErr ws) qGood (fun R h => ⟨_, rfl, h⟩) (sqv_of ha) hall few1 (fun t _ e => good_noL e) (fun i v t H3 R N m s3 hv go stop => ?_) (fun e1 D ys H3 s3 nD hD hys => ?_)
      · refine ⟨rfl, iteT ⟨_, rfl, _, rfl, _, v, ws, t, rfl, ⟨p, rfl, .inr ((s2.trans s3) _ _ hp)⟩, fw, hv, few2 t m, .inr ?_⟩⟩
        cases e : qErr ws t with
        | some u =>
          obtain ⟨w, i'⟩ := u
          exact .inl ⟨ew, w, i', rfl, badQ w i' H3 (s02.trans s3) (by rw [eU, stop _ e])⟩
        | none => exact .inr ⟨ew, rfl, fun p' H4 s4 h4 => go e _ H4 s4 h4⟩
      · rw [e1] at eU
        dsimp only at eU
        refine ⟨D, ys, rfl, .inl ⟨SqL.of hD, fun l nl => ?_⟩⟩
        have sl := same_upd (o := HO.tup ys) nl
        have hys4 := hys.keep sl
        have hl4 : (upd H3 l (.tup ys)) l = some (.tup ys) := upd_same
        generalize upd H3 l (.tup ys) = H4 at sl hys4 hl4 ⊢
        have s04 := (s02.trans s3).trans sl
        have fm : ∀ q ∈ ds.map qGood, ∃ h b u, q = .tuple [.tuple h, b, u] := fun q m => by
          obtain ⟨t, _, rfl⟩ := List.mem_map.mp m
          exact qGood_form t
        refine forFirst (K := K) (lenW (headLen ((ds.map qGood).getD 0 .none))) (fun σ => ∃ v1 v2, σ = [some x, some (.ref a), some (.ref p), some (.ref l), v1, v2]) ⟨_, _, rfl⟩ (fun R h => ⟨_, rfl, h⟩) (.inr (SqT.of hl4)) hys4 ?_ ?_
        · rintro i v t _ H5 T N ⟨v1, v2, rfl⟩ s5 nT m hv go stop
          have sT := same_upd (o := HO.tup [V.int (i : Nat), v]) nT
          refine ⟨T, [.int (i : Nat), v], rfl, SqT.of upd_same, rfl, _, _, rfl, _, _, rfl, rfl, ?_⟩
          generalize eJ : upd H5 T _ = J
          rw [eJ] at sT
          clear eJ
          have s4J := s5.trans sT
          obtain ⟨hs, b, u, rfl⟩ := fm t m
          cases hv.keep sT with
          | @tup p1 zs _ hp1 hpa =>
          match zs, hpa with
          | z0 :: _, .cons hz _ =>
          cases hz with
          | @tup r us _ hr1 hra =>
          refine ⟨_, rfl, p1, _, _, _, rfl, rfl, SqT.of hp1, atI_nat (j := 0) rfl, r, us, rfl, .inr (SqT.of hr1), ?_⟩
          refine ⟨_, rfl, _, _, rfl, .tup (s4J _ _ hl4) (hys4.keep s4J), fm, ?_⟩
          have e0 : (match ds.map qGood with
            | [] => V.non
            | q :: _ => V.int (headLen q : Nat)) = V.int ((headLen ((ds.map qGood).getD 0 .none) : Nat) : Int) := by
            cases hq : ds.map qGood with
            | nil => rw [hq] at m; cases m
            | cons q r => rfl
          rw [e0, hra.len]
          have ht : headLen (.tuple [.tuple hs, b, u]) = hs.length := rfl
          refine ⟨rfl, _, rfl, ?_⟩
          by_cases same : hs.length = headLen ((ds.map qGood).getD 0 .none)
          · refine iteNS (by rw [same]) (go ?_ _ _ ⟨_, _, rfl⟩ sT)
            unfold lenW
            rw [ht, if_pos same]
          · have ne : (!decide (V.int ((hs.length : Nat) : Int) = V.int ((headLen ((ds.map qGood).getD 0 .none) : Nat) : Int))) = true := by
              rw [decide_eq_false (fun z => same (by have y := V.int.inj z; omega))]
              rfl
            rw [ne]
            refine iteT ⟨_, rfl, rz_err (badU "heads" i J (s04.trans s4J) ?_)⟩
            rw [eU, stop () (by unfold lenW; rw [ht, if_neg same])]
        · rintro e2 _ H5 ⟨v1, v2, rfl⟩ s5
          rw [e2] at eU
          exact ⟨_, rfl, good _ l H5 (s04.trans s5) eU (.tup (s5 _ _ hl4) (hys4.keep s5))⟩
end
end My
set_option Elab.async false
set_option linter.all false
set_option maxRecDepth 100000
set_option maxHeartbeats 4000000
namespace My
open PySem PySem.Spec PyProof.Rows L2

/-- the older hand's modulus -/
abbrev MO : Int := 2147483549
abbrev sHand : Stmt := (topS 39)
abbrev sMixed : Stmt := (topS 40)
abbrev sTake : Stmt := (topS 41)
section
variable {P : Program} {w : World} {K : PySem.W.Frag} {mg : Str → Option Value} {base : Heap}
theorem scMixed : FnScope ["_law_number", "_law_turn", "_law_once", "_law_twice"] ["_law_number", "_law_turn"] (defScope sMixed) := ⟨rfl, rfl, rfl, by decide +kernel, rfl, by decide +kernel, by decide +kernel⟩
theorem ok_mixed {f : Addr} {fd : FuncData} (F : Fun K "_law_mixed" "_law_mixed" sMixed f fd) (mI : mg "int" = none) : FnOk P w K mg base CX0 1 f fd ["_law_number", "_law_turn"] (spMix 2147483648) := by
  refine F.ok scMixed (fun vs H Q E h => ?_) (fun cdv A outer s H vs Q E hr h => ?_)
  · obtain ⟨n, t, rfl, _⟩ := h
    rfl
  · obtain ⟨n, t, rfl, n0, n1, t0, t1, k⟩ := h
    refine ⟨_, pss_cons (ps_set (i := 2) scMixed.nd rfl (.inl rfl) (pe_op op_mod (pe_callTy call_int1 (by rfl) mI boot_int (pa_cons (pe_op op_add (pe_op op_add (pe_op op_mul (pv 0) pe_int) (pe_op op_mul (pv 1) pe_int)) pe_int) pa_nil)) pe_int))
      (pss_cons (ps_set (i := 3) scMixed.nd rfl (.inl rfl) (pe_op op_mod (pe_callTy call_int1 (by rfl) mI boot_int (pa_cons (pe_op op_add (pe_op op_add (pe_op op_mul (pv 2) (pv 2)) (pe_op op_mul (pv 1) pe_int)) (pe_op op_fdiv (pv 2) pe_int)) pa_nil)) pe_int))
      (pss_one (ps_ret (pe_op op_fdiv (pe_callTy call_int1 (by rfl) mI boot_int (pa_cons (pe_op op_mod (pe_callTy call_int1 (by rfl) mI boot_int (pa_cons (pe_op op_add (pe_op op_mul (pv 3) pe_int) (pe_op op_fdiv (pv 2) pe_int)) pa_nil)) pe_int) pa_nil)) pe_int)))), ?_⟩
    refine ⟨_, rfl, _, _, rfl, rfl, .inr (by decide), ?_⟩
    refine ⟨_, rfl, _, _, rfl, rfl, .inr (by decide), _, _, rfl, rfl, _, _, rfl, rfl, .inl ⟨_, rfl, _, _, rfl, rfl, (by show (0 : Int) < 2147483399; decide), ?_⟩⟩
    refine ⟨_, rfl, _, rfl, _, _, rfl, rfl, .inl ⟨by omega, by omega⟩, _, rfl, _, _, rfl, rfl, .inr (by decide), _, _, rfl, rfl, _, rfl, _, _, rfl, rfl, ⟨by decide, by decide⟩, _, _, rfl, rfl, .inl ⟨_, rfl, _, _, rfl, rfl, (by show (0 : Int) < 2147483629; decide), ?_⟩⟩
    exact ⟨_, rfl, _, _, rfl, rfl, .inr (by decide), _, rfl, _, _, rfl, rfl, ⟨by decide, by decide⟩, _, _, rfl, rfl,   .inl ⟨_, rfl, _, _, rfl, rfl, (by show (0 : Int) < 2147483587; decide), .inl ⟨_, rfl, _, _, rfl, rfl, ⟨by decide, by decide⟩, k _⟩⟩⟩
theorem scTake : FnScope ["_law_hand_here", "_law_many", "_law_cell", "_law_rest"] ["_law_hand_here", "_law_many"] (defScope sTake) := ⟨rfl, rfl, rfl, by decide +kernel, rfl, by decide +kernel, by decide +kernel⟩
theorem ok_take {f : Addr} {fd : FuncData} (F : Fun K "_law_take" "_law_take" sTake f fd) (mI : mg "int" = none) (mL : mg "len" = none) (cM : Cal P w K mg base 1 "_law_mixed" (spMix 2147483648)) : FnOk P w K mg base CX0 2 f fd ["_law_hand_here", "_law_many"] (spDraw MO) := by
  refine F.ok scTake (fun vs H Q E h => ?_) (fun cdv A outer s H vs Q E hr h => ?_)
  · obtain ⟨a, c, m, rfl, _⟩ := h
    rfl
  · obtain ⟨a, c, m, rfl, hh, m0, m8, k⟩ := h
    refine ⟨_, C8.pss_cut (ps_if (PW.pt (pw_and (pt_cmpR op_eq (pe_ix ix_list (pv 0) pe_int (fun _ _ => rfl)) pe_int (nomark _)) (pw_and1 (pt_cmpR op_lt (pe_ix ix_list (pv 0) pe_int (fun _ _ => rfl)) (pe_callB call_len_seq (by rfl) mL PySem.boot_len (pa_cons (pe_ix ix_list (pv 0) pe_int (fun _ _ => rfl)) pa_nil)) (nomark _)))))
        (pss_cons (ps_set (i := 2) scTake.nd rfl (.inl rfl) (pe_ix ix_list (pe_ix ix_list (pv 0) pe_int (fun _ _ => rfl)) (pe_ix ix_list (pv 0) pe_int (fun _ _ => rfl)) (fun _ _ => rfl)))
        (pss_cons (ps_asg (pe_op op_add (pe_ix ix_list (pv 0) pe_int (fun _ _ => rfl)) pe_int) (pg_sub (pv 0) pe_int set_list))
        (pss_cons (ps_if (pt_cmpR op_lt (pv 2) (pe_op op_pow pe_int pe_int) (nomark _))
          (pss_one (ps_ret (pe_op op_mod (pe_callTy call_int1 (by rfl) mI boot_int (pa_cons (pe_c cM hr (by decide) rfl (pa_cons (pe_op op_mod (pe_callTy call_int1 (by rfl) mI boot_int (pa_cons (pv 2) pa_nil)) pe_int) (pa_cons (pe_ix ix_list (pv 0) pe_int (fun _ _ => rfl)) pa_nil))) pa_nil)) (pv 1)))) pss_nil)
        (pss_one (ps_asg (pv 2) (pg_sub (pv 0) pe_int set_list)))))) pss_nil)
      (pss_cons (ps_if (pt_cmpR op_gt (pe_ix ix_list (pv 0) pe_int (fun _ _ => rfl)) pe_int (nomark _))
        (pss_cons (ps_set (i := 3) scTake.nd rfl (.inl rfl) (pe_ix ix_list (pv 0) pe_int (fun _ _ => rfl)))
        (pss_cons (ps_asg (pe_op op_fdivW (pe_callTy call_int1 (by rfl) mI boot_int (pa_cons (pv 3) pa_nil)) (pv 1)) (pg_sub (pv 0) pe_int set_list))
        (pss_one (ps_ret (pe_op op_mod (pe_callTy call_int1 (by rfl) mI boot_int (pa_cons (pv 3) pa_nil)) (pv 1)))))) pss_nil)
      (pss_cons (ps_asg (pe_op op_mod (pe_callTy call_int1 (by rfl) mI boot_int (pa_cons (pe_op op_add (pe_ix ix_list (pv 0) pe_int (fun _ _ => rfl)) pe_int) pa_nil)) pe_int) (pg_sub (pv 0) pe_int set_list))
      (pss_one (ps_ret (pe_op op_mod (pe_callTy call_int1 (by rfl) mI boot_int (pa_cons (pe_c cM hr (by decide) rfl (pa_cons (pe_ix ix_list (pv 0) pe_int (fun _ _ => rfl)) (pa_cons (pe_ix ix_list (pv 0) pe_int (fun _ _ => rfl)) pa_nil))) pa_nil)) (pv 1)))))), ?_⟩
    obtain ⟨cs, l, h1, h2, hl, h63, hpos⟩ := hh.ex
    have hca := hh.ne
    obtain ⟨i, r, t, rfl, hi, r0, t0, t1⟩ := id hl
    -- behind the first if: slot 0 holds the hand, slot 1 the bound; the hand's list is some l
    refine ⟨fun σ H' => ∃ (l' : List V) (v2 : Option V), σ = [some (.ref a), some (.int m), v2, none] ∧ H' = upd H a (.lst l') ∧ HandL MO c cs.length l', ?_, ?_⟩
    · have eH : H = upd H a (.lst [.ref c, .int i, .int r, .int t]) := by
        funext b
        by_cases hb : b = a
        · rw [hb, upd_same, h1]
        · rw [upd_ne hb]
      refine ⟨_, rfl, a, _, _, _, rfl, rfl, SqL.of h1, atI_nat (j := 2) rfl, rfl, _, rfl, ite2 (fun e => ?_) (fun e => ?_)⟩
      · refine ⟨_, rfl, a, _, _, _, rfl, rfl, SqL.of h1, atI_nat (j := 1) rfl, _, rfl, a, _, _, _, rfl, rfl, SqL.of h1, atI_nat (j := 0) rfl, c, _, rfl, .inl (SqL.of h2), _, _, rfl, rfl, _, rfl, ?_⟩
        refine ite2 (fun e2 => ?_) (fun e2 => ⟨_, none, rfl, eH, hl⟩)
        have hic : i < cs.length := by
          have z := of_decide_eq_true e2
          rw [List.length_map] at z
          omega
        have r00 : r = 0 := V.int.inj (of_decide_eq_true e)
        have hx : (cs.map V.int)[i]? = some (.int cs[i]) := by
          rw [List.getElem?_map, List.getElem?_eq_getElem hic]
          rfl
        have hx0 : 0 ≤ cs[i] := hpos _ (List.getElem_mem hic)
        -- cell = hand[0][hand[1]]; hand[1] = hand[1] + 1
        refine ⟨_, rfl, a, _, _, _, rfl, rfl, SqL.of h1, atI_nat (j := 0) rfl, _, rfl, a, _, _, _, rfl, rfl, SqL.of h1, atI_nat (j := 1) rfl, c, _, _, _, rfl, rfl, SqL.of h2, atI_nat hx, ?_⟩
        refine ⟨_, rfl, a, _, _, _, rfl, rfl, SqL.of h1, atI_nat (j := 1) rfl, _, _, rfl, rfl, _, rfl, a, _, _, 1, rfl, rfl, h1, rfl, ?_⟩
        have ei : ((i : Int) + 1) = ((i + 1 : Nat) : Int) := by omega
        have hl1 : HandL MO c cs.length [.ref c, .int ((i : Int) + 1), .int r, .int t] := ⟨i + 1, r, t, by rw [ei], by omega, r0, t0, t1⟩
        have g1 : (upd H a (.lst ([V.ref c, V.int i, V.int r, V.int t].set 1 (.int ((i : Int) + 1))))) a = some (.lst [.ref c, .int ((i : Int) + 1), .int r, .int t]) := upd_same
        -- if cell < 10 ** 18
        refine ⟨_, rfl, _, _, rfl, rfl, ⟨by decide, by decide, by decide⟩, _, _, rfl, rfl, _, rfl, ite2 (fun e3 => ?_) (fun e3 => ?_)⟩
        · refine ⟨_, rfl, .inl ⟨_, rfl, _, _, rfl, rfl, (by show (0 : Int) < 2147483399; decide), _, rfl, a, _, _, _, rfl, rfl, SqL.of g1, atI_nat (j := 1) rfl, _, _, rfl, Int.emod_nonneg _ (by decide), ?_, by omega, by omega, fun v => .inl ⟨_, rfl, _, rfl, _, _, rfl, rfl, m0, ?_⟩⟩⟩
          · have := Int.emod_lt_of_pos cs[i] (show (0 : Int) < 2147483399 by decide)
            omega
          · exact k _ _ (Int.emod_nonneg _ (by omega)) (Int.emod_lt_of_pos _ m0) (Hand.put h2 hca hl1 h63 hpos)
        · refine ⟨_, rfl, _, rfl, a, _, _, 2, rfl, rfl, g1, rfl, ?_⟩
          exact ⟨_, _, rfl, upd_upd, i + 1, cs[i], t, by rw [← ei]; rfl, by omega, hx0, t0, t1⟩
      · exact ⟨_, none, rfl, eH, hl⟩
    · rintro σ H' ⟨l', v2, rfl, rfl, hl'⟩
      obtain ⟨i', r', t', rfl, hi', r0', t0', t1'⟩ := hl'
      have g1 : (upd H a (.lst [V.ref c, V.int i', V.int r', V.int t'])) a = some (.lst [.ref c, .int i', .int r', .int t']) := upd_same
      refine ⟨_, rfl, a, _, _, _, rfl, rfl, SqL.of g1, atI_nat (j := 2) rfl, _, _, rfl, rfl, _, rfl, ite2 (fun e => ?_) (fun e => ?_)⟩
      · -- the rest of a great cell
        refine ⟨_, rfl, a, _, _, _, rfl, rfl, SqL.of g1, atI_nat (j := 2) rfl, ?_⟩
        refine ⟨_, rfl, .inl ⟨_, rfl, _, rfl, _, _, rfl, rfl, wide_div m0 m8 (by decide) (by decide), _, rfl, a, _, _, 2, rfl, rfl, g1, rfl, ?_⟩⟩
        refine ⟨_, rfl, .inl ⟨_, rfl, _, rfl, _, _, rfl, rfl, m0, ?_⟩⟩
        rw [upd_upd]
        refine k _ _ (Int.emod_nonneg _ (by omega)) (Int.emod_lt_of_pos _ m0) (Hand.put h2 hca ⟨i', r' / m, t', rfl, hi', Int.ediv_nonneg r0' (by omega), t0', t1'⟩ h63 hpos)
      · refine ⟨_, rfl, a, _, _, _, rfl, rfl, SqL.of g1, atI_nat (j := 3) rfl, _, _, rfl, rfl, .inl ⟨_, rfl, _, _, rfl, rfl, (by show (0 : Int) < 2147483549; decide), _, rfl, a, _, _, 3, rfl, rfl, g1, rfl, ?_⟩⟩
        have g2 : (upd (upd H a (.lst [V.ref c, V.int i', V.int r', V.int t'])) a (.lst ([V.ref c, V.int i', V.int r', V.int t'].set 3 (.int ((t' + 1) % 2147483549))))) a = some (.lst [.ref c, .int i', .int r', .int ((t' + 1) % 2147483549)]) := upd_same
        refine ⟨_, rfl, a, _, _, _, rfl, rfl, SqL.of g2, atI_nat (j := 3) rfl, _, rfl, a, _, _, _, rfl, rfl, SqL.of g2, atI_nat (j := 1) rfl, _, _, rfl, Int.emod_nonneg _ (by decide), ?_, by omega, by omega, fun v => .inl ⟨_, rfl, _, rfl, _, _, rfl, rfl, m0, ?_⟩⟩
        · have := Int.emod_lt_of_pos (t' + 1) (show (0 : Int) < 2147483549 by decide)
          omega
        · rw [upd_upd]
          exact k _ _ (Int.emod_nonneg _ (by omega)) (Int.emod_lt_of_pos _ m0) (Hand.put h2 hca ⟨i', r', _, rfl, hi', r0', Int.emod_nonneg _ (by decide), Int.emod_lt_of_pos _ (by decide)⟩ h63 hpos)
theorem scHand : FnScope ["_law_script", "_law_total", "_law_cells", "_law_cell"] ["_law_script"] (defScope sHand) := ⟨rfl, rfl, rfl, by decide +kernel, rfl, by decide +kernel, by decide +kernel⟩
theorem ok_hand {f : Addr} {fd : FuncData} (F : Fun K "_law_hand" "_law_hand" sHand f fd) (mI : mg "int" = none) (mL : mg "len" = none) (mA : mg "abs" = none) : FnOk P w K mg base CX0 1 f fd ["_law_script"] (spHand MO K) := by
  refine F.ok scHand (fun vs H Q E h => ?_) (fun cdv A outer s H vs Q E hr h => ?_)
  · obtain ⟨a, ns, rfl, _⟩ := h
    rfl
  · obtain ⟨a, ns, rfl, hS, h63, k⟩ := h
    refine ⟨_, pss_cons (ps_set (i := 1) scHand.nd rfl (.inl rfl) (pe_op op_add (pe_callB call_len_seq (by rfl) mL PySem.boot_len (pa_cons (pv 0) pa_nil)) pe_int))
      (pss_cons (ps_set (i := 2) scHand.nd rfl (.inl rfl) (pe_lst pa_nil))
      (pss_cons (ps_for PassesOwn.never rfl (pi_list (pv 0)) (pg_name (i := 3) scHand.nd rfl (.inl rfl))
        (pss_cons (ps_set (i := 1) scHand.nd rfl (.inl rfl) (pe_op op_mod (pe_callTy call_int1 (by rfl) mI boot_int (pa_cons (pe_op op_add (pe_op op_mul (pv 1) pe_int) (pe_callTy call_int1 (by rfl) mI boot_int (pa_cons (pv 3) pa_nil))) pa_nil)) pe_int))
        (pss_one (ps_expr (pe_bm PySem.F.plainAttrs_list PySem.F.slot_list_append PySem.F.type_list_append mt_append (pv 2) (pa_cons (pe_callB call_abs (by rfl) mA boot_abs (pa_cons (pe_callTy call_int1 (by rfl) mI boot_int (pa_cons (pv 3) pa_nil)) pa_nil)) pa_nil))))))
      (pss_one (ps_ret (pe_lst (pa_cons (pv 2) (pa_cons pe_int (pa_cons pe_int (pa_cons (pv 1) pa_nil))))))))), ?_⟩
    refine ⟨_, rfl, a, _, rfl, .inl hS, _, _, rfl, rfl, Nat.zero_le _, fun c nc => ?_⟩
    have s1 : Same H (upd H c (.lst [])) := same_upd nc
    refine ⟨_, rfl, a, rfl, ⟨_, s1.seq hS⟩, for_list (K := K) (a := a) (xs := ns.map V.int) (fun i σ H' => ∃ (t : Int) (v3 : Option V) (cs : List Int), σ = [some (.ref a), some (.int t), some (.ref c), v3] ∧ 0 ≤ t ∧ t < 2147483549 ∧ cs.length = i ∧ (∀ x ∈ cs, 0 ≤ x) ∧ H' c = some (.lst (cs.map V.int)) ∧ Same H H')
      ⟨_, none, [], rfl, by omega, ?_, rfl, by simp, upd_same, s1⟩ (fun i σ H' _ ⟨_, _, _, _, _, _, _, _, _, s2⟩ => s2.seq hS) ?_ ?_⟩
    · rw [List.length_map]
      omega
    · rintro i y σ H' hi ⟨t, v3, cs, rfl, t0, t1, hlen, hpos, hc, s2⟩
      have hi2 : i < ns.length := by
        have hlt := (List.getElem?_eq_some_iff.mp hi).1
        rwa [List.length_map] at hlt
      obtain ⟨z, rfl⟩ : ∃ z, y = V.int z := by
        rw [List.getElem?_map, List.getElem?_eq_getElem hi2] at hi
        exact ⟨_, (Option.some.inj hi).symm⟩
      refine ⟨_, rfl, _, _, rfl, rfl, .inr (by decide), _, rfl, .inl ⟨_, rfl, _, _, rfl, rfl, .inl ⟨_, rfl, _, _, rfl, rfl, (by show (0 : Int) < 2147483549; decide), ?_⟩⟩⟩
      refine ⟨_, rfl, .inl ⟨rfl, _, SqL.of hc⟩, _, rfl, .inl ⟨_, rfl, _, rfl, c, _, _, rfl, rfl, hc, ?_, ?_⟩⟩
      · rw [List.length_map]
        exact small1000 (by omega)
      · refine ⟨_, some (.int z), cs ++ [if z < 0 then -z else z], rfl, Int.emod_nonneg _ (by decide), Int.emod_lt_of_pos _ (by decide), by simp [hlen], ?_, ?_, fun b o e => ?_⟩
        · intro x hx
          rcases List.mem_append.mp hx with h | h
          · exact hpos x h
          · rw [List.mem_singleton] at h
            subst h
            split <;> omega
        · rw [upd_same, List.map_append]
          rfl
        · rw [upd_ne (ne_of_none e nc)]
          exact s2 _ _ e
    · rintro σ H' ⟨t, v3, cs, rfl, t0, t1, hlen, hpos, hc, s2⟩
      rw [List.length_map] at hlen
      refine ⟨_, rfl, _, rfl, (by show 4 ≤ sizeLine; decide), fun p np => ?_⟩
      have npc : c ≠ p := ne_of_none hc np
      exact k p c _ (s2.trans (same_upd np)) (s2.free np) nc ⟨cs, _, upd_same, by rw [upd_ne npc]; exact hc, ⟨0, 0, t, rfl, Nat.zero_le _, by decide, t0, t1⟩, by omega, hpos⟩
end
end My
set_option Elab.async false
set_option linter.all false
set_option maxRecDepth 100000
set_option maxHeartbeats 4000000
namespace My
open PySem PySem.Spec PyProof.Rows L2
/-! ### a set comprehension of two clauses, the second with tests: whole numbers -/
theorem turnA (elt t0 i0 t1 i1 : Expr) (ifs1 : List Expr) (scope : Scope) (pos : Pos) (it acc : Value) (env : Env) :
    compTurn (.SetComp elt [⟨t0, i0, [], 0⟩, ⟨t1, i1, ifs1, 0⟩] scope pos) 0 it acc env = (do
      standAt i0.pos
      match ← pyNext it with
      | none => pure (.done .next)
      | some v =>
        letOwnedTupleGo t0 it v
        assign t0 env v
        let x ← eval i1 env
        standAt i1.pos
        let x ← foldedSetIterable i1 env x
        let _ ← runOwn (.compStart (.SetComp elt [⟨t0, i0, [], 0⟩, ⟨t1, i1, ifs1, 0⟩] scope pos) 1 (← holding [x] (pyIter x)) acc env) env
        again (.compLoop (.SetComp elt [⟨t0, i0, [], 0⟩, ⟨t1, i1, ifs1, 0⟩] scope pos) 0 it acc env)) := by rfl
theorem turnB (elt t0 i0 t1 i1 : Expr) (ifs1 : List Expr) (scope : Scope) (pos : Pos) (it acc : Value) (env : Env) :
    compTurn (.SetComp elt [⟨t0, i0, [], 0⟩, ⟨t1, i1, ifs1, 0⟩] scope pos) 1 it acc env = (do
      standAt i1.pos
      match ← pyNext it with
      | none => pure (.done .next)
      | some v =>
        letOwnedTupleGo t1 it v
        assign t1 env v
        let mut ok := true
        for c in ifs1 do
          if ok then ok ← isTrue c env (eval c env)
        if ok then
          (do let v ← eval elt env; standAt elt.pos; let _ ← call (.builtin "set.add") [acc, v])
        again (.compLoop (.SetComp elt [⟨t0, i0, [], 0⟩, ⟨t1, i1, ifs1, 0⟩] scope pos) 1 it acc env)) := by rfl
section
variable {prog : Program} {w : World} {A : Around} {R : Result → Shared → Prop} {s : Shared} {elt t0 i0 t1 i1 : Expr} {ifs1 : List Expr} {scope : Scope} {pos : Pos} {it acc : Value} {env : Env}
abbrev Nt (prog : Program) (w : World) (A : Around) (env : Env) (R : Result → Shared → Prop) : Value → Shared → Prop := notedBy (model prog w) A env fun e s' => R (.error e) s'
theorem loopA (plain : ∀ x, foldedSetIterable i1 env x = pure x) (I : Nat → Shared → Prop)
    (turn : ∀ n s, I n s → wpAny (model prog w) A (pyNext it) (fun r u => match r with
      | none => R (.ok .next) u
      | some v => wpAny (model prog w) A (letOwnedTupleGo t0 it v) (fun _ u1 => wpAny (model prog w) A (assign t0 env v) (fun _ u2 =>
          wpAny (model prog w) A (eval i1 env) (fun x u3 => wpAny (model prog w) A (pyIter x) (fun it1 u4 =>
              codeAny (model prog w) A (.compStart (.SetComp elt [⟨t0, i0, [], 0⟩, ⟨t1, i1, ifs1, 0⟩] scope pos) 1 it1 acc env) (fun r s' => match r with
                | .ok _ => ∃ m, m < n ∧ I m s'
                | .error _ => False) u4) (Nt prog w A env R) u3) (Nt prog w A env R) u2) (Nt prog w A env R) u1) (Nt prog w A env R) u) (Nt prog w A env R) s)
    (n : Nat) (h : I n s) :
    codeAny (model prog w) A (.compLoop (.SetComp elt [⟨t0, i0, [], 0⟩, ⟨t1, i1, ifs1, 0⟩] scope pos) 0 it acc env) R s := by
  refine codeAny_loop rfl I (fun n s hI => ?_) n h
  show wpAny _ A ((compTurn (.SetComp elt [⟨t0, i0, [], 0⟩, ⟨t1, i1, ifs1, 0⟩] scope pos) 0 it acc env).onRaise (fun x => do noteFrame x env; theTreesLotGoes x)) _ _ s
  refine wpAny_noted ?_
  rw [turnA]
  refine wpAny_bind (wpAny_standAt (wpAny_bind (wpAny_mono (turn n s hI) (fun r u k => ?_) fun _ _ z => z)))
  cases r with
  | none => exact wpAny_pure k
  | some v =>
    refine wpAny_bind (wpAny_mono k (fun _ u1 k1 => ?_) fun _ _ z => z)
    refine wpAny_bind (wpAny_mono k1 (fun _ u2 k2 => ?_) fun _ _ z => z)
    refine wpAny_bind (wpAny_mono k2 (fun x u3 k3 => ?_) fun _ _ z => z)
    refine wpAny_bind (wpAny_standAt (wpAny_bind (wpAny_of_eq (plain x) (wpAny_bind (wpAny_holding (wpAny_mono k3 (fun it1 u4 k4 => ?_) fun _ _ z => z))))))
    refine wpAny_bind (wpAny_runOwn ?_)
    rw [Around.mark_none]
    refine codeAny_mono k4 fun r s' hr => ?_
    cases r with
    | ok f =>
      first
        | exact wpAny_pure ⟨rfl, hr⟩
        | exact wpAny_bind (wpAny_pure (wpAny_pure ⟨rfl, hr⟩))
    | error e => exact hr.elim
theorem loopB (I : Nat → Shared → Prop)
    (turn : ∀ n s, I n s → wpAny (model prog w) A (pyNext it) (fun r u => match r with
      | none => R (.ok .next) u
      | some v => wpAny (model prog w) A (letOwnedTupleGo t1 it v) (fun _ u1 => wpAny (model prog w) A (assign t1 env v) (fun _ u2 =>
          wpAny (model prog w) A (forIn ifs1 true fun c r => if r = true then do let ok ← isTrue c env (eval c env); pure (ForInStep.yield ok) else pure (ForInStep.yield r)) (fun ok u3 =>
            if ok = true then wpAny (model prog w) A (eval elt env) (fun x u4 =>
              wpAny (model prog w) A (call (.builtin "set.add") [acc, x]) (fun _ u5 => ∃ m, m < n ∧ I m u5) (Nt prog w A env R) u4) (Nt prog w A env R) u3
            else ∃ m, m < n ∧ I m u3) (Nt prog w A env R) u2) (Nt prog w A env R) u1) (Nt prog w A env R) u) (Nt prog w A env R) s)
    (n : Nat) (h : I n s) :
    codeAny (model prog w) A (.compLoop (.SetComp elt [⟨t0, i0, [], 0⟩, ⟨t1, i1, ifs1, 0⟩] scope pos) 1 it acc env) R s := by
  refine codeAny_loop rfl I (fun n s hI => ?_) n h
  show wpAny _ A ((compTurn (.SetComp elt [⟨t0, i0, [], 0⟩, ⟨t1, i1, ifs1, 0⟩] scope pos) 1 it acc env).onRaise (fun x => do noteFrame x env; theTreesLotGoes x)) _ _ s
  refine wpAny_noted ?_
  rw [turnB]
  refine wpAny_bind (wpAny_standAt (wpAny_bind (wpAny_mono (turn n s hI) (fun r u k => ?_) fun _ _ z => z)))
  cases r with
  | none => exact wpAny_pure k
  | some v =>
    refine wpAny_bind (wpAny_mono k (fun _ u1 k1 => ?_) fun _ _ z => z)
    refine wpAny_bind (wpAny_mono k1 (fun _ u2 k2 => wpAny_bind (wpAny_mono k2 (fun ok u3 k3 => ?_) fun _ _ z => z)) fun _ _ z => z)
    cases ok with
    | false => exact wpAny_pure ⟨rfl, k3⟩
    | true => exact wpAny_bind (wpAny_bind (wpAny_mono k3 (fun x u4 k4 => wpAny_bind (wpAny_standAt (wpAny_bind (wpAny_mono k4 (fun _ u5 k5 => wpAny_pure (wpAny_pure ⟨rfl, k5⟩)) fun _ _ z => z)))) fun _ _ z => z))
theorem startB (h0 : codeAny (model prog w) A (.compLoop (.SetComp elt [⟨t0, i0, [], 0⟩, ⟨t1, i1, ifs1, 0⟩] scope pos) 1 it acc env) R s)
    (h : wpAny (model prog w) A (pyIter it) (fun it' s' => codeAny (model prog w) A (.compLoop (.SetComp elt [⟨t0, i0, [], 0⟩, ⟨t1, i1, ifs1, 0⟩] scope pos) 1 it' acc env) R s') (Nt prog w A env R) s) :
    codeAny (model prog w) A (.compStart (.SetComp elt [⟨t0, i0, [], 0⟩, ⟨t1, i1, ifs1, 0⟩] scope pos) 1 it acc env) R s := by
  refine codeAny_of_tree ?_
  show wpAny _ _ ((compStart (.SetComp elt [⟨t0, i0, [], 0⟩, ⟨t1, i1, ifs1, 0⟩] scope pos) 1 it acc env).onRaise (fun x => do noteFrame x env; standAt theWindowsPlace)) _ _ s
  refine wpAny_notedAt ?_
  unfold compStart
  show wpAny _ _ (ask >>= _) _ _ s
  refine wpAny_bind (wpAny_askSetting (wpAny_ite ?_))
  split
  · first
      | exact wpAny_bind (wpAny_pure (wpAny_pure ⟨rfl, h0⟩))
      | exact wpAny_pure ⟨rfl, h0⟩
  · first
      | exact wpAny_bind (wpAny_rule (wpAny_bind (wpAny_standAt (wpAny_bind (wpAny_mono h (fun it' s' k => wpAny_pure ⟨rfl, k⟩) fun _ _ x => x)))))
      | (refine wpAny_bind (wpAny_rule ?_); show wpAny _ _ (standAt i1.pos >>= _) _ _ s; exact wpAny_bind (wpAny_standAt (wpAny_bind (wpAny_mono h (fun it' s' k => wpAny_pure ⟨rfl, k⟩) fun _ _ x => x))))
end
section
variable {X : Cx}
theorem putIn {pins : List (Addr × Obj)} {σ : L2.St} {H : Hp} {s : Shared} {E : Value → Shared → Prop} {D : Addr} {S : Int → Bool} {n : Nat} {k : Int} {t : Tok} {Q : Value → Shared → Prop} (I : Inv X pins σ H s) (hD : H D = some (SetO X.w D S n)) (room : n + 1 < scanBound)
    (h : ∀ s', Inv X pins σ (upd H D (SetO X.w D (fun j => S j || decide (j = k)) (if S k = true then n else n + 1))) s' → Q .none s') : wpAny (model X.prog X.w) X.A (call (.builtin "set.add") [.ref D, .int k t]) Q E s := by
  refine setR_add (setO_get I hD) room fun h' sb new => ?_
  have there : ∃ u, h'.get? D = some u := by
    have ⟨o, _, _, _, e, _⟩ := new
    exact ⟨o, e⟩
  exact h _ (I.write (e := D) (t' := s.toks + 1) (by rw [hD]; trivial) (.inl rfl) (fun b u hb hu => (sb.2 b hb).trans hu) there (setO_new new))
/-- {elt for tg in iter for tg1 in iter1 if ..} -/
def tSc2 (w : World) (wi : TI) (g : TG) (wi1 : TI) (g1 : TG) (tt1 : TT) (te : TE) (vs vs1 : List Nat) : TE := fun σ H Q => wi σ H fun J H1 => ∀ D, H1 D = none → ∃ W : Nat → Nat → Hp → Prop, (∃ m, W 0 m (upd H1 D (SetO w D (fun _ => false) 0))) ∧ ∀ i m H, W i m H →
  (J.stop i H ∧ Q (.ref D) H) ∨ (J.go i H ∧ ∃ Nx : Hp → Prop, (∀ H', Nx H' → ∃ m', m' < m ∧ W (i + 1) m' H') ∧ ∀ x H', J.yld i H x H' → g x (wipe σ vs) H' fun σ2 H2 => wipe σ2 vs = wipe σ vs ∧
    wi1 σ2 H2 fun J1 H4 => ∃ W1 : Nat → Nat → Hp → Prop, (∃ m, W1 0 m H4) ∧ ∀ j k H, W1 j k H →
      (J1.stop j H ∧ Nx H) ∨ (J1.go j H ∧ ∃ Nx1 : Hp → Prop, (∀ H', Nx1 H' → ∃ k', k' < k ∧ W1 (j + 1) k' H') ∧ ∀ x H', J1.yld j H x H' → g1 x (wipe σ2 vs1) H' fun σ3 H5 => wipe σ3 vs1 = wipe σ2 vs1 ∧ tt1 σ3 H5 fun b H6 =>
        if b = true then te σ3 H6 fun y H7 => ∃ (c : Int) (S : Int → Bool) (n : Nat), y = .int c ∧ H7 D = some (SetO w D S n) ∧ n + 1 < scanBound ∧ Nx1 (upd H7 D (SetO w D (fun j => S j || decide (j = c)) (if S c = true then n else n + 1))) else Nx1 H6))
theorem pe_sc2 {elt tg iter tg1 iter1 : Expr} {ifs1 : List Expr} {scope : Scope} {own : List (Str × Nat)} {vs1 : List Nat} {pos : Pos} {wi wi1 : TI} {g g1 : TG} {tt1 : TT} {te : TE} (calm : X.calm = true) (nd : X.N.Nodup) (hi : PI X tg iter wi) (ok : BlkOk X.N X.env.scope scope own) (hv : ∀ i ∈ vs1, i ∈ own.map (·.2))
    (hg : ∀ (t : Shared) (G : Hp) (C : Addr) (cl : List (Str × Addr)) (fp : List Addr), PG (X.blk t G scope (compEnvC scope cl C X.env) fp) tg g)
    (hi1 : ∀ (t : Shared) (G : Hp) (C : Addr) (cl : List (Str × Addr)) (fp : List Addr), PI (X.blk t G scope (compEnvC scope cl C X.env) fp) tg1 iter1 wi1)
    (hg1 : ∀ (t : Shared) (G : Hp) (C : Addr) (cl : List (Str × Addr)) (fp : List Addr), PG (X.blk t G scope (compEnvC scope cl C X.env) fp) tg1 g1) (ht1 : ∀ (t : Shared) (G : Hp) (C : Addr) (cl : List (Str × Addr)) (fp : List Addr), PTs (X.blk t G scope (compEnvC scope cl C X.env) fp) ifs1 tt1)
    (he : ∀ (t : Shared) (G : Hp) (C : Addr) (cl : List (Str × Addr)) (fp : List Addr), PE (X.blk t G scope (compEnvC scope cl C X.env) fp) elt te) (plain : ∀ x, foldedSetIterable iter X.env x = pure x := by intro _; rfl) (plain1 : ∀ env x, foldedSetIterable iter1 env x = pure x := by intro _ _; rfl) :
    PE X (.SetComp elt [⟨tg, iter, [], 0⟩, ⟨tg1, iter1, ifs1, 0⟩] scope pos) (tSc2 X.w wi g wi1 g1 tt1 te (own.map (·.2)) vs1) := by
  refine ⟨fun pins s σ H Q I h => ?_⟩
  rw [PpSet.eval_SetComp]
  suffices core : ∀ (Qf : Value → Shared → Prop), (∀ D C s' m H', Inv X pins σ H' s' → Q (.ref D) H' → s'.heap.Ns C m → FpOk X pins H' C → compPost (model X.prog X.w) X.A X.xe none Qf (.ref D) C (.ok .next) s') →
      wpAny (model X.prog X.w) X.A (comprehension (.SetComp elt [⟨tg, iter, [], 0⟩, ⟨tg1, iter1, ifs1, 0⟩] scope pos) scope X.env (firstIterPos [⟨tg, iter, [], 0⟩, ⟨tg1, iter1, ifs1, 0⟩] pos) (newSet (.type "set")) false (eval iter X.env)) Qf X.xe s by
    refine core _ fun D C s' m H' I' q hn f => ⟨m, hn, fun g sb => ?_⟩
    obtain ⟨f0, f1, f2, f3, f4, f5⟩ := f
    exact ⟨.ref D, H', I'.turned (t' := s'.toks) (fun b o hb e => (sb.2 b hb).trans e) f0 f1 f3 f4 f5, rfl, q⟩
  intro Qf done
  have frees : ∀ y ∈ scope.names, y.2 = .free → ∃ c, X.env.cells.lookup y.1 = some c := fun y my ey => I.ok.has _ ((ok.free y my ey).imp id id)
  refine wpAny_comprehension_free (use := none) rfl plain (closure_ok frees) ok.kind (fun y my ey => by rw [ok.uniq y my, ey])
    (thn (hi.run pins s σ H _ I h) fun _ t1 h1 => thn h1 fun _ t2 ⟨it, fp, tn, J, H2, eit, I2, T, at0, fps, q⟩ => ?_)
  subst eit
  refine PpSet.newSet_ok (newEnv_comp ?_)
  obtain ⟨D, eD⟩ : ∃ D, D = t2.heap.objs.size := ⟨_, rfl⟩
  have freshD : H2 D = none := I2.hok.fresh (by rw [eD]; exact Nat.le_refl _)
  obtain ⟨W, ⟨m0, w0⟩, turn⟩ := q D freshD
  rw [← eD]
  obtain ⟨t3, et3⟩ : ∃ t3 : Shared, t3 = { t2 with heap := t2.heap.push { cls := .type "set", dict := none, data := .set #[] 0 (.fresh 0 0 (!X.w.params.followText "set-order")) } } := ⟨_, rfl⟩
  have I3 : Inv X pins σ (upd H2 D (SetO X.w D (fun _ => false) 0)) t3 := by
    rw [et3]
    refine I2.laid (t' := t2.toks) (fun b o e => Heap.get?_push_of_some _ e) (by rw [eD]; exact Nat.le_refl _) ?_
    rw [eD]
    exact setO_new (setR_fresh X.w)
  have h3 : t3.heap = t2.heap.push { cls := .type "set", dict := none, data := .set #[] 0 (.fresh 0 0 (!X.w.params.followText "set-order")) } := by rw [et3]
  have older : ∀ b ∈ fp, b < t2.heap.objs.size := fun b mb => (T.obj _ _ at0 b mb).elim fun o e => Heap.lt_size e.1
  have fps3 : ∀ b ∈ fp, FpOk X pins (upd H2 D (SetO X.w D (fun _ => false) 0)) b ∧ b < t3.heap.objs.size := fun b mb => by
    have lt := older b mb
    refine ⟨⟨?_, (fps b mb).2⟩, by rw [h3, Heap.size_push]; exact Nat.lt_succ_of_lt lt⟩
    rw [upd_ne (by rw [eD]; exact Nat.ne_of_lt lt)]
    exact (fps b mb).1
  have at3 : tn 0 t3.heap := T.keep _ _ _ at0 fun b _ o e => by
    rw [h3]
    exact Heap.get?_push_of_some _ e
  have IB := block_start I3 ok nd fps3
  have qg := hg t3 (upd H2 D (SetO X.w D (fun _ => false) 0)) t3.heap.objs.size (cellsFrom (t3.heap.objs.size + 1) scope.names (cloFrom X.env.cells scope.names [])) fp
  have qe := he t3 (upd H2 D (SetO X.w D (fun _ => false) 0)) t3.heap.objs.size (cellsFrom (t3.heap.objs.size + 1) scope.names (cloFrom X.env.cells scope.names [])) fp
  have qi1 := hi1 t3 (upd H2 D (SetO X.w D (fun _ => false) 0)) t3.heap.objs.size (cellsFrom (t3.heap.objs.size + 1) scope.names (cloFrom X.env.cells scope.names [])) fp
  have qg1 := hg1 t3 (upd H2 D (SetO X.w D (fun _ => false) 0)) t3.heap.objs.size (cellsFrom (t3.heap.objs.size + 1) scope.names (cloFrom X.env.cells scope.names [])) fp
  have qt1 := ht1 t3 (upd H2 D (SetO X.w D (fun _ => false) 0)) t3.heap.objs.size (cellsFrom (t3.heap.objs.size + 1) scope.names (cloFrom X.env.cells scope.names [])) fp
  rw [← h3]
  show codeAny _ _ (.compStart (.SetComp elt [⟨tg, iter, [], 0⟩, ⟨tg1, iter1, ifs1, 0⟩] scope pos) 0 (.ref it) (.ref D) (compEnvC scope (cellsFrom (t3.heap.objs.size + 1) scope.names (cloFrom X.env.cells scope.names [])) t3.heap.objs.size X.env)) (compPost (model X.prog X.w) X.A X.xe none Qf (.ref D) t3.heap.objs.size) { t2 with heap := pushCells (t3.heap.push { cls := .type "dict", data := .dict #[] }) scope.names }
  have et4 : ({ t2 with heap := pushCells (t3.heap.push { cls := .type "dict", data := .dict #[] }) scope.names } : Shared) = { t3 with heap := pushCells (t3.heap.push { cls := .type "dict", data := .dict #[] }) scope.names } := by rw [et3]
  rw [et4]
  clear et4
  have clr : ∀ b ∈ fp, (upd H2 D (SetO X.w D (fun _ => false) 0)) b = none := fun b mb => (fps3 b mb).1.1
  generalize ece : compEnvC scope (cellsFrom (t3.heap.objs.size + 1) scope.names (cloFrom X.env.cells scope.names [])) t3.heap.objs.size X.env = ce at IB qg qe qi1 qg1 qt1 ⊢
  have cL : ce.locals = t3.heap.objs.size := by subst ece; rfl
  generalize eH3 : upd H2 D (SetO X.w D (fun _ => false) 0) = H3 at I3 IB qg qe qi1 qg1 qt1 w0 clr fps3
  generalize e4 : ({ t3 with heap := pushCells (t3.heap.push { cls := .type "dict", data := .dict #[] }) scope.names } : Shared) = t4 at IB ⊢
  have at4 : tn 0 t4.heap := T.keep _ _ _ at3 fun b _ o e => by rw [← e4]; exact pushCells_keeps _ _ _ _ (Heap.get?_push_of_some _ e)
  have still : ∀ {σ' : L2.St} {H' : Hp} {s' : Shared}, Inv (X.blk t3 H3 scope ce fp) [] σ' H' s' → (∀ b ∈ fp, H' b = none) → ∀ b ∈ fp, FpOk (X.blk t3 H3 scope ce fp) [] H' b := fun {σ' H' s'} I' n b mb =>
    ⟨n b mb, (I'.ok.exf b mb).1, I'.ok.exfs b mb, .inl mb, fun x c e => (I'.ok.exf b mb).2 x c e, fun p hp => absurd (show p ∈ ([] : List (Addr × Obj)) ++ [] from hp) (by simp)⟩
  let Vs := own.map (·.2)
  let Keeps : Nat → Shared → Prop := fun n s' => ∃ i H', Inv (X.blk t3 H3 scope ce fp) [] (wipe σ Vs) H' s' ∧ tn i s'.heap ∧ (∀ b ∈ fp, H' b = none) ∧ W i n H'
  have loop : codeAny (model X.prog X.w) X.A (.compLoop (.SetComp elt [⟨tg, iter, [], 0⟩, ⟨tg1, iter1, ifs1, 0⟩] scope pos) 0 (.ref it) (.ref D) ce) (compPost (model X.prog X.w) X.A X.xe none Qf (.ref D) t3.heap.objs.size) t4 := by
    refine loopA (plain1 ce) Keeps ?_ m0 ⟨0, H3, IB, at4, clr, w0⟩
    rintro n t5 ⟨i, H5, I5, at5, n5, w5⟩
    rcases turn i n H5 w5 with ⟨stop, qq⟩ | ⟨go, Nx, nxt, step⟩
    · refine thnF (T.done (X.blk t3 H3 scope ce fp) rfl rfl rfl calm i [] t5 _ H5 (fun _ _ => False) I5 (still I5 n5) at5 stop) fun r t6 ⟨hr, I6⟩ => ?_
      subst hr
      have I7 : Inv X pins σ H5 t6 := I3.call' (ch := fp) I6.os I6.base I6.hok I6.bare fun b mb => ⟨(fps3 b mb).1.2.2.2.1, (fps3 b mb).1.2.1, (fps3 b mb).1.2.2.2.2.1, (fps3 b mb).1.2.2.2.2.2⟩
      have nC : H5 t3.heap.objs.size = none := by
        have z : H5 ce.locals = none := I6.free
        rw [cL] at z
        exact z
      obtain ⟨m, hn, _⟩ := I6.loc
      have hn : t6.heap.Ns ce.locals m := hn
      rw [cL] at hn
      exact done D _ t6 m H5 I7 qq hn (I3.fpOk (Nat.le_refl _) nC)
    · refine thnF (T.item (X.blk t3 H3 scope ce fp) rfl rfl rfl calm i [] t5 _ H5 (fun _ _ => False) I5 (still I5 n5) at5 go) fun r t6 ⟨u, hr, h6⟩ => ?_
      subst hr
      refine thnF h6 fun _ t7 ⟨x, H7, I7, r7, y7, at7, n7⟩ => ?_
      have I7' := I7.pinned (still I7 n7) (T.obj _ _ at7)
      refine thnF (qg.run _ t7 _ H7 x u _ I7' r7 (step x H7 y7)) fun _ t8 ⟨σ8, H8, I8, hw8, q8⟩ => ?_
      have fin : ∀ {σ9 : L2.St} {s' : Shared} {H' : Hp}, Inv (X.blk t3 H3 scope ce fp) ([] ++ pinsAt fp t7.heap) σ9 H' s' → (wipe σ Vs).length = σ9.length → (∀ (j : Nat) v, (wipe σ Vs)[j]? = some (some v) → σ9[j]? = some (some v)) → Nx H' → ∃ m, m < n ∧ Keeps m s' := fun {σ9 s' H'} I' hl hk nx => by
        obtain ⟨m', hm, w'⟩ := nxt H' nx
        have pin' : ∀ b ∈ fp, ∀ o, t7.heap.get? b = some o → s'.heap.get? b = some o ∧ H' b = none := fun b mb o e =>
          let z := I'.pin (b, o) (List.mem_append_right _ (List.mem_append_right _ (mem_pinsAt mb e)))
          ⟨z.1, z.2.1⟩
        refine ⟨m', hm, i + 1, H', (I'.unpinned (pins := [])).weak hl hk, T.keep _ _ _ at7 fun b mb o e => (pin' b mb o e).1, fun b mb => ?_, w'⟩
        obtain ⟨o, e, _⟩ := T.obj _ _ at7 b mb
        exact (pin' b mb o e).2
      have hl8 : (wipe σ Vs).length = σ8.length := by rw [← hw8, wipe_length]
      have hk9 : ∀ (j : Nat) v, (wipe σ Vs)[j]? = some (some v) → (wipe σ8 vs1)[j]? = some (some v) := fun j v e => by
        rw [← hw8] at e
        obtain ⟨e1, e2⟩ := wipe_some e
        rw [wipe_out fun z => e2 (hv j z)]
        exact e1
      refine thnF (qi1.run _ t8 σ8 H8 _ I8 q8) fun xv t10 hx => thnF hx fun itv t11 ⟨it1, fp1, tn1, J1, H11, e1, I11, T1, at11, f11, W1, ⟨m1, w1⟩, turn1⟩ => ?_
      subst e1
      have still1 : ∀ {H' : Hp}, (∀ b ∈ fp1, H' b = none) → ∀ b ∈ fp1, FpOk (X.blk t3 H3 scope ce fp) ([] ++ pinsAt fp t7.heap) H' b := fun hn b mb => ⟨hn b mb, (f11 b mb).2⟩
      have inner : codeAny (model X.prog X.w) X.A (.compLoop (.SetComp elt [⟨tg, iter, [], 0⟩, ⟨tg1, iter1, ifs1, 0⟩] scope pos) 1 (.ref it1) (.ref D) ce)
          (fun r s' => match r with
            | .ok _ => ∃ m, m < n ∧ Keeps m s'
            | .error _ => False) t11 := by
        refine loopB (fun k s' => ∃ j H', Inv (X.blk t3 H3 scope ce fp) ([] ++ pinsAt fp t7.heap) (wipe σ8 vs1) H' s' ∧ tn1 j s'.heap ∧ (∀ b ∈ fp1, H' b = none) ∧ W1 j k H') ?_ m1 ⟨0, H11, I11.weak (wipe_length _ _) (fun j v e => (wipe_some e).1), at11, fun b mb => (f11 b mb).1, w1⟩
        rintro k t12 ⟨j, H12, I12, at12, n12, w12⟩
        rcases turn1 j k H12 w12 with ⟨stop1, nx1⟩ | ⟨go1, Nx1, nxt1, step1⟩
        · refine thnF (T1.done (X.blk t3 H3 scope ce fp) rfl rfl rfl calm j _ t12 (wipe σ8 vs1) H12 (fun _ _ => False) I12 (still1 n12) at12 stop1) fun r t13 ⟨hr, I13⟩ => ?_
          subst hr
          exact fin I13 (hl8.trans (wipe_length σ8 vs1).symm) hk9 nx1
        · refine thnF (T1.item (X.blk t3 H3 scope ce fp) rfl rfl rfl calm j _ t12 (wipe σ8 vs1) H12 (fun _ _ => False) I12 (still1 n12) at12 go1) fun r t13 ⟨u1, hr, h13⟩ => ?_
          subst hr
          refine thnF h13 fun _ t14 ⟨x1, H14, I14, r14, y14, at14, n14⟩ => ?_
          have I14' := I14.pinned (still1 n14) (T1.obj _ _ at14)
          refine thnF (qg1.run _ t14 (wipe σ8 vs1) H14 x1 u1 _ I14' r14 (step1 x1 H14 y14)) fun _ t15 ⟨σ15, H15, I15, hw15, q15⟩ => ?_
          refine thnF (qt1.run _ t15 σ15 H15 _ I15 q15) fun b1 t16 ⟨H16, I16, q16⟩ => ?_
          have fin1 : ∀ {s' : Shared} {H' : Hp}, Inv (X.blk t3 H3 scope ce fp) (([] ++ pinsAt fp t7.heap) ++ pinsAt fp1 t14.heap) σ15 H' s' → Nx1 H' → ∃ m, m < k ∧ ∃ j H', Inv (X.blk t3 H3 scope ce fp) ([] ++ pinsAt fp t7.heap) (wipe σ8 vs1) H' s' ∧ tn1 j s'.heap ∧ (∀ b ∈ fp1, H' b = none) ∧ W1 j m H' := fun {s' H'} I' nx => by
            obtain ⟨m', hm, w'⟩ := nxt1 H' nx
            have pin' : ∀ b ∈ fp1, ∀ o, t14.heap.get? b = some o → s'.heap.get? b = some o ∧ H' b = none := fun b mb o e =>
              let z := I'.pin (b, o) (List.mem_append_right _ (List.mem_append_right _ (mem_pinsAt mb e)))
              ⟨z.1, z.2.1⟩
            refine ⟨m', hm, j + 1, H', I'.unpinned.weak (by rw [← hw15, wipe_length]) (fun j v e => by rw [← hw15] at e; exact (wipe_some e).1), T1.keep _ _ _ at14 fun b mb o e => (pin' b mb o e).1, fun b mb => ?_, w'⟩
            obtain ⟨o, e, _⟩ := T1.obj _ _ at14 b mb
            exact (pin' b mb o e).2
          cases b1 with
          | false =>
            simp only [Bool.false_eq_true, if_false] at q16 ⊢
            exact fin1 I16 q16
          | true =>
            simp only [if_true] at q16 ⊢
            refine thnF (qe.run _ t16 σ15 H16 _ I16 q16) fun z t17 ⟨yv, H17, I17, r17, c, S0, n0, ey, hD17, room17, nx⟩ => ?_
            subst ey
            obtain ⟨tk, rfl⟩ := (show ∃ t, z = Value.int c t from r17)
            exact putIn (X := X.blk t3 H3 scope ce fp) I17 hD17 room17 fun t18 I18 => fin1 I18 nx
      exact startB inner (T1.self X.A 0 _ _ _ at11 inner)
  exact PpSet.codeAny_compStart_set loop (T.self X.A 0 _ _ _ at4 loop)
end
end My
set_option Elab.async false
set_option linter.all false
set_option maxRecDepth 100000
set_option maxHeartbeats 4000000
namespace My
open PySem PySem.Spec PyProof.Rows L2

/-! ### the values of unions -/
def nameVs (x : V) : Bool := nameV x
/-- what a set holds when it was filled from these -/
def Acc (zs : List V) (S : Int → Bool) (n : Nat) : Prop := ∃ ns : List Int, ns.Nodup ∧ ns.length = n ∧ (∀ k, S k = true ↔ k ∈ ns) ∧ ∀ k, k ∈ ns ↔ V.int k ∈ zs
theorem Acc.nil : Acc [] (fun _ => false) 0 := ⟨[], List.nodup_nil, rfl, fun k => by simp, fun k => by simp⟩
theorem Acc.put {zs : List V} {S : Int → Bool} {n : Nat} {c : Int} (h : Acc zs S n) : Acc (zs ++ [V.int c]) (fun j => S j || decide (j = c)) (if S c = true then n else n + 1) := by
  obtain ⟨ns, nd, len, mem, own⟩ := h
  by_cases hc : S c = true
  · rw [if_pos hc]
    refine ⟨ns, nd, len, fun k => ?_, fun k => ?_⟩
    · rw [Bool.or_eq_true, decide_eq_true_eq, mem]
      exact ⟨fun z => z.elim id fun e => by rw [e]; exact (mem c).mp hc, .inl⟩
    · rw [own, List.mem_append, List.mem_singleton]
      refine ⟨.inl, fun z => z.elim id fun e => ?_⟩
      cases e
      exact (own c).mp ((mem c).mp hc)
  · rw [if_neg hc]
    refine ⟨c :: ns, List.nodup_cons.mpr ⟨fun z => hc ((mem c).mpr z), nd⟩, by rw [List.length_cons, len], fun k => ?_, fun k => ?_⟩
    · rw [Bool.or_eq_true, decide_eq_true_eq, mem, List.mem_cons]
      exact Or.comm
    · rw [List.mem_cons, own, List.mem_append, List.mem_singleton]
      constructor
      · rintro (e | z)
        · exact .inr (by rw [e])
        · exact .inl z
      · rintro (z | e)
        · exact .inr z
        · exact .inl (V.int.inj e)
theorem Acc.skip {zs : List V} {S : Int → Bool} {n : Nat} {v : V} (h : Acc zs S n) (hv : ∀ c, v ≠ .int c) : Acc (zs ++ [v]) S n := by
  obtain ⟨ns, nd, len, mem, own⟩ := h
  refine ⟨ns, nd, len, mem, fun k => ?_⟩
  rw [own, List.mem_append, List.mem_singleton]
  exact ⟨.inl, fun z => z.elim id fun e => absurd e.symm (hv k)⟩
/-- fewer than 64 unlike whole numbers among them -/
def Few64 (zs : List V) : Prop := ∀ ns : List Int, ns.Nodup → (∀ k ∈ ns, V.int k ∈ zs) → ns.length < 64
theorem Few64.acc {zs ys : List V} {S : Int → Bool} {n : Nat} (h : Few64 zs) (a : Acc ys S n) (sub : ∀ v ∈ ys, v ∈ zs) : n < 64 := by
  obtain ⟨ns, nd, len, mem, own⟩ := a
  rw [← len]
  exact h ns nd fun k m => sub _ ((own k).mp m)
/-- {y for x in xs for y in (what x gives) if y is no name} -/
theorem sc2Vals {w : World} {j j1 : Nat} {vs vs1 : List Nat} {σ : L2.St} {H : Hp} {Q : VK} {wi wi1 : TI} {tt1 : TT} (xs : List V) (zs : List (List V)) (len : zs.length = xs.length) (few : Few64 zs.flatten)
    (kind : ∀ y ∈ zs.flatten, (∃ c, y = .int c) ∨ nameV y = true)
    (hwi : ∀ R : It → Hp → Prop, (∀ (J : It) (G : Hp → Prop), Walk J xs.length G (YAt xs) → (∀ H', Same H H' → G H') → R J H) → wi σ H R)
    (hin : ∀ (i : Nat) (x : V) (z : List V) (H' : Hp) (D : Addr) (u : HO) (R : It → Hp → Prop), xs[i]? = some x → zs[i]? = some z → Same H H' → H' D = some u → (∀ (J1 : It) (G1 : Hp → Prop) (H1 : Hp), Same H' H1 → Walk J1 z.length G1 (YAt z) → (∀ H'', (∀ b o, b ≠ D → H1 b = some o → H'' b = some o) → G1 H'') → R J1 H1) → wi1 ((wipe σ vs).set j (some x)) H' R)
    (hw : ∀ x, wipe ((wipe σ vs).set j (some x)) vs = wipe σ vs)
    (hw1 : ∀ x y, wipe ((wipe ((wipe σ vs).set j (some x)) vs1).set j1 (some y)) vs1 = wipe ((wipe σ vs).set j (some x)) vs1)
    (hj : ∀ x y, ((wipe ((wipe σ vs).set j (some x)) vs1).set j1 (some y))[j1]? = some (some y))
    (htt : ∀ (x y : V) (H' : Hp) (R : Bool → Hp → Prop), y ∈ zs.flatten → R (!nameV y) H' → tt1 ((wipe ((wipe σ vs).set j (some x)) vs1).set j1 (some y)) H' R)
    (hq : ∀ (D : Addr) (H' : Hp) (S : Int → Bool) (n : Nat), Same H H' → H D = none → H' D = some (SetO w D S n) → Acc zs.flatten S n → Q (.ref D) H') : tSc2 w wi (gName j) wi1 (gName j1) tt1 (tVar j1) vs vs1 σ H Q := by
  refine hwi _ fun J G wk hG => fun D nD => ?_
  let Pv : Nat → Hp → Prop := fun i H' => Same H H' ∧ ∃ S n, H' D = some (SetO w D S n) ∧ Acc (zs.take i).flatten S n
  refine ⟨fun i m H' => m = xs.length - i ∧ i ≤ xs.length ∧ Pv i H', ⟨xs.length, rfl, Nat.zero_le _, same_upd nD, _, _, upd_same, Acc.nil⟩, ?_⟩
  rintro i m H' ⟨rfl, hi, s1, S, n, hD, acc⟩
  by_cases lt : i < xs.length
  · refine .inr ⟨wk.goes i H' lt (hG _ s1), Pv (i + 1), fun H2 p => ⟨xs.length - (i + 1), by omega, rfl, lt, p⟩, ?_⟩
    intro x H2 y
    obtain ⟨rfl, ex⟩ := wk.yields i H' x H2 lt (hG _ s1) y
    have ez : zs[i]? = some zs[i] := List.getElem?_eq_getElem (by omega)
    have sub : ∀ k, ∀ v ∈ (zs.take i).flatten ++ (zs[i]'(by omega)).take k, v ∈ zs.flatten := fun k v m => by
      rcases List.mem_append.mp m with m | m
      · obtain ⟨l, ml, mv⟩ := List.mem_flatten.mp m
        exact List.mem_flatten.mpr ⟨l, List.mem_of_mem_take ml, mv⟩
      · exact List.mem_flatten.mpr ⟨_, List.getElem_mem _, List.mem_of_mem_take m⟩
    have whole : ∀ v ∈ zs[i]'(by omega), v ∈ zs.flatten := fun v m => List.mem_flatten.mpr ⟨_, List.getElem_mem _, m⟩
    generalize zs[i]'(by omega) = z at ez sub whole
    refine ⟨hw _, ?_⟩
    refine hin i x z H2 D _ _ ex ez s1 hD fun J1 G1 H1 s11 w1 hG1 => ?_
    let P1 : Nat → Hp → Prop := fun k H' => Same H H' ∧ (∀ b o, b ≠ D → H1 b = some o → H' b = some o) ∧ ∃ S n, H' D = some (SetO w D S n) ∧ Acc ((zs.take i).flatten ++ z.take k) S n
    have below : ∀ k H', P1 k H' → G1 H' := fun k H' p => hG1 _ p.2.1
    refine ⟨fun k m H' => m = z.length - k ∧ k ≤ z.length ∧ P1 k H', ⟨z.length, rfl, Nat.zero_le _, s1.trans s11, fun _ _ _ e => e, S, n, s11 _ _ hD, by rw [List.take_zero, List.append_nil]; exact acc⟩, ?_⟩
    rintro k m H3 ⟨rfl, hk, p3⟩
    by_cases lt1 : k < z.length
    · refine .inr ⟨w1.goes k H3 lt1 (below k _ p3), P1 (k + 1), fun H4 p => ⟨z.length - (k + 1), by omega, rfl, lt1, p⟩, ?_⟩
      intro u H4 y1
      obtain ⟨rfl, eu⟩ := w1.yields k H3 u H4 lt1 (below k _ p3) y1
      obtain ⟨s3, others, S3, n3, hD3, acc3⟩ := p3
      have mu : u ∈ zs.flatten := whole u (List.mem_of_getElem? eu)
      have etake : (zs.take i).flatten ++ z.take (k + 1) = ((zs.take i).flatten ++ z.take k) ++ [u] := by
        rw [List.take_add_one, eu, List.append_assoc]
        rfl
      refine ⟨hw1 _ _, htt _ _ _ _ mu ?_⟩
      rcases kind u mu with ⟨c, rfl⟩ | nm
      · have lt64 := few.acc acc3 (sub k)
        refine iteT ⟨_, hj _ _, c, S3, n3, rfl, hD3, by unfold scanBound; omega, ?_, ?_, _, _, upd_same, ?_⟩
        · intro b o e
          rw [upd_ne (ne_of_none e nD)]
          exact s3 _ _ e
        · intro b o nb e
          rw [upd_ne nb]
          exact others b o nb e
        · rw [etake]
          exact acc3.put
      · rw [nm]
        refine iteF ⟨s3, others, S3, n3, hD3, ?_⟩
        rw [etake]
        exact acc3.skip fun c e => by rw [e] at nm; cases nm
    · have e : k = z.length := by omega
      subst e
      obtain ⟨s3, others, S3, n3, hD3, acc3⟩ := p3
      refine .inl ⟨w1.stops H3 (below _ _ ⟨s3, others, S3, n3, hD3, acc3⟩), s3, S3, n3, hD3, ?_⟩
      rw [take_cat ez]
      rw [List.take_length] at acc3
      exact acc3
  · have e : i = xs.length := by omega
    subst e
    rw [← len, List.take_length] at acc
    exact .inl ⟨wk.stops H' (hG _ s1), hq D H' S n s1 nD hD acc⟩
/-- all terms of a question in the order of its parts -/
def Qn.all (q : Qn) : List V := q.head ++ (q.body.map (·.2)).flatten ++ (q.pairs.map fun u => [u.1, u.2]).flatten
def spTermsOf (K : PySem.W.Frag) : Sp := fun vs H Q _ => ∃ (p : Addr) (q : Qn), vs = [.ref p] ∧ QnAt K H p q ∧ q.all.length ≤ 1000 ∧ ∀ (l : Addr) (H' : Hp), Same H H' → H l = none → H' l = some (.lst q.all) → Q (.ref l) H'
def QRef (K : PySem.W.Frag) (H : Hp) (x : V) (q : Qn) : Prop := ∃ r, x = .ref r ∧ QnAt K H r q
theorem QRef.keep {K : PySem.W.Frag} {H H' : Hp} {x : V} {q : Qn} (h : QRef K H x q) (s : Same H H') : QRef K H' x q := by
  obtain ⟨r, e, h1⟩ := h
  exact ⟨r, e, h1.keep s⟩
/-- what a term may be -/
def TermV (v : V) : Prop := (∃ c, v = .int c ∧ 0 ≤ c ∧ c ≤ 1000000000) ∨ nameV v = true
def Values (zs : List V) (ns : List Int) : Prop := ns.Pairwise (· < ·) ∧ ∀ k, k ∈ ns ↔ V.int k ∈ zs
def spUVals (K : PySem.W.Frag) : Sp := fun vs H Q _ => ∃ (u : Addr) (us : List V) (qs : List Qn), vs = [.ref u] ∧ SqT K H u us ∧ Paired (QRef K H) us qs ∧ (∀ q ∈ qs, q.all.length ≤ 1000) ∧ Few64 (qs.map Qn.all).flatten ∧ (∀ v ∈ (qs.map Qn.all).flatten, TermV v) ∧
  ∀ (ns : List Int) (r : Addr) (H' : Hp), Values (qs.map Qn.all).flatten ns → Same H H' → H' r = some (.tup (ns.map V.int)) → Q (.ref r) H'
def spQVals (K : PySem.W.Frag) : Sp := fun vs H Q _ => ∃ (p : Addr) (q : Qn), vs = [.ref p] ∧ QnAt K H p q ∧ q.all.length ≤ 1000 ∧ Few64 q.all ∧ (∀ v ∈ q.all, TermV v) ∧
  ∀ (ns : List Int) (r : Addr) (H' : Hp), Values q.all ns → Same H H' → H' r = some (.tup (ns.map V.int)) → Q (.ref r) H'
section
variable {P : Program} {w : World} {K : PySem.W.Frag} {mg : Str → Option Value} {base : Heap}
theorem term_flat {v : V} (h : TermV v) : flatV v = true := by
  rcases h with ⟨c, rfl, _⟩ | h
  · rfl
  · cases v <;> first | rfl | cases h
theorem sc__terms_of : FnScope ["question", "inner", "head", "body", "unlike", "atom", "term", "pair"] ["question"] (defScope (topS 35)) := ⟨rfl, rfl, rfl, by decide +kernel, rfl, by decide +kernel, by decide +kernel⟩
theorem ok__terms_of {f : Addr} {fd : FuncData} (F : L2.Fun K "_terms_of" "_terms_of" (topS 35) f fd) (m_list : mg "list" = none) : FnOk P w K mg base CX0 1 f fd ["question"] (spTermsOf K) := by
  refine F.ok sc__terms_of (fun vs H Q E h => ?_) (fun cdv A outer s0 H vs Q E hr h => ?_)
  · obtain ⟨p, q, rfl, _⟩ := h
    rfl
  · obtain ⟨p, q, rfl, hq, few, k⟩ := h
    refine ⟨_, (pss_cons (ps_asg (pv 0) (pg_tup (by rfl) (pgs_cons (pg_name (i := 2) sc__terms_of.nd rfl (.inl rfl)) (pgs_cons (pg_name (i := 3) sc__terms_of.nd rfl (.inl rfl)) (pgs_cons (pg_name (i := 4) sc__terms_of.nd rfl (.inl rfl)) pgs_nil)))))
      (pss_cons (ps_setLc2 (i := 1) (wi := iTup K (tVar 3)) (own := [("atom", 5), ("term", 6)]) (vs1 := [6]) (g := gName 5) (tt := tYes) (g1 := gName 6) (tt1 := tYes) rfl sc__terms_of.nd rfl rfl rfl (pi_tup (pv 3)) (blkOk_by (N := ["question", "inner", "head", "body", "unlike", "atom", "term", "pair"]) (sc := defScope (topS 35)) (by decide +kernel)) (by decide) (fun _ _ _ _ _ => pg_name (i := 5) sc__terms_of.nd rfl (Or.inl rfl)) (fun _ _ _ _ _ => pts_nil) (fun _ _ _ _ _ => (show PI _ _ _ (iTup K (tOp (rIxT K) (tVar 5) (tC (.int 1)))) from pi_tup (pe_ix ix_tup (pv 5) pe_int (fun _ _ => rfl)))) (fun _ _ _ _ _ => pg_name (i := 6) sc__terms_of.nd rfl (Or.inl rfl)) (fun _ _ _ _ _ => pts_nil) (fun _ _ _ _ _ => (pv 6)))
      (pss_one (ps_ret (pe_op op_cat (pe_op op_cat (pe_callTy call_list_of (by rfl) m_list (by decide +kernel) (pa_cons (pv 2) pa_nil)) (pv 1)) (pe_lc2 (own := [("pair", 7), ("term", 6)]) (vs1 := [6]) (g := gName 7) (tt := tYes) (g1 := gName 6) (tt1 := tYes) rfl sc__terms_of.nd (pi_tup (pv 4)) (blkOk_by (N := ["question", "inner", "head", "body", "unlike", "atom", "term", "pair"]) (sc := defScope (topS 35)) (by decide +kernel)) (by decide) (fun _ _ _ _ _ => pg_name (i := 7) sc__terms_of.nd rfl (Or.inl rfl)) (fun _ _ _ _ _ => pts_nil) (fun _ _ _ _ _ => (show PI _ _ _ (iTup K (tVar 7)) from pi_tup (pv 7))) (fun _ _ _ _ _ => pg_name (i := 6) sc__terms_of.nd rfl (Or.inl rfl)) (fun _ _ _ _ _ => pts_nil) (fun _ _ _ _ _ => (pv 6)))))))), ?_⟩
    obtain ⟨h0, b, u, bs, us, h1, h2, h3, h4, h5, h6⟩ := hq.ex
    have lb := paired_len h4
    have lu := paired_len h6
    have few' := few
    unfold Qn.all at few'
    rw [List.length_append, List.length_append] at few'
    refine ⟨_, rfl, p, _, rfl, h1, rfl, _, _, rfl, _, _, rfl, _, _, rfl, rfl, ?_⟩
    dsimp only [tSeq, tAsg, tRet]
    have lf : (q.pairs.map fun u => [u.1, u.2]).length = us.length := by rw [List.length_map, lu]
    refine lc2Cat bs (q.body.map (·.2)) (by rw [List.length_map, lb]) (by omega) (fun R hR => ?_) (fun i x z H' R ex ez s1 hR => ?_) (by intro _; rfl) (by intro _ _; rfl) (by intro _ _; rfl) (fun D H1 s1 nD hD => ?_)
    · exact ⟨_, rfl, b, rfl, ⟨_, h3⟩, hR _ _ walk_tup fun H' s => seqT_keep h3 s⟩
    · rw [List.getElem?_map] at ez
      obtain ⟨a, ea, rfl⟩ := Option.map_eq_some_iff.mp ez
      obtain ⟨p1, r1, rfl, g1, g2⟩ := paired_at h4 ex ea
      exact ⟨_, rfl, p1, _, _, _, rfl, rfl, seqT_keep g1 s1, atI_nat (j := 1) rfl, r1, rfl, ⟨_, seqT_keep g2 s1⟩, hR _ _ walk_tup fun H'' s => seqT_keep g2 s⟩
    · refine ⟨_, rfl, h0, _, rfl, .inr (seqT_keep h2 s1), fun l nl => ?_⟩
      have sl := same_upd (o := HO.lst q.head) nl
      have hl : (upd H1 l (.lst q.head)) l = some (.lst q.head) := upd_same
      have hD2 := sl _ _ hD
      generalize upd H1 l (.lst q.head) = H2 at sl hl hD2 ⊢
      refine ⟨_, rfl, l, D, _, _, rfl, rfl, hl, hD2, Nat.le_of_lt (small1000 (by omega)), fun c nc => ?_⟩
      have sc := same_upd (o := HO.lst (q.head ++ (q.body.map (·.2)).flatten)) nc
      have hc : (upd H2 c (.lst (q.head ++ (q.body.map (·.2)).flatten))) c = some (.lst (q.head ++ (q.body.map (·.2)).flatten)) := upd_same
      generalize upd H2 c (.lst (q.head ++ (q.body.map (·.2)).flatten)) = H3 at sc hc ⊢
      have s13 := (s1.trans sl).trans sc
      refine lc2Cat us (q.pairs.map fun u => [u.1, u.2]) lf (by omega) (fun R hR => ?_) (fun i x z H' R ex ez s4 hR => ?_) (by intro _; rfl) (by intro _ _; rfl) (by intro _ _; rfl) (fun D2 H4 s4 nD2 hD2 => ?_)
      · exact ⟨_, rfl, u, rfl, ⟨_, seqT_keep h5 s13⟩, hR _ _ walk_tup fun H' s => seqT_keep h5 (s13.trans s)⟩
      · rw [List.getElem?_map] at ez
        obtain ⟨a, ea, rfl⟩ := Option.map_eq_some_iff.mp ez
        obtain ⟨p1, rfl, g1⟩ := paired_at h6 ex ea
        have s5 := s13.trans s4
        exact ⟨_, rfl, p1, rfl, ⟨_, seqT_keep g1 s5⟩, hR _ _ walk_tup fun H'' s => seqT_keep (seqT_keep g1 s13) s⟩
      · refine ⟨c, D2, _, _, rfl, rfl, s4 _ _ hc, hD2, Nat.le_of_lt (small1000 (by rw [List.length_append]; omega)), fun e ne => ?_⟩
        have s14 := s13.trans s4
        exact k e _ (s14.trans (same_upd ne)) (s14.free ne) upd_same
theorem sc_union_values : FnScope ["union", "question", "term"] ["union"] (defScope (topS 36)) := ⟨rfl, rfl, rfl, by decide +kernel, rfl, by decide +kernel, by decide +kernel⟩
theorem ok_union_values {f : Addr} {fd : FuncData} (F : L2.Fun K "union_values" "union_values" (topS 36) f fd) (cT : Cal P w K mg base 1 "_terms_of" (spTermsOf K)) (cN : Cal P w K mg base 1 "is_name" (spName K)) (m_sorted : mg "sorted" = none) (m_tuple : mg "tuple" = none) : FnOk P w K mg base CX0 2 f fd ["union"] (spUVals K) := by
  refine F.ok sc_union_values (fun vs H Q E h => ?_) (fun cdv A outer s0 H vs Q E hr h => ?_)
  · obtain ⟨u, us, qs, rfl, _⟩ := h
    rfl
  · obtain ⟨u, us, qs, rfl, hu, hq, few, few64, kind, k⟩ := h
    refine ⟨_, (pss_one (ps_ret (pe_callTy call_tuple_of (by rfl) m_tuple (by decide +kernel) (pa_cons (pe_callB (cr_sortedSet rfl) (by rfl) m_sorted (by decide +kernel) (pa_cons (pe_sc2 (own := [("question", 1), ("term", 2)]) (vs1 := [2]) (g := gName 1) (g1 := gName 2) rfl sc_union_values.nd (pi_tup (pv 0)) (blkOk_by (N := ["union", "question", "term"]) (sc := defScope (topS 36)) (by decide +kernel)) (by decide) (fun _ _ _ _ _ => pg_name (i := 1) sc_union_values.nd rfl (Or.inl rfl)) (fun _ _ _ _ _ => (show PI _ _ _ (iList K (tCall (spTermsOf K) [] E0 (tCons (tVar 1) tNil))) from pi_list (pe_c cT hr (by decide) rfl (pa_cons (pv 1) pa_nil)))) (fun _ _ _ _ _ => pg_name (i := 2) sc_union_values.nd rfl (Or.inl rfl)) (fun _ _ _ _ _ => pts_one (pt_not (pt_val (show PE _ _ (tCall (spName K) [] E0 (tCons (tVar 2) tNil)) from pe_c cN hr (by decide) rfl (pa_cons (pv 2) pa_nil))))) (fun _ _ _ _ _ => (pv 2))) pa_nil)) pa_nil)))), ?_⟩
    have lu := paired_len hq
    dsimp only [tRet, tCB, tCons, tNil]
    refine sc2Vals us (qs.map Qn.all) (by rw [List.length_map, lu]) few64 (fun y m => (kind y m).imp (fun ⟨c, e, _⟩ => ⟨c, e⟩) id) (fun R hR => ?_) (fun i x z H' D o R ex ez s1 hD hR => ?_) (by intro _; rfl) (by intro _ _; rfl) (by intro _ _; rfl) (fun x y H' R my hR => ?_) (fun D H1 S n s1 nD hD acc => ?_)
    · exact ⟨_, rfl, u, rfl, ⟨_, hu⟩, hR _ _ walk_tup fun H' s => seqT_keep hu s⟩
    · rw [List.getElem?_map] at ez
      obtain ⟨q, eq, rfl⟩ := Option.map_eq_some_iff.mp ez
      obtain ⟨r, rfl, g⟩ := paired_at hq ex eq
      refine ⟨_, rfl, r, q, rfl, g.keep s1, few q (List.mem_of_getElem? eq), fun l H1 s11 nl hl => ?_⟩
      refine ⟨l, rfl, ⟨_, SqL.of hl⟩, hR _ _ H1 s11 walk_list fun H2 s2 => SqL.of (s2 _ _ (fun z => ?_) hl)⟩
      rw [z, hD] at nl
      cases nl
    · obtain ⟨t, ht⟩ := ty_flat (K := K) (H := H') (term_flat (kind y my))
      exact ⟨_, rfl, y, t, rfl, ht, _, rfl, hR⟩
    · refine ⟨D, S, n, rfl, hD, few64.acc acc fun v m => m, fun ns l pw mem ln nl => ?_⟩
      have own : Values (qs.map Qn.all).flatten ns := by
        obtain ⟨ms, _, _, m1, m2⟩ := acc
        exact ⟨pw, fun c => by rw [mem, m1, m2]⟩
      have sl := same_upd (o := HO.lst (ns.map V.int)) nl
      refine ⟨l, _, rfl, .inl ⟨SqL.of upd_same, fun r nr => ?_⟩⟩
      exact k ns r _ own ((s1.trans sl).trans (same_upd nr)) upd_same
/-- of one question alone -/
theorem sc_question_values : FnScope ["question"] ["question"] (defScope (topS 34)) := ⟨rfl, rfl, rfl, by decide +kernel, rfl, by decide +kernel, by decide +kernel⟩
theorem ok_question_values {f : Addr} {fd : FuncData} (F : L2.Fun K "question_values" "question_values" (topS 34) f fd) (cU : Cal P w K mg base 2 "union_values" (spUVals K)) : FnOk P w K mg base CX0 3 f fd ["question"] (spQVals K) := by
  refine F.ok sc_question_values (fun vs H Q E h => ?_) (fun cdv A outer s0 H vs Q E hr h => ?_)
  · obtain ⟨p, q, rfl, _⟩ := h
    rfl
  · obtain ⟨p, q, rfl, hq, few, few64, kind, k⟩ := h
    refine ⟨_, (pss_one (ps_ret (pe_c cU hr (by decide) rfl (pa_cons (pe_tup (pa_cons (pv 0) pa_nil)) pa_nil)))), ?_⟩
    have one : ([q].map Qn.all).flatten = q.all := by simp
    refine ⟨_, rfl, Nat.le_of_lt (small1000 (by show 1 ≤ 1000; omega)), fun u nu => ?_⟩
    have su := same_upd (o := HO.tup [V.ref p]) nu
    refine ⟨u, [.ref p], [q], rfl, SqT.of upd_same, .cons ⟨p, rfl, hq.keep su⟩ .nil, fun r m => ?_, by rw [one]; exact few64, by rw [one]; exact kind, fun ns r H' v s e => k ns r H' (by rw [one] at v; exact v) (su.trans s) e⟩
    rw [List.mem_singleton.mp m]
    exact few
end
end My
set_option Elab.async false
set_option linter.all false
set_option maxRecDepth 100000
set_option maxHeartbeats 4000000
namespace My
open PySem PySem.Spec PyProof.Rows L2

/-! ### what the law asks of things -/
def spLSeq (K : PySem.W.Frag) : Sp := fun vs H Q _ => ∃ (x : V) (d : PyData), vs = [x] ∧ Dq H x d ∧ Q (.bl (seqOf d).isSome) H
def spLInt (K : PySem.W.Frag) : Sp := fun vs H Q _ => ∃ (x : V) (d : PyData), vs = [x] ∧ Dq H x d ∧ Q (.bl (intD d)) H
def spLVal (K : PySem.W.Frag) : Sp := fun vs H Q _ => ∃ (x : V) (d : PyData), vs = [x] ∧ Dq H x d ∧ Q (.bl (valueD d)) H
def spLName (K : PySem.W.Frag) : Sp := fun vs H Q _ => ∃ (x : V) (d : PyData), vs = [x] ∧ Dq H x d ∧ ∀ H', Same H H' → Q (.bl (nameD d)) H'
def spLTruth (K : PySem.W.Frag) : Sp := fun vs H Q _ => ∃ (b c : Bool), vs = [.bl b, .bl c] ∧ Q (.bl (decide (b = c))) H
theorem isi_list {K : PySem.W.Frag} (d : PyData) : decide (tyD d = "list") = (match d with
  | .list _ => true
  | _ => false) := by cases d <;> rfl
section
variable {P : Program} {w : World} {K : PySem.W.Frag} {mg : Str → Option Value} {base : Heap}
theorem sc__law_seq : FnScope ["_law_thing"] ["_law_thing"] (defScope (topS 49)) := ⟨rfl, rfl, rfl, by decide +kernel, rfl, by decide +kernel, by decide +kernel⟩
theorem ok__law_seq {f : Addr} {fd : FuncData} (F : L2.Fun K "_law_seq" "_law_seq" (topS 49) f fd) (m_isinstance : mg "isinstance" = none) (m_list : mg "list" = none) (m_tuple : mg "tuple" = none) : FnOk P w K mg base CX0 1 f fd ["_law_thing"] (spLSeq K) := by
  refine F.ok sc__law_seq (fun vs H Q E h => ?_) (fun cdv A outer s0 H vs Q E hr h => ?_)
  · obtain ⟨x, d, rfl, _⟩ := h
    rfl
  · obtain ⟨x, d, rfl, hd, q⟩ := h
    refine ⟨_, (pss_one (ps_ret (pe_or (pe_callB call_isi (by rfl) m_isinstance (by decide +kernel) (pa_cons (pv 0) (pa_cons (pe_bltn (v := .ty "list") (by rfl) m_list (by decide +kernel) rfl) pa_nil))) (pe_one (pe_callB call_isi (by rfl) m_isinstance (by decide +kernel) (pa_cons (pv 0) (pa_cons (pe_bltn (v := .ty "tuple") (by rfl) m_tuple (by decide +kernel) rfl) pa_nil))))))), ?_⟩
    refine ⟨_, rfl, x, .ty "list", _, _, _, rfl, .ty _, .base hd.ty, kit_dList d, _, rfl, ?_⟩
    have k2 := kit_dTuple (K := K) d
    cases d with
    | list ds => exact iteT q
    | tuple ds => exact iteF ⟨_, rfl, x, .ty "tuple", _, _, _, rfl, .ty _, .base hd.ty, k2, q⟩
    | _ => exact iteF ⟨_, rfl, x, .ty "tuple", _, _, _, rfl, .ty _, .base hd.ty, k2, q⟩
theorem sc__law_int : FnScope ["_law_thing"] ["_law_thing"] (defScope (topS 50)) := ⟨rfl, rfl, rfl, by decide +kernel, rfl, by decide +kernel, by decide +kernel⟩
theorem ok__law_int {f : Addr} {fd : FuncData} (F : L2.Fun K "_law_int" "_law_int" (topS 50) f fd) (m_isinstance : mg "isinstance" = none) (m_int : mg "int" = none) (m_bool : mg "bool" = none) : FnOk P w K mg base CX0 1 f fd ["_law_thing"] (spLInt K) := by
  refine F.ok sc__law_int (fun vs H Q E h => ?_) (fun cdv A outer s0 H vs Q E hr h => ?_)
  · obtain ⟨x, d, rfl, _⟩ := h
    rfl
  · obtain ⟨x, d, rfl, hd, q⟩ := h
    refine ⟨_, (pss_one (ps_ret (pe_and (pe_callB call_isi (by rfl) m_isinstance (by decide +kernel) (pa_cons (pv 0) (pa_cons (pe_bltn (v := .ty "int") (by rfl) m_int (by decide +kernel) rfl) pa_nil))) (pe_one (pe_not (pe_callB call_isi (by rfl) m_isinstance (by decide +kernel) (pa_cons (pv 0) (pa_cons (pe_bltn (v := .ty "bool") (by rfl) m_bool (by decide +kernel) rfl) pa_nil)))))))), ?_⟩
    refine ⟨_, rfl, x, .ty "int", _, _, _, rfl, .ty _, .base hd.ty, kit_dInt d, _, rfl, ?_⟩
    have k2 := kit_dBool (K := K) d
    cases d with
    | int i => exact iteT ⟨_, rfl, x, .ty "bool", _, _, _, rfl, .ty _, .base hd.ty, k2, _, rfl, q⟩
    | bool b => exact iteT ⟨_, rfl, x, .ty "bool", _, _, _, rfl, .ty _, .base hd.ty, k2, _, rfl, q⟩
    | _ => exact iteF q
theorem sc__law_is_value : FnScope ["_law_thing"] ["_law_thing"] (defScope (topS 51)) := ⟨rfl, rfl, rfl, by decide +kernel, rfl, by decide +kernel, by decide +kernel⟩
theorem ok__law_is_value {f : Addr} {fd : FuncData} (F : L2.Fun K "_law_is_value" "_law_is_value" (topS 51) f fd) (cI : Cal P w K mg base 1 "_law_int" (spLInt K)) : FnOk P w K mg base CX0 2 f fd ["_law_thing"] (spLVal K) := by
  refine F.ok sc__law_is_value (fun vs H Q E h => ?_) (fun cdv A outer s0 H vs Q E hr h => ?_)
  · obtain ⟨x, d, rfl, _⟩ := h
    rfl
  · obtain ⟨x, d, rfl, hd, q⟩ := h
    refine ⟨_, (pss_one (ps_ret (pe_and (pe_c cI hr (by decide) rfl (pa_cons (pv 0) pa_nil)) (pe_one (pe_chain op_le op_le pe_int (pv 0) (pe_op op_pow pe_int pe_int)))))), ?_⟩
    refine ⟨_, rfl, x, d, rfl, hd, _, rfl, ?_⟩
    cases hd with
    | int i =>
      refine iteT ?_
      refine ⟨_, rfl, _, _, rfl, rfl, _, rfl, ite2 (fun e1 => ?_) (fun e1 => ?_)⟩
      · refine ⟨_, _, rfl, rfl, ⟨by decide, by decide, by decide⟩, _, _, rfl, rfl, ?_⟩
        have e : valueD (.int i) = decide (i ≤ 10 ^ (9 : Int).toNat) := by
          show (decide (0 ≤ i) && decide (i ≤ 1000000000)) = _
          rw [e1, Bool.true_and]
          rfl
        rw [e] at q
        exact q
      · have e : valueD (.int i) = false := by
          show (decide (0 ≤ i) && decide (i ≤ 1000000000)) = false
          cases z : decide ((0 : Int) ≤ i) with
          | true => exact absurd z e1
          | false => rfl
        rw [e] at q
        exact q
    | _ => exact iteF q
theorem sc__law_is_name : FnScope ["_law_thing"] ["_law_thing"] (defScope (topS 52)) := ⟨rfl, rfl, rfl, by decide +kernel, rfl, by decide +kernel, by decide +kernel⟩
theorem ok__law_is_name {f : Addr} {fd : FuncData} (F : L2.Fun K "_law_is_name" "_law_is_name" (topS 52) f fd) (m_isinstance : mg "isinstance" = none) (m_str : mg "str" = none) : FnOk P w K mg base CX0 1 f fd ["_law_thing"] (spLName K) := by
  refine F.ok sc__law_is_name (fun vs H Q E h => ?_) (fun cdv A outer s0 H vs Q E hr h => ?_)
  · obtain ⟨x, d, rfl, _⟩ := h
    rfl
  · obtain ⟨x, d, rfl, hd, q⟩ := h
    refine ⟨_, (pss_one (ps_ret (pe_and (pe_callB call_isi (by rfl) m_isinstance (by decide +kernel) (pa_cons (pv 0) (pa_cons (pe_bltn (v := .ty "str") (by rfl) m_str (by decide +kernel) rfl) pa_nil))) (pe_one (pe_cmpR op_in_seq (pv 0) (pe_tup (pa_cons pe_str (pa_cons pe_str (pa_cons pe_str (pa_cons pe_str (pa_cons pe_str (pa_cons pe_str (pa_cons pe_str (pa_cons pe_str pa_nil))))))))) (by rfl)))))), ?_⟩
    refine ⟨_, rfl, x, .ty "str", _, _, _, rfl, .ty _, .base hd.ty, kit_dStr d, _, rfl, ?_⟩
    cases hd with
    | str s =>
      refine iteT ⟨_, rfl, Nat.le_of_lt (small1000 (by show 8 ≤ 1000; omega)), fun p np => ?_⟩
      refine ⟨p, _, rfl, .inr (SqT.of upd_same), rfl, rfl, ?_⟩
      rw [if_neg (fun z => nomatch z)]
      have e := in_eight s
      show Q (.bl (inV (.str s) (eight.map V.str))) _
      rw [e]
      exact q _ (same_upd np)
    | _ => exact iteF (q _ (Same.refl _))
theorem sc__law_truth : FnScope ["_law_told", "_law_due"] ["_law_told", "_law_due"] (defScope (topS 54)) := ⟨rfl, rfl, rfl, by decide +kernel, rfl, by decide +kernel, by decide +kernel⟩
theorem ok__law_truth {f : Addr} {fd : FuncData} (F : L2.Fun K "_law_truth" "_law_truth" (topS 54) f fd) (m_isinstance : mg "isinstance" = none) (m_bool : mg "bool" = none) : FnOk P w K mg base CX0 1 f fd ["_law_told", "_law_due"] (spLTruth K) := by
  refine F.ok sc__law_truth (fun vs H Q E h => ?_) (fun cdv A outer s0 H vs Q E hr h => ?_)
  · obtain ⟨b, c, rfl, _⟩ := h
    rfl
  · obtain ⟨b, c, rfl, q⟩ := h
    refine ⟨_, (pss_one (ps_ret (pe_and (pe_callB call_isi (by rfl) m_isinstance (by decide +kernel) (pa_cons (pv 0) (pa_cons (pe_bltn (v := .ty "bool") (by rfl) m_bool (by decide +kernel) rfl) pa_nil))) (pe_one (pe_cmpR op_eq (pv 0) (pv 1) (nomark _)))))), ?_⟩
    refine ⟨_, rfl, _, .ty "bool", _, _, true, rfl, .ty _, .base (.bl b), kit_ty (by decide +kernel), _, rfl, iteT ?_⟩
    refine ⟨_, rfl, _, rfl, rfl, ?_⟩
    have e : decide (V.bl b = V.bl c) = decide (b = c) := by cases b <;> cases c <;> rfl
    first | (rw [e]; exact q) | exact q
end
end My
set_option Elab.async false
set_option linter.all false
set_option maxRecDepth 100000
set_option maxHeartbeats 4000000
namespace My
open PySem PySem.Spec PyProof.Rows L2
/-- for x in xs, a list or a tuple -/
theorem forSeq {K : PySem.W.Frag} {te : TE} {a : Addr} {xs : List V} {g : TG} {tb : TS} {D : Ends} {σ : L2.St} {H0 H : Hp} (hv : ∀ R : VK, R (.ref a) H → te σ H R) (hs : SqV K H0 a xs) (s0 : Same H0 H) (Pv : Nat → L2.St → Hp → Prop) (h0 : Pv 0 σ H) (hG : ∀ i σ H', i ≤ xs.length → Pv i σ H' → Same H0 H')
    (hl : ∀ i x σ H', xs[i]? = some x → Pv i σ H' → g x σ H' fun σ2 H2 => tb { D with nx := Pv (i + 1), ct := Pv (i + 1), bk := D.nx } σ2 H2) (hd : ∀ σ H', Pv xs.length σ H' → D.nx σ H') : tFor (iSeq K te) g tb D σ H := by
  rcases hs with hs | hs
  · refine .inl (hv _ ⟨a, rfl, ⟨_, s0.seq hs⟩, for_it (walk_list (K := K) (a := a) (xs := xs)) Pv h0 (fun i σ H' hi p => (hG i σ H' hi p).seq hs) (fun i x σ H' H2 hi p y => ?_) hd⟩)
    obtain ⟨rfl, ex⟩ := y
    exact hl i x σ H2 ex p
  · refine .inr (hv _ ⟨a, rfl, ⟨_, seqT_keep hs s0⟩, for_it (walk_tup (K := K) (a := a) (xs := xs)) Pv h0 (fun i σ H' hi p => seqT_keep hs (hG i σ H' hi p)) (fun i x σ H' H2 hi p y => ?_) hd⟩)
    obtain ⟨rfl, ex⟩ := y
    exact hl i x σ H2 ex p

def strV : V → Bool
  | .str _ => true
  | _ => false
/-- a body: couples of a table and terms, lists or tuples -/
def AtomQ (K : PySem.W.Frag) (H : Hp) (x : V) (z : List V) : Prop := ∃ p t r, x = .ref p ∧ SqV K H p [t, .ref r] ∧ SqV K H r z
theorem sqV_keep {K : PySem.W.Frag} {H H' : Hp} {a : Addr} {xs : List V} (h : SqV K H a xs) (s : Same H H') : SqV K H' a xs := h.imp s.seq fun h => seqT_keep h s
theorem AtomQ.keep {K : PySem.W.Frag} {H H' : Hp} {x : V} {z : List V} (h : AtomQ K H x z) (s : Same H H') : AtomQ K H' x z := by
  obtain ⟨p, t, r, e, h1, h2⟩ := h
  exact ⟨p, t, r, e, sqV_keep h1 s, sqV_keep h2 s⟩
theorem AtomAt.q {K : PySem.W.Frag} {H : Hp} {x : V} {a : Int × List V} (h : AtomAt K H x a) : AtomQ K H x a.2 := by
  obtain ⟨p, r, e, h1, h2⟩ := h
  exact ⟨p, _, r, e, .inr h1, .inr h2⟩
def Terms (zs : List V) : Prop := zs.length ≤ 1000 ∧ ∀ x ∈ zs, flatV x = true ∧ (strV x = true → nameV x = true)
def spFirst (K : PySem.W.Frag) : Sp := fun vs H Q _ => ∃ (b : Addr) (bs : List V) (zs : List (List V)), vs = [.ref b] ∧ SqV K H b bs ∧ Paired (AtomQ K H) bs zs ∧ Terms zs.flatten ∧
  ∀ (r : Addr) (H' : Hp), Same H H' → H r = none → H' r = some (.lst ((unlN zs.flatten).map V.str)) → Q (.ref r) H'
/-- .. of a question -/
def spLNames (K : PySem.W.Frag) : Sp := fun vs H Q _ => ∃ (p b : Addr) (h u : V) (bs : List V) (zs : List (List V)), vs = [.ref p] ∧ SqV K H p [h, .ref b, u] ∧ SqV K H b bs ∧ Paired (AtomQ K H) bs zs ∧ Terms zs.flatten ∧
  ∀ (r : Addr) (H' : Hp), Same H H' → H r = none → H' r = some (.lst ((unlN zs.flatten).map V.str)) → Q (.ref r) H'
section
variable {P : Program} {w : World} {K : PySem.W.Frag} {mg : Str → Option Value} {base : Heap}
theorem sc__law_first : FnScope ["_law_body_here", "_law_names_here", "_law_table", "_law_terms", "_law_term"] ["_law_body_here"] (defScope (topS 44)) := ⟨rfl, rfl, rfl, by decide +kernel, rfl, by decide +kernel, by decide +kernel⟩
theorem ok__law_first {f : Addr} {fd : FuncData} (F : L2.Fun K "_law_first" "_law_first" (topS 44) f fd) (m_isinstance : mg "isinstance" = none) (m_str : mg "str" = none) : FnOk P w K mg base CX0 1 f fd ["_law_body_here"] (spFirst K) := by
  refine F.ok sc__law_first (fun vs H Q E h => ?_) (fun cdv A outer s0 H vs Q E hr h => ?_)
  · obtain ⟨b, bs, zs, rfl, _⟩ := h
    rfl
  · obtain ⟨b, bs, zs, rfl, hb, hp, ⟨few, fl⟩, k⟩ := h
    refine ⟨_, (pss_cons (ps_set (i := 1) sc__law_first.nd rfl (.inl rfl) (pe_lst pa_nil))
      (pss_cons (ps_for PassesOwn.never rfl (pi_seq (pv 0)) (pg_sq rfl (pgs_cons (pg_name (i := 2) sc__law_first.nd rfl (.inl rfl)) (pgs_cons (pg_name (i := 3) sc__law_first.nd rfl (.inl rfl)) pgs_nil))) (pss_one (ps_for PassesOwn.never rfl (pi_seq (pv 3)) (pg_name (i := 4) sc__law_first.nd rfl (.inl rfl)) (pss_one (ps_if (PW.pt (pw_and (pt_val (pe_callB call_isi (by rfl) m_isinstance (by decide +kernel) (pa_cons (pv 4) (pa_cons (pe_bltn (v := .ty "str") (by rfl) m_str (by decide +kernel) rfl) pa_nil)))) (pw_and1 (pt_cmpR op_notIn_seq (pv 4) (pv 1) (by rfl))))) (pss_one (ps_expr (pe_bm PySem.F.plainAttrs_list PySem.F.slot_list_append PySem.F.type_list_append mt_append (pv 1) (pa_cons (pv 4) pa_nil)))) pss_nil)))))
      (pss_one (ps_ret (pv 1))))), ?_⟩
    have lb := paired_len hp
    have flat_str : ∀ (l : List Str), ∀ y ∈ l.map V.str, flatV y = true := fun l y hy => by
      obtain ⟨z, _, rfl⟩ := List.mem_map.mp hy
      rfl
    have notIn : ∀ (z : Str) (l : List Str), (if true = true then !inV (.str z) (l.map V.str) else inV (.str z) (l.map V.str)) = !decide (z ∈ l) := fun z l => by
      rw [if_pos rfl, in_strs]
    refine ⟨Nat.zero_le _, fun D nD => ?_⟩
    let At : List V → Hp → Prop := fun xs H' => Same H H' ∧ H' D = some (.lst ((unlN xs).map V.str)) ∧ (unlN xs).length ≤ xs.length
    refine forSeq (a := b) (xs := bs) (H0 := H) (fun R h => ⟨_, rfl, h⟩) hb (same_upd nD) (fun i σ H' => (∃ x2 x3 x4, σ = [some (.ref b), some (.ref D), x2, x3, x4]) ∧ At (zs.take i).flatten H') ⟨⟨_, _, _, rfl⟩, same_upd nD, upd_same, Nat.le_refl _⟩ (fun i σ H' hi hp => hp.2.1) (fun i x σ H' ex hq => ?_) (fun σ H' hq => ?_)
    · obtain ⟨⟨x2, x3, x4, rfl⟩, hA⟩ := hq
      have li : i < zs.length := by
        rw [← lb]
        exact (List.getElem?_eq_some_iff.mp ex).1
      have ez : zs[i]? = some zs[i] := List.getElem?_eq_getElem li
      obtain ⟨p1, t1, r1, rfl, g1, g2⟩ := paired_at hp ex ez
      generalize zs[i] = z at g2 ez
      have le := cat_le ez
      have sub : ∀ y ∈ z, flatV y = true ∧ (strV y = true → nameV y = true) := fun y hy => fl y (List.mem_flatten.mpr ⟨z, List.mem_of_getElem? ez, hy⟩)
      refine rd_sq (sqV_keep g1 hA.1) rfl ⟨_, _, rfl, _, _, rfl, rfl, ?_⟩
      refine forSeq (a := r1) (xs := z) (H0 := H) (fun R h => ⟨_, rfl, h⟩) g2 hA.1 (fun j σ H' => (∃ x3 x4, σ = [some (.ref b), some (.ref D), x4, some (.ref r1), x3]) ∧ At ((zs.take i).flatten ++ z.take j) H') ⟨⟨_, _, rfl⟩, by rw [List.take_zero, List.append_nil]; exact hA⟩ (fun j σ H' hj hp => hp.2.1) (fun j y σ H2 ey hq => ?_) (fun σ H2 hq => ?_)
      · obtain ⟨⟨x3, x4, rfl⟩, hB⟩ := hq
        obtain ⟨s2, hD, hl⟩ := hB
        obtain ⟨fy, ny⟩ := sub y (List.mem_of_getElem? ey)
        obtain ⟨t, ty⟩ := ty_flat (K := K) (H := H2) fy
        have tk : (zs.take i).flatten ++ z.take (j + 1) = ((zs.take i).flatten ++ z.take j) ++ [y] := by
          rw [List.take_add_one, ey, List.append_assoc]
          rfl
        have stay : addN (unlN ((zs.take i).flatten ++ z.take j)) y = unlN ((zs.take i).flatten ++ z.take j) → At ((zs.take i).flatten ++ z.take (j + 1)) H2 := fun e => by
          refine ⟨s2, ?_, ?_⟩
          · rw [tk, unlN_snoc, e]
            exact hD
          · rw [tk, unlN_snoc, e, List.length_append]
            omega
        refine ⟨_, rfl, y, .ty "str", _, _, _, rfl, .ty _, .base ty, kit_str ty, ?_⟩
        have jz : j < z.length := (List.getElem?_eq_some_iff.mp ey).1
        cases y with
        | str s =>
          have me : s ∈ eight := of_decide_eq_true (ny rfl)
          refine ⟨true, rfl, iteT ⟨_, rfl, _, rfl, D, _, rfl, .inl (SqL.of hD), rfl, List.all_eq_true.mpr (flat_str _), _, congrArg V.bl (notIn s _), ?_⟩⟩
          by_cases hm : s ∈ unlN ((zs.take i).flatten ++ z.take j)
          · rw [decide_eq_true hm]
            exact iteF ⟨⟨_, _, rfl⟩, stay (if_neg (fun q => q.2 hm))⟩
          · rw [decide_eq_false hm]
            refine iteT ⟨_, rfl, .inl ⟨rfl, _, SqL.of hD⟩, _, rfl, D, _, _, rfl, rfl, hD, ?_, ⟨_, _, rfl⟩, ?_, ?_, ?_⟩
            · rw [List.length_map]
              have : (unlN ((zs.take i).flatten ++ z.take j)).length ≤ 1000 := by
                rw [List.length_append, List.length_take] at hl
                omega
              exact small1000 this
            · intro c o e
              rw [upd_ne (ne_of_none e nD)]
              exact s2 _ _ e
            · rw [upd_same, tk, unlN_snoc, show addN (unlN ((zs.take i).flatten ++ z.take j)) (.str s) = unlN ((zs.take i).flatten ++ z.take j) ++ [s] from if_pos ⟨me, hm⟩, List.map_append]
              rfl
            · rw [tk, unlN_snoc, show addN (unlN ((zs.take i).flatten ++ z.take j)) (.str s) = unlN ((zs.take i).flatten ++ z.take j) ++ [s] from if_pos ⟨me, hm⟩, List.length_append, List.length_append]
              simp
              simp at hl
              omega
        | _ => exact ⟨false, rfl, iteF (iteF ⟨⟨_, _, rfl⟩, stay rfl⟩)⟩
      · obtain ⟨⟨x3, x4, rfl⟩, hB⟩ := hq
        rw [List.take_length, ← take_cat ez] at hB
        exact ⟨⟨_, _, _, rfl⟩, hB⟩
    · obtain ⟨⟨x2, x3, x4, rfl⟩, s2, hD, _⟩ := hq
      have el : zs.take bs.length = zs := by
        rw [lb]
        exact List.take_of_length_le (Nat.le_refl _)
      rw [el] at hD
      exact ⟨_, rfl, k D H' s2 nD hD⟩
theorem sc__law_names : FnScope ["_law_question"] ["_law_question"] (defScope (topS 45)) := ⟨rfl, rfl, rfl, by decide +kernel, rfl, by decide +kernel, by decide +kernel⟩
theorem ok__law_names {f : Addr} {fd : FuncData} (F : L2.Fun K "_law_names" "_law_names" (topS 45) f fd) (cF : Cal P w K mg base 1 "_law_first" (spFirst K)) : FnOk P w K mg base CX0 2 f fd ["_law_question"] (spLNames K) := by
  refine F.ok sc__law_names (fun vs H Q E h => ?_) (fun cdv A outer s0 H vs Q E hr h => ?_)
  · obtain ⟨p, b, h, u, bs, zs, rfl, _⟩ := h
    rfl
  · obtain ⟨p, b, h, u, bs, zs, rfl, hp, hb, hz, ok, k⟩ := h
    refine ⟨_, (pss_one (ps_ret (pe_c cF hr (by decide) rfl (pa_cons (pe_ix ix_seq (pv 0) pe_int (fun _ _ => rfl)) pa_nil)))), ?_⟩
    exact ⟨_, rfl, rd_ix hp rfl ⟨b, bs, zs, rfl, hb, hz, ok, k⟩⟩
end
end My
set_option Elab.async false
set_option linter.all false
set_option maxRecDepth 100000
set_option maxHeartbeats 4000000
namespace My
open PySem PySem.Spec PyProof.Rows L2

/-! ### things in tuples through and through -/
mutual
def deepD : PyData → PyData
  | .list ds => .tuple (deepDs ds)
  | .tuple ds => .tuple (deepDs ds)
  | .dict e => .dict e
  | .none => .none
  | .bool b => .bool b
  | .int i => .int i
  | .str s => .str s
def deepDs : List PyData → List PyData
  | [] => []
  | d :: ds => deepD d :: deepDs ds
end
theorem deepDs_map : ∀ ds : List PyData, deepDs ds = ds.map deepD
  | [] => by rw [deepDs]; rfl
  | d :: ds => by rw [deepDs, deepDs_map ds]; rfl
mutual
theorem deep_noL : ∀ d : PyData, noL (deepD d) = true
  | .list ds => by rw [deepD, noL]; exact deeps_noL ds
  | .tuple ds => by rw [deepD, noL]; exact deeps_noL ds
  | .dict _ => by rw [deepD, noL]
  | .none => by rw [deepD, noL]
  | .bool _ => by rw [deepD, noL]
  | .int _ => by rw [deepD, noL]
  | .str _ => by rw [deepD, noL]
theorem deeps_noL : ∀ ds : List PyData, noLs (deepDs ds) = true
  | [] => by rw [deepDs, noLs]
  | d :: ds => by rw [deepDs, noLs, deep_noL d, deeps_noL ds]; rfl
end
theorem deep_seq {d : PyData} {ds : List PyData} (h : seqOf d = some ds) : deepD d = .tuple (ds.map deepD) := by
  cases d with
  | list es =>
    cases Option.some.inj h
    rw [deepD, deepDs_map]
  | tuple es =>
    cases Option.some.inj h
    rw [deepD, deepDs_map]
  | _ => cases h
theorem deep_flat {d : PyData} (h : seqOf d = none) : deepD d = d := by
  cases d with
  | list es => cases h
  | tuple es => cases h
  | _ => rw [deepD]
theorem dep_seq {d : PyData} {ds : List PyData} {n : Nat} (h : seqOf d = some ds) (hn : dep d ≤ n + 1) : ∀ e ∈ ds, dep e ≤ n := fun e m => by
  have z := depAll_mem m
  cases d with
  | list es =>
    cases Option.some.inj h
    rw [dep] at hn
    omega
  | tuple es =>
    cases Option.some.inj h
    rw [dep] at hn
    omega
  | _ => cases h
def spDeep (K : PySem.W.Frag) (n : Nat) : Sp := fun vs H Q _ => ∃ (x : V) (d : PyData), vs = [x] ∧ Dq H x d ∧ fewD d = true ∧ dep d ≤ n ∧ ∀ (v : V) (H' : Hp), Same H H' → Dq H' v (deepD d) → Q v H'
section
variable {P : Program} {w : World} {K : PySem.W.Frag} {mg : Str → Option Value} {base : Heap}
theorem sc__law_deep : FnScope ["_law_thing", "_law_item"] ["_law_thing"] (defScope (topS 53)) := ⟨rfl, rfl, rfl, by decide +kernel, rfl, by decide +kernel, by decide +kernel⟩
theorem ok__law_deep {f : Addr} {fd : FuncData} (F : Fun K "_law_deep" "_law_deep" (topS 53) f fd) (mf : mg "_law_deep" = some (.ref f)) (b : Binds K fd ["_law_thing"] []) (cS : Cal P w K mg base 1 "_law_seq" (spLSeq K)) (m_tuple : mg "tuple" = none) : ∀ n : Nat, FnOk P w K mg base CX0 (n + 2) f fd ["_law_thing"] (spDeep K n) := by
  intro n
  induction n with
  | zero =>
    refine F.ok sc__law_deep (fun vs H Q E h => ?_) (fun cdv A outer s0 H vs Q E hr h => ?_)
    · obtain ⟨x, d, rfl, _⟩ := h
      rfl
    · obtain ⟨x, d, rfl, hd, few, hn, k⟩ := h
      refine ⟨_, (pss_cons (ps_if (pt_val (pe_c cS hr (by omega) rfl (pa_cons (pv 0) pa_nil))) pss_never pss_nil)
      (pss_one (ps_ret (pv 0)))), ?_⟩
      refine ⟨_, rfl, x, d, rfl, hd, _, rfl, ?_⟩
      cases e : seqOf d with
      | some ds =>
        exfalso
        cases d with
        | list es => rw [dep] at hn; omega
        | tuple es => rw [dep] at hn; omega
        | _ => cases e
      | none =>
        refine iteF ⟨_, rfl, k x H (Same.refl _) ?_⟩
        rw [deep_flat e]
        exact hd
  | succ n ih =>
    have cI : Cal P w K mg base (n + 2) "_law_deep" (spDeep K n) := ⟨⟨f, fd, _, ih, mf, F.kp, b⟩⟩
    refine F.ok sc__law_deep (fun vs H Q E h => ?_) (fun cdv A outer s0 H vs Q E hr h => ?_)
    · obtain ⟨x, d, rfl, _⟩ := h
      rfl
    · obtain ⟨x, d, rfl, hd, few, hn, k⟩ := h
      refine ⟨_, (pss_cons (ps_if (pt_val (pe_c cS hr (by omega) rfl (pa_cons (pv 0) pa_nil))) (pss_one (ps_ret (pe_callTy call_tuple_of (by rfl) m_tuple (by decide +kernel) (pa_cons (pe_lc (own := [("_law_item", 1)]) (g := gName 1) (tt := tYes) rfl sc__law_deep.nd (pi_seq (pv 0)) (blkOk_by (N := ["_law_thing", "_law_item"]) (sc := defScope (topS 53)) (by decide +kernel)) (fun _ _ _ _ _ => pg_name (i := 1) sc__law_deep.nd rfl (Or.inl rfl)) (fun _ _ _ _ _ => pts_nil) (fun _ _ _ _ _ => (pe_c cI hr (by omega) rfl (pa_cons (pv 1) pa_nil)))) pa_nil)))) pss_nil)
      (pss_one (ps_ret (pv 0)))), ?_⟩
      refine ⟨_, rfl, x, d, rfl, hd, _, rfl, ?_⟩
      cases e : seqOf d with
      | some ds =>
        refine iteT ?_
        obtain ⟨a, xs, rfl, ha, hall⟩ := hd.seq e
        obtain ⟨few1, few2⟩ := few_items few
        rw [itemsD_some e] at few1 few2
        dsimp only [tRet, tCB, tCons, tNil]
        refine lcQd (K := K) deepD (fun R h => ⟨_, rfl, h⟩) (sqv_of ha) hall few1 (fun t _ => deep_noL t) (fun y t H2 R N m s2 hy go => ?_) (fun D ys H2 s2 nD hD hys => ?_)
        · exact ⟨rfl, iteT ⟨_, rfl, y, t, rfl, hy, few2 t m, dep_seq e hn t m, fun v H3 s3 h3 => go v H3 s3 h3⟩⟩
        · refine ⟨D, ys, rfl, .inl ⟨SqL.of hD, fun l nl => ?_⟩⟩
          have sl := same_upd (o := HO.tup ys) nl
          refine k _ _ (s2.trans sl) ?_
          rw [deep_seq e]
          exact .tup upd_same (hys.keep sl)
      | none =>
        refine iteF ⟨_, rfl, k x H (Same.refl _) ?_⟩
        rw [deep_flat e]
        exact hd
end
end My
set_option Elab.async false
set_option linter.all false
set_option maxRecDepth 100000
set_option maxHeartbeats 4000000
namespace My
open PySem PySem.Spec PyProof.Rows L2

def spWord (K : PySem.W.Frag) : Sp := fun vs H Q _ => ∃ (x y : V) (ws : List Int) (d : PyData), vs = [x, y, .str "atom", .str "term"] ∧ IntsAt H x ws ∧ Dq H y d ∧ ∀ H', Same H H' → Q (optS (wordD "atom" "term" termD ws d)) H'
theorem ints_seq {K : PySem.W.Frag} {H : Hp} {x : V} {ws : List Int} (h : IntsAt H x ws) : ∃ a, x = .ref a ∧ SqV K H a (ws.map V.int) := by
  obtain ⟨a, e, h⟩ := h
  exact ⟨a, e, sqv_of h⟩
section
variable {P : Program} {w : World} {K : PySem.W.Frag} {mg : Str → Option Value} {base : Heap}
theorem sc__law_word : FnScope ["_law_widths", "_law_thing", "_law_first_here", "_law_last", "_law_part"] ["_law_widths", "_law_thing", "_law_first_here", "_law_last"] (defScope (topS 59)) := ⟨rfl, rfl, rfl, by decide +kernel, rfl, by decide +kernel, by decide +kernel⟩
theorem ok__law_word {f : Addr} {fd : FuncData} (F : L2.Fun K "_law_word" "_law_word" (topS 59) f fd) (cS : Cal P w K mg base 1 "_law_seq" (spLSeq K)) (cI : Cal P w K mg base 1 "_law_int" (spLInt K)) (cV : Cal P w K mg base 2 "_law_is_value" (spLVal K)) (cN : Cal P w K mg base 1 "_law_is_name" (spLName K)) (m_len : mg "len" = none) : FnOk P w K mg base CX0 3 f fd ["_law_widths", "_law_thing", "_law_first_here", "_law_last"] (spWord K) := by
  refine F.ok sc__law_word (fun vs H Q E h => ?_) (fun cdv A outer s0 H vs Q E hr h => ?_)
  · obtain ⟨x, y, ws, d, rfl, _⟩ := h
    rfl
  · obtain ⟨x, y, ws, d, rfl, hx, hd, q⟩ := h
    refine ⟨_, (pss_cons (ps_if (PW.pt (pw_or (pt_not (pt_val (pe_c cS hr (by decide) rfl (pa_cons (pv 1) pa_nil)))) (pw_or (pt_cmpR op_ne (pe_callB call_len_seq (by rfl) m_len PySem.boot_len (pa_cons (pv 1) pa_nil)) pe_int (nomark _)) (pw_or (pt_not (pt_val (pe_c cI hr (by decide) rfl (pa_cons (pe_ix ix_seq (pv 1) pe_int (fun _ _ => rfl)) pa_nil)))) (pw_or1 (pt_not (pt_val (pe_c cS hr (by decide) rfl (pa_cons (pe_ix ix_seq (pv 1) pe_int (fun _ _ => rfl)) pa_nil))))))))) (pss_one (ps_ret (pv 2))) pss_nil)
      (pss_cons (ps_if (PW.pt (pw_or (pt_cmpR op_lt (pe_ix ix_seq (pv 1) pe_int (fun _ _ => rfl)) pe_int (nomark _)) (pw_or1 (pt_cmpR op_ge (pe_ix ix_seq (pv 1) pe_int (fun _ _ => rfl)) (pe_callB call_len_seq (by rfl) m_len PySem.boot_len (pa_cons (pv 0) pa_nil)) (nomark _))))) (pss_one (ps_ret pe_str)) pss_nil)
      (pss_cons (ps_if (pt_cmpR op_ne (pe_callB call_len_seq (by rfl) m_len PySem.boot_len (pa_cons (pe_ix ix_seq (pv 1) pe_int (fun _ _ => rfl)) pa_nil)) (pe_ix ix_seq (pv 0) (pe_ix ix_seq (pv 1) pe_int (fun _ _ => rfl)) (fun _ _ => rfl)) (nomark _)) (pss_one (ps_ret pe_str)) pss_nil)
      (pss_cons (ps_for PassesOwn.never rfl (pi_seq (pe_ix ix_seq (pv 1) pe_int (fun _ _ => rfl))) (pg_name (i := 4) sc__law_word.nd rfl (.inl rfl)) (pss_one (ps_if (PW.pt (pw_and (pt_not (pt_val (pe_c cV hr (by decide) rfl (pa_cons (pv 4) pa_nil)))) (pw_and1 (pt_not (PW.pt (pw_and (pt_cmpR op_eq (pv 3) pe_str (nomark _)) (pw_and1 (pt_val (pe_c cN hr (by decide) rfl (pa_cons (pv 4) pa_nil)))))))))) (pss_one (ps_ret (pv 3))) pss_nil)))
      (pss_one (ps_ret pe_non)))))), ?_⟩
    obtain ⟨wa, rfl, hws⟩ := ints_seq (K := K) hx
    have row : (lenIn 2 2 d && (intD (itemD d 0) && (seqOf (itemD d 1)).isSome)) = false → wordD "atom" "term" termD ws d = some ("atom" : Str) := fun z => by
      unfold wordD placeD
      rw [z]
      rfl
    refine ⟨_, rfl, y, d, rfl, hd, _, rfl, ?_⟩
    cases e : seqOf d with
    | none =>
      have hc : lenIn 2 2 d = false := by unfold lenIn; rw [e]
      rw [row (by rw [hc]; rfl)] at q
      exact iteT (iteT ⟨_, rfl, q H (Same.refl _)⟩)
    | some ds =>
      refine iteF ?_
      obtain ⟨a, xs, rfl, hs, hall⟩ := hd.seq e
      have lx := hall.len
      refine ⟨_, rfl, a, _, rfl, hs.imp SqL.of SqT.of, rfl, _, rfl, ?_⟩
      by_cases two : xs.length = 2
      · refine iteNS (by rw [two]; rfl) ?_
        have l2 : ds.length = 2 := by omega
        have hc : lenIn 2 2 d = true := by
          unfold lenIn
          rw [e]
          show (decide ((2 : Int) ≤ (ds.length : Int)) && decide ((ds.length : Int) ≤ 2)) = true
          rw [l2]
          rfl
        rw [hc, Bool.true_and] at row
        obtain ⟨a', xs', t, ea, hs', hl', et, ht⟩ := hd.item (i := 0) e (by omega)
        cases ea
        obtain ⟨a', xs2, r, ea, hs2, hl2, er, hr2⟩ := hd.item (i := 1) e (by omega)
        cases ea
        refine ⟨_, rfl, rd_ix (sqv_of hs') et ⟨t, _, rfl, ht, _, rfl, ?_⟩⟩
        cases hi : intD (itemD d 0) with
        | false =>
          rw [hi] at row
          rw [row rfl] at q
          exact iteT (iteT ⟨_, rfl, q H (Same.refl _)⟩)
        | true =>
          rw [hi, Bool.true_and] at row
          refine iteF ⟨_, rfl, rd_ix (sqv_of hs2) er ⟨r, _, rfl, hr2, _, rfl, ?_⟩⟩
          cases eq : seqOf (itemD d 1) with
          | none =>
            rw [eq] at row
            rw [row rfl] at q
            exact iteT ⟨_, rfl, q H (Same.refl _)⟩
          | some rs =>
            refine iteF ?_
            obtain ⟨i, ei⟩ : ∃ i : Int, itemD d 0 = .int i := by
              cases ed : itemD d 0 with
              | int i => exact ⟨i, rfl⟩
              | _ => rw [ed] at hi; cases hi
            rw [ei] at ht
            cases ht
            have place : placeD ws d = if !wholeD 0 ((ws.length : Int) - 1) (itemD d 0) then some ("table" : Str) else if ((itemsD (itemD d 1)).length : Int) ≠ ws.getD (tabD (itemD d 0)).toNat 0 then some ("width" : Str) else none := by
              unfold placeD
              rw [hc, hi, eq]
              rfl
            have hw : wholeD 0 ((ws.length : Int) - 1) (itemD d 0) = (decide (0 ≤ i) && decide (i ≤ (ws.length : Int) - 1)) := by rw [ei]; rfl
            have tab : ¬ (0 ≤ i ∧ i < ws.length) → wordD "atom" "term" termD ws d = some ("table" : Str) := fun z => by
              have z2 : wholeD 0 ((ws.length : Int) - 1) (itemD d 0) = false := by
                rw [hw, Bool.and_eq_false_iff]
                by_cases z0 : 0 ≤ i
                · exact .inr (decide_eq_false fun z1 => z ⟨z0, by omega⟩)
                · exact .inl (decide_eq_false z0)
              unfold wordD
              rw [place, z2]
              rfl
            have lw : (ws.map V.int).length = ws.length := List.length_map ..
            refine ⟨_, rfl, rd_ix (sqv_of hs') et ⟨_, _, rfl, rfl, _, rfl, ite2 (fun z => ?_) (fun z => ?_)⟩⟩
            · rw [tab (fun y => by have z := of_decide_eq_true z; omega)] at q
              exact iteT (q H (Same.refl _))
            refine ⟨_, rfl, rd_ix (sqv_of hs') et ⟨_, rfl, wa, _, rfl, hws, _, _, rfl, rfl, _, rfl, ?_⟩⟩
            rw [lw]
            refine ite2 (fun z1 => ?_) (fun z1 => ?_)
            · rw [tab (fun y => by have z1 := of_decide_eq_true z1; omega)] at q
              exact q H (Same.refl _)
            have i0 : 0 ≤ i := by
              by_cases y : 0 ≤ i
              · exact y
              · exact absurd (decide_eq_true (show i < 0 by omega)) z
            have i1 : i < ws.length := by
              by_cases y : i < ws.length
              · exact y
              · exact absurd (decide_eq_true (show (ws.length : Int) ≤ i by omega)) z1
            have wt : wholeD 0 ((ws.length : Int) - 1) (itemD d 0) = true := by
              rw [hw, decide_eq_true i0, decide_eq_true (show i ≤ (ws.length : Int) - 1 by omega)]
              rfl
            rw [wt, itemsD_some eq, ei] at place
            obtain ⟨b, ys, rfl, hb, hbl⟩ := hr2.seq eq
            have lb := hbl.len
            have ew : atI (ws.map V.int) i = some (.int (ws.getD i.toNat 0)) := by
              have e1 : ws[i.toNat]? = some (ws.getD i.toNat 0) := by
                rw [List.getD_eq_getElem?_getD, List.getElem?_eq_getElem (by omega)]
                rfl
              have e2 : (ws.map V.int)[i.toNat]? = some (.int (ws.getD i.toNat 0)) := by
                rw [List.getElem?_map, e1]
                rfl
              have e3 := atI_nat e2
              rw [Int.toNat_of_nonneg i0] at e3
              exact e3
            refine ⟨_, rfl, rd_ix (sqv_of hs2) er ⟨b, _, rfl, hb.imp SqL.of SqT.of, _, rfl, _, rfl, rd_ix (sqv_of hs') et (rd_ix hws ew ⟨rfl, _, rfl, ?_⟩)⟩⟩
            by_cases same : (ys.length : Int) = ws.getD i.toNat 0
            · refine iteNS (by rw [same]) ?_
              have pn : placeD ws d = none := by
                rw [place, if_neg (by decide), if_neg (show ¬ ((rs.length : Int) ≠ ws.getD (tabD (.int i)).toNat 0) from fun z => z (by rw [← lb]; exact same))]
              have wd : wordD "atom" "term" termD ws d = if rs.all termD then none else some ("term" : Str) := by
                unfold wordD
                rw [pn]
                dsimp only
                rw [itemsD_some eq]
              rw [wd] at q
              refine forSeq (K := K) (a := b) (xs := ys) (H0 := H) (fun R h => ⟨_, rfl, rd_ix (sqv_of hs2) er h⟩) (hb.imp SqL.of SqT.of) (Same.refl _) (fun i σ H' => (∃ x4, σ = [some (.ref wa), some (.ref a), some (.str "atom"), some (.str "term"), x4]) ∧ Same H H' ∧ (rs.take i).all termD = true) ⟨⟨_, rfl⟩, Same.refl _, rfl⟩ (fun i σ H' hi hp => hp.2.1) (fun i x σ H' ex hp => ?_) (fun σ H' hp => ?_)
              · obtain ⟨⟨x4, rfl⟩, s1, ok⟩ := hp
                obtain ⟨t, et, hxt⟩ := hbl.get ex
                have tk : (rs.take (i + 1)).all termD = termD t := by
                  rw [List.take_add_one, et, List.all_append, ok]
                  simp
                have mt := List.mem_of_getElem? et
                refine ⟨_, rfl, x, t, rfl, hxt.keep s1, _, rfl, ?_⟩
                cases hv : valueD t with
                | true =>
                  refine iteF (iteF ⟨⟨_, rfl⟩, s1, ?_⟩)
                  rw [tk]
                  unfold termD
                  rw [hv, Bool.or_true]
                | false =>
                  refine iteT ⟨_, rfl, rfl, _, rfl, iteT ⟨_, rfl, x, t, rfl, hxt.keep s1, fun H2 s2 => ⟨_, rfl, ?_⟩⟩⟩
                  cases hn : nameD t with
                  | true =>
                    refine iteF ⟨⟨_, rfl⟩, s1.trans s2, ?_⟩
                    rw [tk]
                    unfold termD
                    rw [hn, Bool.true_or]
                  | false =>
                    refine iteT ⟨_, rfl, ?_⟩
                    have bad : rs.all termD = false := by
                      cases z : rs.all termD with
                      | false => rfl
                      | true =>
                        have y := List.all_eq_true.mp z t mt
                        unfold termD at y
                        rw [hv, hn] at y
                        cases y
                    rw [bad] at q
                    exact q H2 (s1.trans s2)
              · obtain ⟨⟨x4, rfl⟩, s1, ok⟩ := hp
                rw [lb, List.take_length] at ok
                rw [ok] at q
                exact q H' s1
            · have ne : (!decide (V.int ((ys.length : Nat) : Int) = V.int (ws.getD i.toNat 0))) = true := by
                rw [decide_eq_false fun z => same (V.int.inj z)]
                rfl
              have wd : wordD "atom" "term" termD ws d = some ("width" : Str) := by
                unfold wordD
                rw [place, if_neg (by decide), if_pos (show ((rs.length : Int) ≠ ws.getD (tabD (.int i)).toNat 0) from fun z => same (by rw [lb]; exact z))]
                rfl
              rw [ne]
              rw [wd] at q
              exact iteT (q H (Same.refl _))
      · have hc : lenIn 2 2 d = false := by
          unfold lenIn
          rw [e]
          show (decide ((2 : Int) ≤ (ds.length : Int)) && decide ((ds.length : Int) ≤ 2)) = false
          rw [Bool.and_eq_false_iff]
          by_cases z0 : (2 : Int) ≤ (ds.length : Int)
          · exact .inr (decide_eq_false fun z1 => two (by omega))
          · exact .inl (decide_eq_false z0)
        rw [row (by rw [hc]; rfl)] at q
        have ne : (!decide (V.int ((xs.length : Nat) : Int) = V.int 2)) = true := by
          rw [decide_eq_false fun z => two (by have y := V.int.inj z; omega)]
          rfl
        rw [ne]
        exact iteT (iteT ⟨_, rfl, q H (Same.refl _)⟩)
end
end My
set_option Elab.async false
set_option linter.all false
set_option maxRecDepth 100000
set_option maxHeartbeats 4000000
namespace My
open PySem PySem.Spec PyProof.Rows L2

/-- for i in range(len(xs)): data told wrong by f let out -/
theorem forAt {β : Type} {ta : TA} {g : TG} {tb : TS} {D : Ends} {σ : L2.St} {H : Hp} (f : PyData → Option β) (ds : List PyData) (S : L2.St → Prop) (h0 : S σ) (few : ds.length ≤ 1000)
    (hv : ∀ R : List V → Hp → Prop, R [.int (ds.length : Nat)] H → ta σ H R)
    (hl : ∀ (i : Nat) (d : PyData) (σ : L2.St) (H' : Hp) (N : L2.St → Hp → Prop), S σ → Same H H' → ds[i]? = some d → (f d = none → ∀ σ' H2, S σ' → Same H' H2 → N σ' H2) → (∀ w, f d = some w → firstW f 0 ds = some (w, i)) →
      g (.int (i : Nat)) σ H' fun σ2 H2 => tb { D with nx := N, ct := N, bk := D.nx } σ2 H2)
    (he : firstW f 0 ds = none → ∀ σ H', S σ → Same H H' → D.nx σ H') : tFor (iRng1 ta) g tb D σ H := by
  refine hv _ ⟨(ds.length : Nat), rfl, by omega, by omega, ?_⟩
  rw [Int.toNat_natCast]
  refine for_range (lo := 0) (n := ds.length) (fun i σ H' => Same H H' ∧ S σ ∧ firstW f 0 ds = firstW f i (ds.drop i)) ⟨Same.refl _, h0, rfl⟩ ?_ ?_
  · rintro i σ H' li ⟨s, hS, e⟩
    have e0 : (0 : Int) + (i : Int) = ((i : Nat) : Int) := Int.zero_add _
    rw [e0]
    rw [firstW_drop li] at e
    refine hl i ds[i] σ H' _ hS s (List.getElem?_eq_getElem li) (fun z σ' H2 h2 s2 => ⟨s.trans s2, h2, ?_⟩) (fun w z => ?_)
    · rw [z] at e
      exact e
    · rw [z] at e
      exact e
  · rintro σ H' ⟨s, hS, e⟩
    rw [List.drop_length] at e
    exact he e σ H' hS s
def spBnd (K : PySem.W.Frag) : Sp := fun vs H Q _ => ∃ (x : V) (d : PyData) (n : Addr) (ls : List Str), vs = [x, .ref n] ∧ Dq H x d ∧ SqL K H n (ls.map V.str) ∧ ∀ H', Same H H' → Q (.bl (toldD ls d)) H'
/-- what is due for a question -/
def dueD (ws : List Int) (d : PyData) : PyData := match qErr ws d with
  | some (w, i) => .list [.str w, .int i]
  | none => deepD d
def spQDue (K : PySem.W.Frag) : Sp := fun vs H Q _ => ∃ (x y : V) (ws : List Int) (d : PyData), vs = [x, y] ∧ IntsAt H x ws ∧ wRes ws = none ∧ Dq H y d ∧ fewD d = true ∧ dep d ≤ 8 ∧ ∀ (v : V) (H' : Hp), Same H H' → Dq H' v (dueD ws d) → Q v H'
theorem len_in {l g : Int} {d : PyData} {ds : List PyData} (e : seqOf d = some ds) : lenIn l g d = (decide (l ≤ (ds.length : Int)) && decide ((ds.length : Int) ≤ g)) := by
  unfold lenIn
  rw [e]
theorem len_no {l g : Int} {d : PyData} (e : seqOf d = none) : lenIn l g d = false := by
  unfold lenIn
  rw [e]
theorem term_v {t : PyData} (h : termD t = true) : flatV (vOf t) = true ∧ (strV (vOf t) = true → nameV (vOf t) = true) := by
  cases t with
  | int i => exact ⟨rfl, fun z => nomatch z⟩
  | str s =>
    refine ⟨rfl, fun _ => ?_⟩
    unfold termD at h
    have e : valueD (.str s) = false := rfl
    rw [e, Bool.or_false] at h
    exact h
  | _ => exact ⟨rfl, fun z => nomatch z⟩
/-- a body that was let, as it stands -/
theorem body_q {K : PySem.W.Frag} {H : Hp} {ws : List Int} {d : PyData} {bs : List V} (h : bodyR ws d = none) (hw : wRes ws = none) (hx : DqAll H bs (itemsD d)) : Paired (AtomQ K H) bs ((bodyV d).map (·.2)) ∧ Terms ((bodyV d).map (·.2)).flatten := by
  obtain ⟨n1, n8, ok⟩ := body_ok h
  constructor
  · have go : ∀ (ds : List PyData) (vs : List V), (∀ a ∈ ds, a ∈ itemsD d) → DqAll H vs ds → Paired (AtomQ K H) vs ((ds.map fun a => (tabD (itemD a 0), (itemsD (itemD a 1)).map vOf)).map (·.2)) := by
      intro ds
      induction ds with
      | nil => intro vs _ hv; cases hv; exact .nil
      | cons a r ih =>
        intro vs mem hv
        cases hv with
        | cons h1 h2 =>
        rw [List.map_cons, List.map_cons]
        refine .cons ?_ (ih _ (fun y m => mem y (List.mem_cons_of_mem _ m)) h2)
        obtain ⟨t, r, rs, k, es, e0, e1, er, eu, _, _, _, terms⟩ := ok a (mem a (List.mem_cons_self ..))
        obtain ⟨p, xs, rfl, hp, hall⟩ := h1.seq es
        match xs, hall with
        | [y0, y1], .cons g0 (.cons g1 .nil) =>
        obtain ⟨q, ys, rfl, hq, hys⟩ := g1.seq er
        refine ⟨p, y0, q, rfl, sqv_of hp, ?_⟩
        show SqV K H q ((itemsD (itemD a 1)).map vOf)
        rw [e1, itemsD_some er, ← vOf_all hys terms]
        exact sqv_of hq
    exact go (itemsD d) bs (fun _ m => m) hx
  · constructor
    · have z : ∀ l ∈ (bodyV d).map (·.2), l.length ≤ 3 := fun l m => by
        obtain ⟨a, ma, rfl⟩ := List.mem_map.mp m
        obtain ⟨b, mb, rfl⟩ := List.mem_map.mp ma
        obtain ⟨t, r, rs, k, es, e0, e1, er, eu, k0, k1, kl, terms⟩ := ok b mb
        show ((itemsD (itemD b 1)).map vOf).length ≤ 3
        rw [List.length_map, e1, itemsD_some er]
        have y := ws_three hw (i := k.toNat) (by omega)
        omega
      have y := flat_len z
      have l : ((bodyV d).map (·.2)).length = (itemsD d).length := by
        unfold bodyV
        rw [List.length_map, List.length_map]
      omega
    · intro x m
      obtain ⟨l, ml, mx⟩ := List.mem_flatten.mp m
      obtain ⟨a, ma, rfl⟩ := List.mem_map.mp ml
      obtain ⟨b, mb, rfl⟩ := List.mem_map.mp ma
      obtain ⟨t, r, rs, k, es, e0, e1, er, eu, k0, k1, kl, terms⟩ := ok b mb
      obtain ⟨y, my, rfl⟩ := List.mem_map.mp (show x ∈ (itemsD (itemD b 1)).map vOf from mx)
      rw [e1, itemsD_some er] at my
      exact term_v (terms y my)
section
variable {P : Program} {w : World} {K : PySem.W.Frag} {mg : Str → Option Value} {base : Heap}
theorem sc__law_is_bound : FnScope ["_law_term", "_law_names_here"] ["_law_term", "_law_names_here"] (defScope (topS 62)) := ⟨rfl, rfl, rfl, by decide +kernel, rfl, by decide +kernel, by decide +kernel⟩
theorem ok__law_is_bound {f : Addr} {fd : FuncData} (F : L2.Fun K "_law_is_bound" "_law_is_bound" (topS 62) f fd) (cV : Cal P w K mg base 2 "_law_is_value" (spLVal K)) (cN : Cal P w K mg base 1 "_law_is_name" (spLName K)) : FnOk P w K mg base CX0 3 f fd ["_law_term", "_law_names_here"] (spBnd K) := by
  refine F.ok sc__law_is_bound (fun vs H Q E h => ?_) (fun cdv A outer s0 H vs Q E hr h => ?_)
  · obtain ⟨x, d, n, ls, rfl, _⟩ := h
    rfl
  · obtain ⟨x, d, n, ls, rfl, hd, hn, q⟩ := h
    refine ⟨_, (pss_one (ps_ret (pe_or (pe_c cV hr (by decide) rfl (pa_cons (pv 0) pa_nil)) (pe_one (pe_and (pe_c cN hr (by decide) rfl (pa_cons (pv 0) pa_nil)) (pe_one (pe_cmpR op_in_seq (pv 0) (pv 1) (by rfl)))))))), ?_⟩
    unfold toldD at q
    refine ⟨_, rfl, x, d, rfl, hd, _, rfl, ?_⟩
    cases hv : valueD d with
    | true =>
      rw [hv] at q
      exact iteT (q H (Same.refl _))
    | false =>
      rw [hv, Bool.false_or] at q
      refine iteF ⟨_, rfl, x, d, rfl, hd, fun H1 s1 => ⟨_, rfl, ?_⟩⟩
      cases hm : nameD d with
      | false =>
        rw [hm] at q
        exact iteF (q H1 s1)
      | true =>
        rw [hm, Bool.true_and] at q
        cases hd with
        | str s =>
          refine iteT ⟨_, rfl, _, rfl, n, _, rfl, .inl (s1.seq hn), rfl, strs_flat ls, ?_⟩
          rw [if_neg (fun z => nomatch z), in_strs]
          exact q H1 s1
        | _ => cases hm
theorem sc__law_question_due : FnScope ["_law_widths", "_law_thing", "_law_at", "_law_names_here", "_law_word_here", "_law_pair"] ["_law_widths", "_law_thing"] (defScope (topS 63)) := ⟨rfl, rfl, rfl, by decide +kernel, rfl, by decide +kernel, by decide +kernel⟩
theorem ok__law_question_due {f : Addr} {fd : FuncData} (F : L2.Fun K "_law_question_due" "_law_question_due" (topS 63) f fd) (cS : Cal P w K mg base 1 "_law_seq" (spLSeq K)) (cW : Cal P w K mg base 3 "_law_word" (spWord K)) (cF : Cal P w K mg base 1 "_law_first" (spFirst K)) (cB : Cal P w K mg base 3 "_law_is_bound" (spBnd K)) (cD : Cal P w K mg base 10 "_law_deep" (spDeep K 8)) (m_len : mg "len" = none) (m_range : mg "range" = none) : FnOk P w K mg base CX0 11 f fd ["_law_widths", "_law_thing"] (spQDue K) := by
  refine F.ok sc__law_question_due (fun vs H Q E h => ?_) (fun cdv A outer s0 H vs Q E hr h => ?_)
  · obtain ⟨x, y, ws, d, rfl, _⟩ := h
    rfl
  · obtain ⟨x, y, ws, d, rfl, hx, hw, hd, few, dp, q⟩ := h
    refine ⟨_, (pss_cons (ps_if (PW.pt (pw_or (pt_not (pt_val (pe_c cS hr (by decide) rfl (pa_cons (pv 1) pa_nil)))) (pw_or1 (pt_cmpR op_ne (pe_callB call_len_seq (by rfl) m_len PySem.boot_len (pa_cons (pv 1) pa_nil)) pe_int (nomark _))))) (pss_one (ps_ret (pe_lst (pa_cons pe_str (pa_cons pe_int pa_nil))))) pss_nil)
      (pss_cons (ps_if (PW.pt (pw_or (pt_not (pt_val (pe_c cS hr (by decide) rfl (pa_cons (pe_ix ix_seq (pv 1) pe_int (fun _ _ => rfl)) pa_nil)))) (pw_or (pt_cmpR op_lt (pe_callB call_len_seq (by rfl) m_len PySem.boot_len (pa_cons (pe_ix ix_seq (pv 1) pe_int (fun _ _ => rfl)) pa_nil)) pe_int (nomark _)) (pw_or1 (pt_cmpR op_gt (pe_callB call_len_seq (by rfl) m_len PySem.boot_len (pa_cons (pe_ix ix_seq (pv 1) pe_int (fun _ _ => rfl)) pa_nil)) pe_int (nomark _)))))) (pss_one (ps_ret (pe_lst (pa_cons pe_str (pa_cons pe_int pa_nil))))) pss_nil)
      (pss_cons (ps_for PassesOwn.never rfl (pi_range1 (by rfl) m_range (pa_cons (pe_callB call_len_seq (by rfl) m_len PySem.boot_len (pa_cons (pe_ix ix_seq (pv 1) pe_int (fun _ _ => rfl)) pa_nil)) pa_nil)) (pg_name (i := 2) sc__law_question_due.nd rfl (.inl rfl)) (pss_cons (ps_set (i := 4) sc__law_question_due.nd rfl (.inl rfl) (pe_c cW hr (by decide) rfl (pa_cons (pv 0) (pa_cons (pe_ix ix_seq (pe_ix ix_seq (pv 1) pe_int (fun _ _ => rfl)) (pv 2) (fun _ _ => rfl)) (pa_cons pe_str (pa_cons pe_str pa_nil)))))) (pss_one (ps_if (pt_cmpR op_notN (pv 4) pe_non (nomark _)) (pss_one (ps_ret (pe_lst (pa_cons (pv 4) (pa_cons (pv 2) pa_nil))))) pss_nil))))
      (pss_cons (ps_set (i := 3) sc__law_question_due.nd rfl (.inl rfl) (pe_c cF hr (by decide) rfl (pa_cons (pe_ix ix_seq (pv 1) pe_int (fun _ _ => rfl)) pa_nil)))
      (pss_cons (ps_if (PW.pt (pw_or (pt_not (pt_val (pe_c cS hr (by decide) rfl (pa_cons (pe_ix ix_seq (pv 1) pe_int (fun _ _ => rfl)) pa_nil)))) (pw_or1 (pt_cmpR op_gt (pe_callB call_len_seq (by rfl) m_len PySem.boot_len (pa_cons (pe_ix ix_seq (pv 1) pe_int (fun _ _ => rfl)) pa_nil)) pe_int (nomark _))))) (pss_one (ps_ret (pe_lst (pa_cons pe_str (pa_cons pe_int pa_nil))))) pss_nil)
      (pss_cons (ps_for PassesOwn.never rfl (pi_range1 (by rfl) m_range (pa_cons (pe_callB call_len_seq (by rfl) m_len PySem.boot_len (pa_cons (pe_ix ix_seq (pv 1) pe_int (fun _ _ => rfl)) pa_nil)) pa_nil)) (pg_name (i := 2) sc__law_question_due.nd rfl (.inl rfl)) (pss_one (ps_if (pt_not (pt_val (pe_c cB hr (by decide) rfl (pa_cons (pe_ix ix_seq (pe_ix ix_seq (pv 1) pe_int (fun _ _ => rfl)) (pv 2) (fun _ _ => rfl)) (pa_cons (pv 3) pa_nil))))) (pss_one (ps_ret (pe_lst (pa_cons pe_str (pa_cons (pv 2) pa_nil))))) pss_nil)))
      (pss_cons (ps_if (PW.pt (pw_or (pt_not (pt_val (pe_c cS hr (by decide) rfl (pa_cons (pe_ix ix_seq (pv 1) pe_int (fun _ _ => rfl)) pa_nil)))) (pw_or1 (pt_cmpR op_gt (pe_callB call_len_seq (by rfl) m_len PySem.boot_len (pa_cons (pe_ix ix_seq (pv 1) pe_int (fun _ _ => rfl)) pa_nil)) pe_int (nomark _))))) (pss_one (ps_ret (pe_lst (pa_cons pe_str (pa_cons pe_int pa_nil))))) pss_nil)
      (pss_cons (ps_for PassesOwn.never rfl (pi_range1 (by rfl) m_range (pa_cons (pe_callB call_len_seq (by rfl) m_len PySem.boot_len (pa_cons (pe_ix ix_seq (pv 1) pe_int (fun _ _ => rfl)) pa_nil)) pa_nil)) (pg_name (i := 2) sc__law_question_due.nd rfl (.inl rfl)) (pss_cons (ps_set (i := 5) sc__law_question_due.nd rfl (.inl rfl) (pe_ix ix_seq (pe_ix ix_seq (pv 1) pe_int (fun _ _ => rfl)) (pv 2) (fun _ _ => rfl))) (pss_one (ps_if (PW.pt (pw_or (pt_not (pt_val (pe_c cS hr (by decide) rfl (pa_cons (pv 5) pa_nil)))) (pw_or (pt_cmpR op_ne (pe_callB call_len_seq (by rfl) m_len PySem.boot_len (pa_cons (pv 5) pa_nil)) pe_int (nomark _)) (pw_or (pt_not (pt_val (pe_c cB hr (by decide) rfl (pa_cons (pe_ix ix_seq (pv 5) pe_int (fun _ _ => rfl)) (pa_cons (pv 3) pa_nil))))) (pw_or1 (pt_not (pt_val (pe_c cB hr (by decide) rfl (pa_cons (pe_ix ix_seq (pv 5) pe_int (fun _ _ => rfl)) (pa_cons (pv 3) pa_nil)))))))))) (pss_one (ps_ret (pe_lst (pa_cons pe_str (pa_cons (pv 2) pa_nil))))) pss_nil))))
      (pss_one (ps_ret (pe_c cD hr (by decide) rfl (pa_cons (pv 1) pa_nil)))))))))))), ?_⟩
    have err : ∀ (w : Str) (i : Int) (p : Addr) (H1 : Hp), Same H H1 → H1 p = none → qErr ws d = some (w, i) → Q (.ref p) (upd H1 p (.lst [.str w, .int i])) := fun w i p H1 s1 np e => by
      refine q _ _ (s1.trans (same_upd np)) ?_
      unfold dueD
      rw [e]
      exact .lst upd_same (.cons (.str w) (.cons (.int i) .nil))
    have lst2 : (2 : Nat) ≤ sizeLine := Nat.le_of_lt (small1000 (by omega))
    refine ⟨_, rfl, y, d, rfl, hd, _, rfl, ?_⟩
    cases e : seqOf d with
    | none =>
      exact iteT (iteT ⟨lst2, fun p np => err _ _ p H (Same.refl _) np (by unfold qErr; rw [len_no e]; rfl)⟩)
    | some ds =>
      refine iteF ?_
      obtain ⟨a, xs, rfl, hs, hall⟩ := hd.seq e
      have lx := hall.len
      refine ⟨_, rfl, a, _, rfl, hs.imp SqL.of SqT.of, rfl, _, rfl, ?_⟩
      by_cases three : xs.length = 3
      · refine iteNS (by rw [three]; rfl) ?_
        have ld : ds.length = 3 := by omega
        have l3 : lenIn 3 3 d = true := by
          rw [len_in e, ld]
          rfl
        have eQ : qErr ws d = (match bodyR ws (itemD d 1) with
            | some e => some e
            | none => match headR (namesD (itemD d 1)) (itemD d 0) with
              | some i => some ("head", i)
              | none => (pairsR (namesD (itemD d 1)) (itemD d 2)).map fun i => ("unlike", i)) := by
          unfold qErr
          rw [l3]
          rfl
        obtain ⟨a', xs1, y1, ea, hs1, _, e1, h1⟩ := hd.item (i := 1) e (by omega)
        cases ea
        obtain ⟨a', xs0, y0, ea, hs0, _, e0, h0⟩ := hd.item (i := 0) e (by omega)
        cases ea
        obtain ⟨a', xs2, y2, ea, hs2, _, e2, h2⟩ := hd.item (i := 2) e (by omega)
        cases ea
        refine ⟨_, rfl, rd_ix (sqv_of hs1) e1 ⟨y1, _, rfl, h1, _, rfl, ?_⟩⟩
        have few1 := few_items (few_item few 1)
        have few0 := few_items (few_item few 0)
        have few2 := few_items (few_item few 2)
        have errB : bodyR ws (itemD d 1) = some (("body" : Str), (0 : Int)) → qErr ws d = some (("body" : Str), (0 : Int)) := fun z => by rw [eQ, z]
        cases es1 : seqOf (itemD d 1) with
        | none => exact iteT (iteT ⟨lst2, fun p np => err _ _ p H (Same.refl _) np (errB (by unfold bodyR; rw [len_no es1]; rfl))⟩)
        | some bs =>
          refine iteF ?_
          obtain ⟨b, ys, rfl, hb, hbl⟩ := h1.seq es1
          have lb := hbl.len
          rw [itemsD_some es1] at few1
          have out : ¬ (1 ≤ bs.length ∧ bs.length ≤ 8) → qErr ws d = some (("body" : Str), (0 : Int)) := fun z => errB (by
            have y : lenIn 1 8 (itemD d 1) = false := by
              rw [len_in es1, Bool.and_eq_false_iff]
              by_cases z0 : (1 : Int) ≤ (bs.length : Int)
              · exact .inr (decide_eq_false fun z1 => z ⟨by omega, by omega⟩)
              · exact .inl (decide_eq_false z0)
            unfold bodyR
            rw [y]
            rfl)
          refine ⟨_, rfl, rd_ix (sqv_of hs1) e1 ⟨b, _, rfl, hb.imp SqL.of SqT.of, _, _, rfl, rfl, _, rfl, ite2 (fun z => ?_) (fun z => ?_)⟩⟩
          · exact iteT ⟨lst2, fun p np => err _ _ p H (Same.refl _) np (out fun y => by have z := of_decide_eq_true z; omega)⟩
          refine ⟨_, rfl, rd_ix (sqv_of hs1) e1 ⟨b, _, rfl, hb.imp SqL.of SqT.of, _, _, rfl, rfl, _, rfl, ite2 (fun z1 => ?_) (fun z1 => ?_)⟩⟩
          · exact ⟨lst2, fun p np => err _ _ p H (Same.refl _) np (out fun y => by have z1 := of_decide_eq_true z1; omega)⟩
          have n1 : ¬ (ys.length : Int) < 1 := fun y => z (decide_eq_true y)
          have n8 : ¬ (ys.length : Int) > 8 := fun y => z1 (decide_eq_true y)
          have lin : lenIn 1 8 (itemD d 1) = true := by
            rw [len_in es1, decide_eq_true (show (1 : Int) ≤ (bs.length : Int) by omega), decide_eq_true (show (bs.length : Int) ≤ 8 by omega)]
            rfl
          have eB : bodyR ws (itemD d 1) = (firstW (wordD "atom" "term" termD ws) 0 bs).map fun u => (u.1, (u.2 : Int)) := by
            unfold bodyR
            rw [lin, itemsD_some es1]
            rfl
          dsimp only [tNext, tSeq]
          refine forAt (wordD "atom" "term" termD ws) bs (fun σ => ∃ v2 v3 v4 v5, σ = [some x, some (.ref a), v2, v3, v4, v5]) ⟨_, _, _, _, rfl⟩ few1.1 (fun R h => ⟨_, rfl, rd_ix (sqv_of hs1) e1 ⟨b, _, rfl, hb.imp SqL.of SqT.of, by rw [lb]; exact h⟩⟩) ?_ ?_
          · rintro i t _ H' N ⟨v2, v3, v4, v5, rfl⟩ s et go stop
            obtain ⟨u, eu, hu⟩ := hbl.getD et
            refine ⟨_, rfl, _, rfl, rd_ix (sqV_keep (sqv_of hs1) s) e1 ⟨_, rfl, rd_ix (sqV_keep (sqv_of hb) s) (atI_nat eu) ⟨x, u, ws, t, rfl, hx.keep s, hu.keep s, fun H2 s2 => ?_⟩⟩⟩
            refine ⟨_, rfl, rfl, _, rfl, ?_⟩
            cases ew : wordD "atom" "term" termD ws t with
            | none =>
              exact iteF (go ew _ _ ⟨_, _, _, _, rfl⟩ s2)
            | some w =>
              refine iteT ⟨_, rfl, _, rfl, lst2, fun p np => err w i p H2 (s.trans s2) np ?_⟩
              rw [eQ, eB, stop w ew]
              rfl
          · rintro okB _ H1 ⟨v2, v3, v4, v5, rfl⟩ s1
            have bN : bodyR ws (itemD d 1) = none := by rw [eB, okB]; rfl
            rw [bN] at eQ
            dsimp only at eQ
            obtain ⟨pr, tm⟩ := body_q (K := K) bN hw (by rw [itemsD_some es1]; exact hbl.keep s1)
            refine ⟨_, rfl, rd_ix (sqV_keep (sqv_of hs1) s1) e1 ⟨b, ys, _, rfl, sqV_keep (sqv_of hb) s1, pr, tm, fun n H2 s2 nn hn => ?_⟩⟩
            have el : unlN ((bodyV (itemD d 1)).map (·.2)).flatten = namesD (itemD d 1) := rfl
            rw [el] at hn
            generalize namesD (itemD d 1) = ls at eQ hn
            have s12 := s1.trans s2
            have hn : SqL K H2 n (ls.map V.str) := SqL.of hn
            refine ⟨_, rfl, rd_ix (sqV_keep (sqv_of hs0) s12) e0 ⟨y0, _, rfl, h0.keep s12, _, rfl, ?_⟩⟩
            have errH : ∀ i : Int, headR ls (itemD d 0) = some i → qErr ws d = some (("head" : Str), i) := fun i z => by rw [eQ, z]
            cases es0 : seqOf (itemD d 0) with
            | none => exact iteT (iteT ⟨lst2, fun p np => err _ _ p H2 s12 np (errH 0 (by unfold headR; rw [len_no es0]; rfl))⟩)
            | some hd0 =>
              refine iteF ?_
              obtain ⟨c, zs, rfl, hc, hcl⟩ := h0.seq es0
              have lc := hcl.len
              rw [itemsD_some es0] at few0
              refine ⟨_, rfl, rd_ix (sqV_keep (sqv_of hs0) s12) e0 ⟨c, _, rfl, (sqV_keep (sqv_of hc) s12), _, _, rfl, rfl, _, rfl, ite2 (fun z => ?_) (fun z => ?_)⟩⟩
              · refine ⟨lst2, fun p np => err _ _ p H2 s12 np (errH 0 ?_)⟩
                unfold headR
                rw [len_in es0, decide_eq_false (show ¬ (hd0.length : Int) ≤ 3 by have z := of_decide_eq_true z; omega), Bool.and_false]
                rfl
              have n3 : ¬ (zs.length : Int) > 3 := fun y => z (decide_eq_true y)
              have eH : headR ls (itemD d 0) = placeI (firstW (headW ls) 0 hd0) := by
                unfold headR
                rw [len_in es0, decide_eq_true (show (0 : Int) ≤ (hd0.length : Int) by omega), decide_eq_true (show (hd0.length : Int) ≤ 3 by omega), itemsD_some es0]
                rfl
              dsimp only [tNext, tSeq]
              refine forAt (headW ls) hd0 (fun σ => ∃ v2 v4 v5, σ = [some x, some (.ref a), v2, some (.ref n), v4, v5]) ⟨_, _, _, rfl⟩ few0.1 (fun R h => ⟨_, rfl, rd_ix (sqV_keep (sqv_of hs0) s12) e0 ⟨c, _, rfl, (sqV_keep (sqv_of hc) s12), by rw [lc]; exact h⟩⟩) ?_ ?_
              · rintro i t _ H' N ⟨v2, v4, v5, rfl⟩ s et go stop
                have s3 := s12.trans s
                obtain ⟨u, eu, hu⟩ := hcl.getD et
                refine ⟨_, rfl, rd_ix (sqV_keep (sqv_of hs0) s3) e0 ⟨_, rfl, rd_ix (sqV_keep (sqv_of hc) s3) (atI_nat eu) ⟨_, rfl, u, t, n, ls, rfl, hu.keep s3, s.seq hn, fun H4 s4 => ⟨_, rfl, ?_⟩⟩⟩⟩
                cases ht : toldD ls t with
                | true => exact iteF (go (by unfold headW; rw [if_pos ht]) _ _ ⟨_, _, _, rfl⟩ s4)
                | false =>
                  refine iteT ⟨_, rfl, lst2, fun p np => err _ _ p H4 (s3.trans s4) np (errH i ?_)⟩
                  rw [eH, stop () (by unfold headW; rw [ht]; rfl)]
                  rfl
              · rintro okH _ H3 ⟨v2, v4, v5, rfl⟩ s
                have s3 := s12.trans s
                have hN : headR ls (itemD d 0) = none := by rw [eH, okH]; rfl
                rw [hN] at eQ
                dsimp only at eQ
                have hn := s.seq hn
                refine ⟨_, rfl, rd_ix (sqV_keep (sqv_of hs2) s3) e2 ⟨y2, _, rfl, h2.keep s3, _, rfl, ?_⟩⟩
                have errU : ∀ i : Int, pairsR ls (itemD d 2) = some i → qErr ws d = some (("unlike" : Str), i) := fun i z => by rw [eQ, z]; rfl
                cases es2 : seqOf (itemD d 2) with
                | none => exact iteT (iteT ⟨lst2, fun p np => err _ _ p H3 s3 np (errU 0 (by unfold pairsR; rw [len_no es2]; rfl))⟩)
                | some us =>
                  refine iteF ?_
                  obtain ⟨g, gs, rfl, hg, hgl⟩ := h2.seq es2
                  have lg := hgl.len
                  rw [itemsD_some es2] at few2
                  refine ⟨_, rfl, rd_ix (sqV_keep (sqv_of hs2) s3) e2 ⟨g, _, rfl, (sqV_keep (sqv_of hg) s3), _, _, rfl, rfl, _, rfl, ite2 (fun z => ?_) (fun z => ?_)⟩⟩
                  · refine ⟨lst2, fun p np => err _ _ p H3 s3 np (errU 0 ?_)⟩
                    unfold pairsR
                    rw [len_in es2, decide_eq_false (show ¬ (us.length : Int) ≤ 8 by have z := of_decide_eq_true z; omega), Bool.and_false]
                    rfl
                  have n8 : ¬ (gs.length : Int) > 8 := fun y => z (decide_eq_true y)
                  have eU : pairsR ls (itemD d 2) = placeI (firstW (pairW ls) 0 us) := by
                    unfold pairsR
                    rw [len_in es2, decide_eq_true (show (0 : Int) ≤ (us.length : Int) by omega), decide_eq_true (show (us.length : Int) ≤ 8 by omega), itemsD_some es2]
                    rfl
                  dsimp only [tNext, tSeq]
                  refine forAt (pairW ls) us (fun σ => ∃ v2 v4 v5, σ = [some x, some (.ref a), v2, some (.ref n), v4, v5]) ⟨_, _, _, rfl⟩ few2.1 (fun R h => ⟨_, rfl, rd_ix (sqV_keep (sqv_of hs2) s3) e2 ⟨g, _, rfl, (sqV_keep (sqv_of hg) s3), by rw [lg]; exact h⟩⟩) ?_ ?_
                  · rintro i t _ H' N ⟨v2, v4, v5, rfl⟩ s' et go stop
                    have s4 := s3.trans s'
                    obtain ⟨u, eu, hu⟩ := hgl.getD et
                    have bad : ∀ (H5 : Hp) (p : Addr), Same H H5 → H5 p = none → (lenIn 2 2 t && (itemsD t).all (toldD ls)) = false → Q (.ref p) (upd H5 p (.lst [.str "unlike", .int i])) := fun H5 p s5 np z => err _ _ p H5 s5 np (errU i (by
                      rw [eU, stop () (by unfold pairW; rw [z]; rfl)]
                      rfl))
                    refine ⟨_, rfl, rd_ix (sqV_keep (sqv_of hs2) s4) e2 ⟨_, rfl, rd_ix (sqV_keep (sqv_of hg) s4) (atI_nat eu) ?_⟩⟩
                    refine ⟨_, rfl, u, t, rfl, hu.keep s4, _, rfl, ?_⟩
                    cases ep : seqOf t with
                    | none => exact iteT (iteT ⟨_, rfl, lst2, fun p np => bad _ p s4 np (by rw [len_no ep]; rfl)⟩)
                    | some vs =>
                      refine iteF ?_
                      obtain ⟨m, ms, rfl, hm, hml⟩ := hu.seq ep
                      have lm := hml.len
                      refine ⟨_, rfl, m, _, rfl, (sqV_keep (sqv_of hm) s4), rfl, _, rfl, ?_⟩
                      by_cases two : ms.length = 2
                      · refine iteNS (by rw [two]; rfl) ?_
                        have l2 : lenIn 2 2 t = true := by
                          rw [len_in ep, decide_eq_true (show (2 : Int) ≤ (vs.length : Int) by omega), decide_eq_true (show (vs.length : Int) ≤ 2 by omega)]
                          rfl
                        rw [l2, Bool.true_and, itemsD_some ep] at bad
                        have good : vs.all (toldD ls) = true → pairW ls t = none := fun z => by
                          unfold pairW
                          rw [l2, Bool.true_and, itemsD_some ep, if_pos z]
                        match ms, vs, two, hml with
                        | [m0, m1], [t0, t1], _, .cons g0 (.cons g1 .nil) =>
                        have em : SqV K H m [m0, m1] := sqv_of hm
                        refine ⟨_, rfl, rd_ix (sqV_keep em s4) (atI_nat (j := 0) rfl) ⟨_, rfl, m0, t0, n, ls, rfl, g0.keep s4, s'.seq hn, fun H5 s5 => ⟨_, rfl, ?_⟩⟩⟩
                        have s45 := s4.trans s5
                        cases k0 : toldD ls t0 with
                        | false => exact iteT (iteT ⟨_, rfl, lst2, fun p np => bad _ p s45 np (by show (toldD ls t0 && (toldD ls t1 && true)) = false; rw [k0]; rfl)⟩)
                        | true =>
                          refine iteF ⟨_, rfl, rd_ix (sqV_keep em s45) (atI_nat (j := 1) rfl) ⟨_, rfl, m1, t1, n, ls, rfl, g1.keep s45, (s'.trans s5).seq hn, fun H6 s6 => ⟨_, rfl, ?_⟩⟩⟩
                          cases k1 : toldD ls t1 with
                          | false => exact iteT ⟨_, rfl, lst2, fun p np => bad _ p (s45.trans s6) np (by show (toldD ls t0 && (toldD ls t1 && true)) = false; rw [k0, k1]; rfl)⟩
                          | true => exact iteF (go (good (by show (toldD ls t0 && (toldD ls t1 && true)) = true; rw [k0, k1]; rfl)) _ _ ⟨_, _, _, rfl⟩ (s5.trans s6))
                      · have l2 : lenIn 2 2 t = false := by
                          rw [len_in ep, Bool.and_eq_false_iff]
                          by_cases z0 : (2 : Int) ≤ (vs.length : Int)
                          · exact .inr (decide_eq_false fun z1 => two (by omega))
                          · exact .inl (decide_eq_false z0)
                        have ne : (!decide (V.int ((ms.length : Nat) : Int) = V.int 2)) = true := by
                          rw [decide_eq_false fun z => two (by have y := V.int.inj z; omega)]
                          rfl
                        rw [ne]
                        exact iteT (iteT ⟨_, rfl, lst2, fun p np => bad _ p s4 np (by rw [l2]; rfl)⟩)
                  · rintro okU _ H4 ⟨v2, v4, v5, rfl⟩ s'
                    have uN : pairsR ls (itemD d 2) = none := by rw [eU, okU]; rfl
                    rw [uN] at eQ
                    refine ⟨_, rfl, _, d, rfl, hd.keep (s3.trans s'), few, dp, fun v H5 s5 h5 => q v H5 ((s3.trans s').trans s5) ?_⟩
                    unfold dueD
                    rw [eQ]
                    exact h5
      · have l3 : lenIn 3 3 d = false := by
          rw [len_in e, Bool.and_eq_false_iff]
          by_cases z0 : (3 : Int) ≤ (ds.length : Int)
          · exact .inr (decide_eq_false fun z1 => three (by omega))
          · exact .inl (decide_eq_false z0)
        have ne : (!decide (V.int ((xs.length : Nat) : Int) = V.int 3)) = true := by
          rw [decide_eq_false fun z => three (by have y := V.int.inj z; omega)]
          rfl
        rw [ne]
        exact iteT ⟨lst2, fun p np => err _ _ p H (Same.refl _) np (by unfold qErr; rw [l3]; rfl)⟩
end
end My
set_option Elab.async false
set_option linter.all false
set_option maxRecDepth 100000
set_option maxHeartbeats 4000000
namespace My
open PySem PySem.Spec PyProof.Rows L2
/-! ### try: several clauses, each with a name for what it caught -/
/-- the ends of a suite whose name is let go -/
def gone (i : Nat) (D : Ends) : Ends := { nx := fun σ H => D.nx (σ.set i none) H, rt := D.rt, bk := fun σ H => D.bk (σ.set i none) H, ct := fun σ H => D.ct (σ.set i none) H }
abbrev Cls3 := Value × Nat × (Addr → Value → Option Addr → TS)
def wAll (K : PySem.W.Frag) (Wout : WX) (D : Ends) : List Cls3 → WX
  | [] => Wout
  | (c, i, ts) :: r => fun cls d σ H => ∃ b, PySem.W.exmOne K cls c = some b ∧ (b = true → ∀ a, H a = none → ts a cls d (gone i D) (σ.set i (some (.ref a))) H) ∧ (b = false → wAll K Wout D r cls d σ H)
inductive Clauses (X : Cx) : List ExceptHandler → List Cls3 → Prop
  | nil : Clauses X [] []
  | cons {x n : Str} {c : Value} {i : Nat} {ts : Addr → Value → Option Addr → TS} {b₀ : Stmt} {suite : List Stmt} {np pos' : Pos} {hds : List ExceptHandler} {l : List Cls3} (hc : Names X x c) (hi : X.N[i]? = some n) (hln : X.env.kindOf n = some .local)
      (hsu : ∀ (a : Addr) (oe : Obj) (cls : Value) (d : Option Addr) (pn : List (Addr × Obj)), L2N.Zn cls d oe → (∃ vs, oe.data = .fields vs) → PSs (X.suite a ((a, oe) :: pn)) (b₀ :: suite) (ts a cls d)) (r : Clauses X hds l) :
      Clauses X (.ExceptHandler (some (.Name x np)) (some n) (b₀ :: suite) pos' :: hds) ((c, i, ts) :: l)
section
open L2N
variable {X : Cx} {body : List Stmt} {h₀ : ExceptHandler} {hds : List ExceptHandler} {l : List Cls3} {pos : Pos} {tb : WX → TS} {Wout : WX}
theorem ps_tryN (hs : X.stack = X.env :: X.outer) (hf : X.env.frame = some X.env.locals) (nd : X.N.Nodup) (tk : L2N.Takes X Wout)
    (hb : ∀ (W : WX) (pn : List (Addr × Obj)) (xe : Value → Shared → Prop), L2N.Takes (X.tr pn xe) W → PassesOwn (model X.prog X.w) X.A X.env xe → PSs (X.tr pn xe) body (tb W))
    (hh : Clauses X (h₀ :: hds) l) : PS X (.Try body (h₀ :: hds) [] [] pos) (fun D σ H => tb (wAll X.K Wout D l) D σ H) := by
  refine ⟨fun pins s σ H D I wish => ?_⟩
  have ok := I.ok
  have frames : X.A.frames = some (X.env :: X.outer) := by rw [ok.frames, hs]
  refine wpAny_Try_except ?_
  refine wpAny_mono ((hb (wAll X.K Wout D l) (X.pn ++ pins) (fun e t => wpAny (model X.prog X.w) X.A (noteFrame e X.env) (fun _ t2 => wpAny (model X.prog X.w) X.A (setFlight e none) (fun _ t3 =>
    wpAny (model X.prog X.w) X.A (handleBy e X.env (h₀ :: hds)) (SP X pins D) X.xe t3) X.xe t2) X.xe t) (fun u t out => ?_) PassesOwn.looking).run [] s σ H D (I.toTry _) wish) (fun f t sp => ?_) (fun e t z => z)
  · obtain ⟨a, B, sI, pins', σ', H', cls, d, rfl, J', nb, up, sky, na, os, ag, w⟩ := out
    have J : Inv X pins σ' H' sI := J'.ofTry ok
    have sky' : Sky B (X.env :: X.outer) a (Zn cls d) X.env.locals t.heap := by rw [← hs]; exact sky
    show wpAny (model X.prog X.w) X.A (noteFrame (.ref a) X.env) _ _ _
    refine Sky.land Zn.steady frames hf sky' fun g fl up3 => ?_
    obtain ⟨oe, vs, he, hz, hd⟩ := fl.there
    have J3 : Inv X pins σ' H' { t with heap := g } := J.landed nb fl.1 (up.trans up3) os ag
    have notFr : a ∉ frs (X.env :: X.outer) := fun hm => by
      obtain ⟨_, o', e', hnf⟩ := fl.2.2.1.mem hm
      rw [he] at e'
      cases e'
      exact hnf _ hd
    have nL : a ≠ X.env.locals := fun z => notFr (List.mem_filterMap.mpr ⟨X.env, List.mem_cons_self, by rw [hf, z]⟩)
    have nF : a ∉ X.fs := fun hm => by
      obtain ⟨e, me, q⟩ := List.mem_filterMap.mp hm
      exact notFr (List.mem_filterMap.mpr ⟨e, List.mem_cons_of_mem _ me, q⟩)
    have S3 := J3.suite he hd na nL nF
    have turn : ∀ {hds' : List ExceptHandler} {l' : List Cls3}, Clauses X hds' l' → wAll X.K Wout D l' cls d σ' H' → wpAny (model X.prog X.w) X.A (handleBy (.ref a) X.env hds') (SP X pins D) X.xe { t with heap := g } := by
      intro hds' l' hk
      induction hk with
      | nil =>
        intro w
        refine wpAny_handleBy_nil ?_
        obtain ⟨k1, k2, k3, oe, vs, T, oT, ts', he, hz, hd, h1, hr⟩ := id fl
        unfold PySem.passOn
        refine wpAny_bind (wpAny_field he hd h1 ?_)
        rw [if_neg (show ¬ ((Value.ref T == Value.none) = true) from by simp)]
        have last : wpAny (model X.prog X.w) X.A (setFlight (.ref a) X.env.frame) (fun _ t4 => wpAny (model X.prog X.w) X.A (throw (.ref a) : Sem Flow) (SP X pins D) X.xe t4) X.xe { t with heap := g } := by
          rw [hf]
          refine HandSPX.setFlight_upZ fl fun g4 hh4 up4 => wpAny_throw (tk _ _ ?_)
          exact ⟨a, B, sI, pins, σ', H', cls, d, rfl, J, nb, (up.trans up3).trans up4, .inr (.inr (by rw [hs]; exact hh4)), na, os, ag, w⟩
        first
          | exact wpAny_bind (wpAny_pure (wpAny_bind last))
          | exact wpAny_bind last
      | @cons x n c i ts b₀ suite np pos' hds2 l2 hc hi hln hsu r ih =>
        intro w
        obtain ⟨b, hb1, hyes, hno⟩ := w
        refine wpAny_handleBy_cons (codeAny_handlers_test ?_) (by intro q; cases q)
        have typ : PySem.W.Looks (model X.prog X.w) g (typeOf (.ref a)) cls := fun A Q E s k q => wpAny_typeOf_ref (k _ _ he) (by rw [hz.1]; exact q)
        have asked := PySem.W.exm_one (M := model X.prog X.w) (J3.kIn) typ hb1
        have load : ∀ {Q : Value → Shared → Prop} {E : Value → Shared → Prop}, Q c { t with heap := g } → wpAny (model X.prog X.w) (X.A.mark (some (.ref a))) (eval (.Name x np) X.env) Q E { t with heap := g } := fun {Q E} q => by
          obtain ⟨hg, hdbg, hm | ⟨hm, hv, hnn⟩⟩ := hc
          · exact ld_glob (X := X.suite a ((a, oe) :: (X.pn ++ pins))) S3 hg hm q hdbg
          · exact ld_blt (X := X.suite a ((a, oe) :: (X.pn ++ pins))) S3 hg hm hv q hnn hdbg
        refine load (asked.here ?_)
        cases b with
        | true =>
          refine codeAny_handlers_suite_as ?_
          refine HandSPX.lands_againZ fl fun g4 fl4 up4 => ?_
          have J4 : Inv X pins σ' H' { t with heap := g4 } := J.landed nb fl4.1 ((up.trans up3).trans up4) os ag
          obtain ⟨oe4, vs4, he4, hz4, hd4⟩ := fl4.there
          have S4 := J4.suite he4 hd4 na nL nF
          refine store_ok (X := X.suite a ((a, oe4) :: (X.pn ++ pins))) (v := .ref a) S4 nd hi (.inl hln) rfl (fun t5 S5 => ?_) (.inr hln)
          refine wpAny_mono ((hsu a oe4 cls d (X.pn ++ pins) hz4 ⟨_, hd4⟩).run [] t5 _ H' _ S5 (hyes rfl a na)) (fun f t6 sp => ?_) (fun _ _ z => False.elim z)
          have leave : ∀ {σ6 : L2.St} {H6 : Hp} {Q : Shared → Prop}, Inv (X.suite a ((a, oe4) :: (X.pn ++ pins))) [] σ6 H6 t6 → (∀ t7, Inv X pins (σ6.set i none) H6 t7 → Q t7) →
              wpAny (model X.prog X.w) X.A (do bindName X.env n .none; unbindBehindTheSuite X.env n pos') (fun _ t7 => Q t7) X.xe t6 := fun {σ6 H6 Q} S6 hq => gone_ok (S6.unsuite ok) nd hi hln hq
          cases f with
          | next =>
            obtain ⟨σ6, H6, S6, q6⟩ := sp
            exact leave S6 fun t7 J7 => ⟨_, _, J7, q6⟩
          | brk =>
            obtain ⟨σ6, H6, S6, q6⟩ := sp
            exact leave S6 fun t7 J7 => ⟨_, _, J7, q6⟩
          | cont =>
            obtain ⟨σ6, H6, S6, q6⟩ := sp
            exact leave S6 fun t7 J7 => ⟨_, _, J7, q6⟩
          | ret u =>
            obtain ⟨v6, σ6, H6, S6, r6, q6⟩ := sp
            exact leave S6 fun t7 J7 => ⟨_, _, _, J7, r6, q6⟩
        | false =>
          show wpAny _ X.A (handleBy (.ref a) X.env hds2) _ _ _
          exact ih (hno rfl)
    exact turn hh w
  · cases f with
    | next =>
      obtain ⟨σ', H', J', q⟩ := sp
      exact wpAny_execs_nil ⟨σ', H', J'.ofTry ok, q⟩
    | brk =>
      obtain ⟨σ', H', J', q⟩ := sp
      exact ⟨σ', H', J'.ofTry ok, q⟩
    | cont =>
      obtain ⟨σ', H', J', q⟩ := sp
      exact ⟨σ', H', J'.ofTry ok, q⟩
    | ret u =>
      obtain ⟨v, σ', H', J', r, q⟩ := sp
      exact ⟨v, σ', H', J'.ofTry ok, r, q⟩
end
end My
set_option Elab.async false
set_option linter.all false
set_option maxRecDepth 100000
set_option maxHeartbeats 4000000
namespace My
open PySem PySem.Spec PyProof.Rows L2

/-- what an except clause asks: this class is caught by that one -/
def Caught (K : PySem.W.Frag) (D C : Addr) (b : Bool) : Prop := PySem.W.exmOne K (.ref D) (.ref C) = some b
theorem takesF {X : Cx} : L2N.Takes X (fun _ _ _ _ => False) := fun _ _ x => by
  obtain ⟨_, _, _, _, _, _, _, _, _, _, _, _, _, _, _, _, z⟩ := x
  exact z.elim
/-- what becomes of a question, errors as the law writes them -/
def resQ (ws : List Int) (d : PyData) : PyData := match wRes ws with
  | some i => .list [.int i]
  | none => match qErr ws d with
    | some (w, i) => .list [.str w, .int i]
    | none => qGood d
def spChkQ (K : PySem.W.Frag) : Sp := fun vs H Q _ => ∃ (x y : V) (ws : List Int) (d : PyData), vs = [x, y] ∧ IntsAt H x ws ∧ ws.length ≤ 1000 ∧ Dq H y d ∧ fewD d = true ∧ ∀ (v : V) (H' : Hp), Same H H' → Dq H' v (resQ ws d) → Q v H'
def outU : URes → PyData
  | .bq w i => .list [.str w, .int i]
  | .bu w i => .list [.str w, .int i, .str "union"]
  | .ok r => r
def resU (ws : List Int) (d : PyData) : PyData := match wRes ws with
  | some i => .list [.int i]
  | none => outU (uRes ws d)
def spChkU (K : PySem.W.Frag) : Sp := fun vs H Q _ => ∃ (x y : V) (ws : List Int) (d : PyData), vs = [x, y] ∧ IntsAt H x ws ∧ ws.length ≤ 1000 ∧ Dq H y d ∧ fewD d = true ∧ ∀ (v : V) (H' : Hp), Same H H' → Dq H' v (resU ws d) → Q v H'
section
variable {P : Program} {w : World} {K : PySem.W.Frag} {mg : Str → Option Value} {base : Heap}
theorem sc__law_checked_question : FnScope ["_law_widths", "_law_question", "wrong", "_law_found"] ["_law_widths", "_law_question"] (defScope (topS 64)) := ⟨rfl, rfl, rfl, by decide +kernel, rfl, by decide +kernel, by decide +kernel⟩
theorem ok__law_checked_question {f : Addr} {fd : FuncData} (F : L2.Fun K "_law_checked_question" "_law_checked_question" (topS 64) f fd) {BW BQ : Addr} (cQ : CalX P w K mg base 7 "check_question" (spQuestC BW BQ K)) (RQ : ErrF P w K mg base "BadQuestion" BQ ["what", "index"]) (RW : ErrF P w K mg base "BadWidths" BW ["index"]) (qq : Caught K BQ BQ true) (wq : Caught K BW BQ false) (ww : Caught K BW BW true) : FnOk P w K mg base CX0 8 f fd ["_law_widths", "_law_question"] (spChkQ K) := by
  refine F.ok sc__law_checked_question (fun vs H Q E h => ?_) (fun cdv A outer s0 H vs Q E hr h => ?_)
  · obtain ⟨x, y, ws, d, rfl, _⟩ := h
    rfl
  · obtain ⟨x, y, ws, d, rfl, hx, fw, hd, few, k⟩ := h
    refine ⟨_, (pss_cons (ps_tryN rfl rfl sc__law_checked_question.nd takesF (fun W pn xe tk _ => (pss_one (ps_set (i := 3) sc__law_checked_question.nd rfl (.inl rfl) (show PE _ _ (tCallSD (spQuestC BW BQ K) [] (WE W) _) from pe_cX cQ tk hr (by decide) rfl (pa_cons (pv 0) (pa_cons (pv 1) pa_nil)))))) (.cons ⟨rfl, by decide, .inl RQ.gx⟩ (i := 2) rfl rfl (fun a oe cls d pn hz hf => (pss_one (ps_set (i := 3) sc__law_checked_question.nd rfl (.inl rfl) (pe_lst (pa_cons (pe_xf RQ.xf (RQ.nf "what" (by decide)) hz.zc hf (pv 2)) (pa_cons (pe_xf RQ.xf (RQ.nf "index" (by decide)) hz.zc hf (pv 2)) pa_nil)))))) (.cons ⟨rfl, by decide, .inl RW.gx⟩ (i := 2) rfl rfl (fun a oe cls d pn hz hf => (pss_one (ps_set (i := 3) sc__law_checked_question.nd rfl (.inl rfl) (pe_lst (pa_cons (pe_xf RW.xf (RW.nf "index" (by decide)) hz.zc hf (pv 2)) pa_nil))))) .nil))) (pss_one (ps_ret (pv 3)))), ?_⟩
    have lst2 : (2 : Nat) ≤ sizeLine := Nat.le_of_lt (small1000 (by omega))
    have lst1 : (1 : Nat) ≤ sizeLine := Nat.le_of_lt (small1000 (by omega))
    unfold resQ at k
    refine ⟨_, rfl, _, rfl, x, y, ws, d, rfl, hx, fw, hd, few, ?_⟩
    cases ew : wRes ws with
    | some i =>
      rw [ew] at k
      dsimp only at k
      refine .inl ⟨i, rfl, fun dd H1 s1 nd ed => ?_⟩
      refine ⟨false, wq, fun z => (nomatch z), fun _ => ⟨true, ww, fun _ a na => ?_, fun z => nomatch z⟩⟩
      refine ⟨_, rfl, rfl, rfl, dd, _, _, rfl, ed, rfl, lst1, fun p np => ?_⟩
      exact ⟨_, rfl, k _ _ (s1.trans (same_upd np)) (.lst upd_same (.cons (.int i) .nil))⟩
    | none =>
      rw [ew] at k
      dsimp only at k
      refine .inr ?_
      cases eq : qErr ws d with
      | some u =>
        obtain ⟨wd, i⟩ := u
        rw [eq] at k
        dsimp only at k
        refine .inl ⟨rfl, wd, i, rfl, fun dd H1 s1 nd ed => ⟨true, qq, fun _ a na => ?_, fun z => nomatch z⟩⟩
        refine ⟨_, rfl, rfl, rfl, dd, _, _, rfl, ed, rfl, _, rfl, rfl, rfl, dd, _, _, rfl, ed, rfl, lst2, fun p np => ?_⟩
        exact ⟨_, rfl, k _ _ (s1.trans (same_upd np)) (.lst upd_same (.cons (.str wd) (.cons (.int i) .nil)))⟩
      | none =>
        rw [eq] at k
        exact .inr ⟨rfl, rfl, fun p H1 s1 h1 => ⟨_, rfl, k _ _ s1 h1⟩⟩
theorem sc__law_checked_union : FnScope ["_law_widths", "_law_union", "wrong", "_law_found"] ["_law_widths", "_law_union"] (defScope (topS 65)) := ⟨rfl, rfl, rfl, by decide +kernel, rfl, by decide +kernel, by decide +kernel⟩
theorem ok__law_checked_union {f : Addr} {fd : FuncData} (F : L2.Fun K "_law_checked_union" "_law_checked_union" (topS 65) f fd) {BW BQ BU : Addr} (cQ : CalX P w K mg base 8 "check_union" (spUnionC BW BQ BU K)) (RQ : ErrF P w K mg base "BadQuestion" BQ ["what", "index"]) (RU : ErrF P w K mg base "BadUnion" BU ["what", "index"]) (RW : ErrF P w K mg base "BadWidths" BW ["index"]) (qq : Caught K BQ BQ true) (uq : Caught K BU BQ false) (uu : Caught K BU BU true) (wq : Caught K BW BQ false) (wu : Caught K BW BU false) (ww : Caught K BW BW true) : FnOk P w K mg base CX0 9 f fd ["_law_widths", "_law_union"] (spChkU K) := by
  refine F.ok sc__law_checked_union (fun vs H Q E h => ?_) (fun cdv A outer s0 H vs Q E hr h => ?_)
  · obtain ⟨x, y, ws, d, rfl, _⟩ := h
    rfl
  · obtain ⟨x, y, ws, d, rfl, hx, fw, hd, few, k⟩ := h
    refine ⟨_, (pss_cons (ps_tryN rfl rfl sc__law_checked_union.nd takesF (fun W pn xe tk _ => (pss_one (ps_set (i := 3) sc__law_checked_union.nd rfl (.inl rfl) (show PE _ _ (tCallSD (spUnionC BW BQ BU K) [] (WE W) _) from pe_cX cQ tk hr (by decide) rfl (pa_cons (pv 0) (pa_cons (pv 1) pa_nil)))))) (.cons ⟨rfl, by decide, .inl RQ.gx⟩ (i := 2) rfl rfl (fun a oe cls d pn hz hf => (pss_one (ps_set (i := 3) sc__law_checked_union.nd rfl (.inl rfl) (pe_lst (pa_cons (pe_xf RQ.xf (RQ.nf "what" (by decide)) hz.zc hf (pv 2)) (pa_cons (pe_xf RQ.xf (RQ.nf "index" (by decide)) hz.zc hf (pv 2)) pa_nil)))))) (.cons ⟨rfl, by decide, .inl RU.gx⟩ (i := 2) rfl rfl (fun a oe cls d pn hz hf => (pss_one (ps_set (i := 3) sc__law_checked_union.nd rfl (.inl rfl) (pe_lst (pa_cons (pe_xf RU.xf (RU.nf "what" (by decide)) hz.zc hf (pv 2)) (pa_cons (pe_xf RU.xf (RU.nf "index" (by decide)) hz.zc hf (pv 2)) (pa_cons pe_str pa_nil))))))) (.cons ⟨rfl, by decide, .inl RW.gx⟩ (i := 2) rfl rfl (fun a oe cls d pn hz hf => (pss_one (ps_set (i := 3) sc__law_checked_union.nd rfl (.inl rfl) (pe_lst (pa_cons (pe_xf RW.xf (RW.nf "index" (by decide)) hz.zc hf (pv 2)) pa_nil))))) .nil)))) (pss_one (ps_ret (pv 3)))), ?_⟩
    have lst3 : (3 : Nat) ≤ sizeLine := Nat.le_of_lt (small1000 (by omega))
    have lst2 : (2 : Nat) ≤ sizeLine := Nat.le_of_lt (small1000 (by omega))
    have lst1 : (1 : Nat) ≤ sizeLine := Nat.le_of_lt (small1000 (by omega))
    unfold resU at k
    refine ⟨_, rfl, _, rfl, x, y, ws, d, rfl, hx, fw, hd, few, ?_⟩
    cases ew : wRes ws with
    | some i =>
      rw [ew] at k
      dsimp only at k
      refine .inl ⟨i, rfl, fun dd H1 s1 nd ed => ?_⟩
      refine ⟨false, wq, fun z => (nomatch z), fun _ => ⟨false, wu, fun z => (nomatch z), fun _ => ⟨true, ww, fun _ a na => ?_, fun z => nomatch z⟩⟩⟩
      refine ⟨_, rfl, rfl, rfl, dd, _, _, rfl, ed, rfl, lst1, fun p np => ?_⟩
      exact ⟨_, rfl, k _ _ (s1.trans (same_upd np)) (.lst upd_same (.cons (.int i) .nil))⟩
    | none =>
      rw [ew] at k
      dsimp only at k
      refine .inr ?_
      cases eu : uRes ws d with
      | bq wd i =>
        rw [eu] at k
        refine .inl ⟨rfl, wd, i, rfl, fun dd H1 s1 nd ed => ⟨true, qq, fun _ a na => ?_, fun z => nomatch z⟩⟩
        refine ⟨_, rfl, rfl, rfl, dd, _, _, rfl, ed, rfl, _, rfl, rfl, rfl, dd, _, _, rfl, ed, rfl, lst2, fun p np => ?_⟩
        exact ⟨_, rfl, k _ _ (s1.trans (same_upd np)) (.lst upd_same (.cons (.str wd) (.cons (.int i) .nil)))⟩
      | bu wd i =>
        rw [eu] at k
        refine .inr (.inl ⟨rfl, wd, i, rfl, fun dd H1 s1 nd ed => ⟨false, uq, fun z => (nomatch z), fun _ => ⟨true, uu, fun _ a na => ?_, fun z => nomatch z⟩⟩⟩)
        refine ⟨_, rfl, rfl, rfl, dd, _, _, rfl, ed, rfl, _, rfl, rfl, rfl, dd, _, _, rfl, ed, rfl, lst3, fun p np => ?_⟩
        exact ⟨_, rfl, k _ _ (s1.trans (same_upd np)) (.lst upd_same (.cons (.str wd) (.cons (.int i) (.cons (.str _) .nil))))⟩
      | ok r =>
        rw [eu] at k
        exact .inr (.inr ⟨rfl, r, rfl, fun p H1 s1 h1 => ⟨_, rfl, k _ _ s1 h1⟩⟩)
end
end My
set_option Elab.async false
set_option linter.all false
set_option maxRecDepth 100000
set_option maxHeartbeats 4000000
namespace My
open PySem PySem.Spec PyProof.Rows L2

/-! ### what a good question is -/
theorem seq_len {l g : Int} {d : PyData} (h : lenIn l g d = true) : ∃ ds, seqOf d = some ds ∧ l ≤ (ds.length : Int) ∧ (ds.length : Int) ≤ g := by
  unfold lenIn at h
  cases e : seqOf d with
  | none => rw [e] at h; cases h
  | some ds =>
    rw [e] at h
    have z := Bool.and_eq_true_iff.mp h
    exact ⟨ds, rfl, of_decide_eq_true z.1, of_decide_eq_true z.2⟩
theorem head_parts {ls : List Str} {d : PyData} (h : headR ls d = none) : ∃ ds, seqOf d = some ds ∧ ds.length ≤ 3 ∧ ∀ t ∈ ds, toldD ls t = true := by
  unfold headR at h
  cases hl : lenIn 0 3 d with
  | false => rw [hl] at h; cases h
  | true =>
    rw [hl, if_pos rfl] at h
    obtain ⟨ds, e, z1, z2⟩ := seq_len hl
    rw [itemsD_some e] at h
    have q : firstW (headW ls) 0 ds = none := by
      cases q : firstW (headW ls) 0 ds with
      | none => rfl
      | some u => rw [q] at h; cases h
    exact ⟨ds, e, by omega, fun t m => headW_told (firstW_none q t m)⟩
theorem pairs_parts {ls : List Str} {d : PyData} (h : pairsR ls d = none) : ∃ ds, seqOf d = some ds ∧ ds.length ≤ 8 ∧ ∀ u ∈ ds, ∃ s t, seqOf u = some [s, t] ∧ toldD ls s = true ∧ toldD ls t = true := by
  unfold pairsR at h
  cases hl : lenIn 0 8 d with
  | false => rw [hl] at h; cases h
  | true =>
    rw [hl, if_pos rfl] at h
    obtain ⟨ds, e, z1, z2⟩ := seq_len hl
    rw [itemsD_some e] at h
    have q : firstW (pairW ls) 0 ds = none := by
      cases q : firstW (pairW ls) 0 ds with
      | none => rfl
      | some u => rw [q] at h; cases h
    refine ⟨ds, e, by omega, fun u m => ?_⟩
    have z := firstW_none q u m
    unfold pairW at z
    cases hc : lenIn 2 2 u && (itemsD u).all (toldD ls) with
    | false => rw [hc] at z; cases z
    | true =>
      obtain ⟨c1, c2⟩ := Bool.and_eq_true_iff.mp hc
      obtain ⟨us, eu, y1, y2⟩ := seq_len c1
      rw [itemsD_some eu] at c2
      match us, y1, y2, c2 with
      | [s, t], _, _, c2 =>
        refine ⟨s, t, eu, List.all_eq_true.mp c2 s (by simp), List.all_eq_true.mp c2 t (by simp)⟩
      | [], y1, _, _ => simp at y1
      | [_], y1, _, _ => simp at y1
      | _ :: _ :: _ :: _, _, y2, _ => simp at y2; omega
theorem q_parts {ws : List Int} {d : PyData} (h : qErr ws d = none) : ∃ a b c, seqOf d = some [a, b, c] ∧ itemD d 0 = a ∧ itemD d 1 = b ∧ itemD d 2 = c ∧ bodyR ws b = none ∧ headR (namesD b) a = none ∧ pairsR (namesD b) c = none := by
  unfold qErr at h
  cases hl : lenIn 3 3 d with
  | false => rw [hl] at h; cases h
  | true =>
    rw [hl] at h
    have h : (match bodyR ws (itemD d 1) with
      | some e => some e
      | none => match headR (namesD (itemD d 1)) (itemD d 0) with
        | some i => some (("head" : Str), i)
        | none => (pairsR (namesD (itemD d 1)) (itemD d 2)).map fun i => (("unlike" : Str), i)) = none := h
    obtain ⟨ds, e, z1, z2⟩ := seq_len hl
    obtain ⟨a, b, c, rfl⟩ : ∃ a b c, ds = [a, b, c] := by
      match ds, z1, z2 with
      | [a, b, c], _, _ => exact ⟨a, b, c, rfl⟩
      | [], z1, _ => simp at z1
      | [_], z1, _ => simp at z1
      | [_, _], z1, _ => simp at z1
      | _ :: _ :: _ :: _ :: _, _, z2 => simp at z2; omega
    have i0 : itemD d 0 = a := by unfold itemD; rw [itemsD_some e]; rfl
    have i1 : itemD d 1 = b := by unfold itemD; rw [itemsD_some e]; rfl
    have i2 : itemD d 2 = c := by unfold itemD; rw [itemsD_some e]; rfl
    rw [i0, i1, i2] at h
    cases hb : bodyR ws b with
    | some e => rw [hb] at h; cases h
    | none =>
      rw [hb] at h
      dsimp only at h
      cases hh : headR (namesD b) a with
      | some i => rw [hh] at h; cases h
      | none =>
        rw [hh] at h
        dsimp only at h
        cases hp : pairsR (namesD b) c with
        | some i => rw [hp] at h; cases h
        | none => exact ⟨a, b, c, e, i0, i1, i2, hb, hh, hp⟩
theorem told_term {ls : List Str} {t : PyData} (h : toldD ls t = true) : termD t = true := by
  unfold toldD at h
  unfold termD
  cases hv : valueD t with
  | true => rw [Bool.or_true]
  | false =>
    rw [hv, Bool.false_or, Bool.and_eq_true] at h
    rw [h.1]
    rfl
theorem term_deep {t : PyData} (h : termD t = true) : deepD t = t := by
  refine deep_flat ?_
  cases t with
  | list ds => cases h
  | tuple ds => cases h
  | _ => rfl
theorem map_same {α : Type} {f : α → α} : ∀ {l : List α}, (∀ x ∈ l, f x = x) → l.map f = l
  | [], _ => rfl
  | x :: r, h => by rw [List.map_cons, h x (List.mem_cons_self ..), map_same fun y m => h y (List.mem_cons_of_mem _ m)]
theorem map_eq {α β : Type} {f g : α → β} : ∀ {l : List α}, (∀ x ∈ l, f x = g x) → l.map f = l.map g
  | [], _ => rfl
  | x :: r, h => by rw [List.map_cons, List.map_cons, h x (List.mem_cons_self ..), map_eq fun y m => h y (List.mem_cons_of_mem _ m)]
theorem good_deep {ws : List Int} {d : PyData} (h : qErr ws d = none) : deepD d = qGood d := by
  obtain ⟨a, b, c, e, i0, i1, i2, hb, hh, hp⟩ := q_parts h
  unfold qGood
  rw [deep_seq e, i0, i1, i2]
  have h1 : deepD a = headT a := by
    obtain ⟨ds, e, _, k⟩ := head_parts hh
    unfold headT
    rw [deep_seq e, itemsD_some e, map_same fun t m => term_deep (told_term (k t m))]
  have h2 : deepD b = bodyT b := by
    obtain ⟨n1, n8, ok⟩ := body_ok hb
    obtain ⟨ds, e⟩ : ∃ ds, seqOf b = some ds := by
      cases e : seqOf b with
      | some ds => exact ⟨ds, rfl⟩
      | none =>
        unfold itemsD at n1
        rw [e] at n1
        simp at n1
    rw [itemsD_some e] at ok
    unfold bodyT
    rw [deep_seq e, itemsD_some e]
    congr 1
    refine map_eq fun x m => ?_
    obtain ⟨t, r, rs, k, es, e0, e1, er, eu, _, _, _, terms⟩ := ok x m
    unfold atomT headT
    rw [deep_seq es, e0, e1, itemsD_some er, List.map_cons, List.map_cons, List.map_nil, deep_seq er, map_same fun y my => term_deep (terms y my), eu, deepD]
  have h3 : deepD c = pairsT c := by
    obtain ⟨ds, e, _, k⟩ := pairs_parts hp
    unfold pairsT
    rw [deep_seq e, itemsD_some e]
    congr 1
    refine map_eq fun x m => ?_
    obtain ⟨s, t, es, k1, k2⟩ := k x m
    unfold headT
    rw [deep_seq es, itemsD_some es, List.map_cons, List.map_cons, List.map_nil, term_deep (told_term k1), term_deep (told_term k2)]
  rw [List.map_cons, List.map_cons, List.map_cons, List.map_nil, h1, h2, h3]
theorem due_good {ws : List Int} {d : PyData} (hw : wRes ws = none) : dueD ws d = resQ ws d := by
  unfold dueD resQ
  rw [hw]
  cases h : qErr ws d with
  | some u => rfl
  | none => exact good_deep h
/-- the question that a good one is -/
def qnOf (d : PyData) : Qn := ⟨(itemsD (itemD d 0)).map vOf, bodyV (itemD d 1), (itemsD (itemD d 2)).map fun u => (vOf (itemD u 0), vOf (itemD u 1))⟩
theorem vOf_term {t : PyData} (h : termD t = true) : TermV (vOf t) := by
  cases t with
  | int i =>
    unfold termD at h
    have e : nameD (.int i) = false := rfl
    rw [e, Bool.false_or] at h
    have z := Bool.and_eq_true_iff.mp (show (decide (0 ≤ i) && decide (i ≤ 1000000000)) = true from h)
    exact .inl ⟨i, rfl, of_decide_eq_true z.1, of_decide_eq_true z.2⟩
  | str s => exact .inr ((term_v h).2 rfl)
  | _ => cases h
theorem pair_len {α β : Type} (f g : α → β) : ∀ l : List α, ((l.map fun u => (f u, g u)).map fun u => [u.1, u.2]).flatten.length = 2 * l.length
  | [] => rfl
  | u :: r => by
    rw [List.map_cons, List.map_cons, List.flatten_cons, List.length_append, pair_len f g r]
    show 2 + 2 * r.length = 2 * (r.length + 1)
    omega
theorem good_at {K : PySem.W.Frag} {H : Hp} {ws : List Int} {d : PyData} {x : V} (h : qErr ws d = none) (hw : wRes ws = none) (hx : Dq H x (qGood d)) : ∃ p, x = .ref p ∧ QnAt K H p (qnOf d) ∧ (qnOf d).Ok ∧ (qnOf d).all.length ≤ 43 ∧ ∀ v ∈ (qnOf d).all, TermV v := by
  obtain ⟨a, b, c, e, i0, i1, i2, hb, hh, hp⟩ := q_parts h
  have hg : qGood d = .tuple [headT a, bodyT b, pairsT c] := by
    unfold qGood
    rw [i0, i1, i2]
  have hq : qnOf d = ⟨(itemsD a).map vOf, bodyV b, (itemsD c).map fun u => (vOf (itemD u 0), vOf (itemD u 1))⟩ := by
    unfold qnOf
    rw [i0, i1, i2]
  rw [hg] at hx
  rw [hq]
  cases hx with
  | @tup p xs _ hpp hall =>
  match xs, hall with
  | [y0, y1, y2], .cons g0 (.cons g1 (.cons g2 .nil)) =>
  obtain ⟨hs, eh, lh, th⟩ := head_parts hh
  obtain ⟨us, eu, lu, tu⟩ := pairs_parts hp
  obtain ⟨n1, n8, okb⟩ := body_ok hb
  obtain ⟨bp, bs, rfl, hbp, prb, lb, fb⟩ := body_at (K := K) hb hw g1
  have bl : ((bodyV b).map (·.2)).flatten.length ≤ 24 := by
    have z : ∀ l ∈ (bodyV b).map (·.2), l.length ≤ 3 := fun l m => by
      obtain ⟨a, ma, rfl⟩ := List.mem_map.mp m
      obtain ⟨b', mb, rfl⟩ := List.mem_map.mp ma
      obtain ⟨t, r, rs, k, es, e0, e1, er, eu, k0, k1, kl, terms⟩ := okb b' mb
      show ((itemsD (itemD b' 1)).map vOf).length ≤ 3
      rw [List.length_map, e1, itemsD_some er]
      have y := ws_three hw (i := k.toNat) (by omega)
      omega
    have y := flat_len z
    have l : ((bodyV b).map (·.2)).length = (itemsD b).length := by
      unfold bodyV
      rw [List.length_map, List.length_map]
    omega
  have bt : ∀ v ∈ ((bodyV b).map (·.2)).flatten, TermV v := fun v m => by
    obtain ⟨l, ml, mv⟩ := List.mem_flatten.mp m
    obtain ⟨a, ma, rfl⟩ := List.mem_map.mp ml
    obtain ⟨b', mb, rfl⟩ := List.mem_map.mp ma
    obtain ⟨t, r, rs, k, es, e0, e1, er, eu, k0, k1, kl, terms⟩ := okb b' mb
    obtain ⟨y, my, rfl⟩ := List.mem_map.mp (show v ∈ (itemsD (itemD b' 1)).map vOf from mv)
    rw [e1, itemsD_some er] at my
    exact vOf_term (terms y my)
  unfold headT at g0
  unfold pairsT at g2
  rw [itemsD_some eh] at g0
  rw [itemsD_some eu] at g2
  rw [itemsD_some eh, itemsD_some eu]
  cases g0 with
  | @tup hp0 zs _ hhp hhall =>
  cases g2 with
  | @tup up ps _ hup hupall =>
  have ez := vOf_all hhall fun t m => told_term (th t m)
  have prp : Paired (PairAt K H) ps (us.map fun u => (vOf (itemD u 0), vOf (itemD u 1))) := by
    have go : ∀ (ds : List PyData) (vs : List V), (∀ a ∈ ds, a ∈ us) → DqAll H vs (ds.map headT) → Paired (PairAt K H) vs (ds.map fun u => (vOf (itemD u 0), vOf (itemD u 1))) := by
      intro ds
      induction ds with
      | nil => intro vs _ hv; cases hv; exact .nil
      | cons u r ih =>
        intro vs mem hv
        rw [List.map_cons] at hv
        cases hv with
        | cons k1 k2 =>
        rw [List.map_cons]
        refine .cons ?_ (ih _ (fun y m => mem y (List.mem_cons_of_mem _ m)) k2)
        obtain ⟨s, t, es, t1, t2⟩ := tu u (mem u (List.mem_cons_self ..))
        unfold headT at k1
        rw [itemsD_some es] at k1
        have j0 : itemD u 0 = s := by unfold itemD; rw [itemsD_some es]; rfl
        have j1 : itemD u 1 = t := by unfold itemD; rw [itemsD_some es]; rfl
        rw [j0, j1]
        cases k1 with
        | @tup q qs _ hq hqa =>
        have eq := vOf_all hqa fun y m => by
          rcases List.mem_cons.mp m with z | m
          · rw [z]; exact told_term t1
          · rw [List.mem_singleton.mp m]; exact told_term t2
        rw [eq] at hq
        exact ⟨q, rfl, SqT.of hq⟩
    exact go us ps (fun _ m => m) hupall
  have pt : ∀ v ∈ (us.map fun u => (vOf (itemD u 0), vOf (itemD u 1))), TermV v.1 ∧ TermV v.2 := fun v m => by
    obtain ⟨u, mu, rfl⟩ := List.mem_map.mp m
    obtain ⟨s, t, es, t1, t2⟩ := tu u mu
    have j0 : itemD u 0 = s := by unfold itemD; rw [itemsD_some es]; rfl
    have j1 : itemD u 1 = t := by unfold itemD; rw [itemsD_some es]; rfl
    rw [j0, j1]
    exact ⟨vOf_term (told_term t1), vOf_term (told_term t2)⟩
  have ht : ∀ v ∈ hs.map vOf, TermV v := fun v m => by
    obtain ⟨t, mt, rfl⟩ := List.mem_map.mp m
    exact vOf_term (told_term (th t mt))
  refine ⟨p, rfl, ⟨hp0, bp, up, bs, ps, SqT.of hpp, by rw [← ez]; exact SqT.of hhp, SqT.of hbp, prb, SqT.of hup, prp⟩, ⟨?_, lb, ?_, fun v m => term_flat (ht v m), fb, fun u m => ⟨term_flat (pt u m).1, term_flat (pt u m).2⟩⟩, ?_, ?_⟩
  · show (hs.map vOf).length ≤ 1000
    rw [List.length_map]
    omega
  · show (us.map _).length ≤ 1000
    rw [List.length_map]
    omega
  · show ((hs.map vOf ++ ((bodyV b).map (·.2)).flatten) ++ ((us.map fun u => (vOf (itemD u 0), vOf (itemD u 1))).map fun u => [u.1, u.2]).flatten).length ≤ 43
    rw [List.length_append, List.length_append, List.length_map, pair_len]
    omega
  · intro v m
    unfold Qn.all at m
    rcases List.mem_append.mp m with m | m
    · rcases List.mem_append.mp m with m | m
      · exact ht v m
      · exact bt v m
    · obtain ⟨l, ml, mv⟩ := List.mem_flatten.mp m
      obtain ⟨u, mu, rfl⟩ := List.mem_map.mp ml
      rcases List.mem_cons.mp mv with z | mv
      · rw [z]; exact (pt u mu).1
      · rw [List.mem_singleton.mp mv]; exact (pt u mu).2
end My
set_option Elab.async false
set_option linter.all false
set_option maxRecDepth 100000
set_option maxHeartbeats 4000000
namespace My
open PySem PySem.Spec PyProof.Rows L2

def spUDue (K : PySem.W.Frag) : Sp := fun vs H Q _ => ∃ (x y : V) (ws : List Int) (d : PyData), vs = [x, y] ∧ IntsAt H x ws ∧ wRes ws = none ∧ Dq H y d ∧ fewD d = true ∧ dep d ≤ 9 ∧ ∀ (v : V) (H' : Hp), Same H H' → Dq H' v (resU ws d) → Q v H'
theorem tl_list (ds : List PyData) : tyD (.list ds) = "list" := rfl
theorem tl_tup (ds : List PyData) : tyD (.tuple ds) = "tuple" := rfl
section
variable {P : Program} {w : World} {K : PySem.W.Frag} {mg : Str → Option Value} {base : Heap}
theorem sc__law_union_due : FnScope ["_law_widths", "_law_union", "_law_found", "_law_question", "_law_at", "_law_due"] ["_law_widths", "_law_union"] (defScope (topS 66)) := ⟨rfl, rfl, rfl, by decide +kernel, rfl, by decide +kernel, by decide +kernel⟩
theorem ok__law_union_due {f : Addr} {fd : FuncData} (F : L2.Fun K "_law_union_due" "_law_union_due" (topS 66) f fd) (cS : Cal P w K mg base 1 "_law_seq" (spLSeq K)) (cQ : Cal P w K mg base 11 "_law_question_due" (spQDue K)) (m_len : mg "len" = none) (m_range : mg "range" = none) (m_list : mg "list" = none) (m_tuple : mg "tuple" = none) (m_isinstance : mg "isinstance" = none) : FnOk P w K mg base CX0 12 f fd ["_law_widths", "_law_union"] (spUDue K) := by
  refine F.ok sc__law_union_due (fun vs H Q E h => ?_) (fun cdv A outer s0 H vs Q E hr h => ?_)
  · obtain ⟨x, y, ws, d, rfl, _⟩ := h
    rfl
  · obtain ⟨x, y, ws, d, rfl, hx, hw, hd, few, dp, k⟩ := h
    refine ⟨_, (pss_cons (ps_if (PW.pt (pw_or (pt_not (pt_val (pe_c cS hr (by decide) rfl (pa_cons (pv 1) pa_nil)))) (pw_or1 (pt_cmpR op_gt (pe_callB call_len_seq (by rfl) m_len PySem.boot_len (pa_cons (pv 1) pa_nil)) pe_int (nomark _))))) (pss_one (ps_ret (pe_lst (pa_cons pe_str (pa_cons pe_int (pa_cons pe_str pa_nil)))))) pss_nil)
      (pss_cons (ps_set (i := 2) sc__law_union_due.nd rfl (.inl rfl) (pe_lst pa_nil))
      (pss_cons (ps_for PassesOwn.never rfl (pi_seq (pv 1)) (pg_name (i := 3) sc__law_union_due.nd rfl (.inl rfl)) (pss_cons (ps_set (i := 5) sc__law_union_due.nd rfl (.inl rfl) (pe_c cQ hr (by decide) rfl (pa_cons (pv 0) (pa_cons (pv 3) pa_nil)))) (pss_cons (ps_if (pt_val (pe_callB call_isi (by rfl) m_isinstance (by decide +kernel) (pa_cons (pv 5) (pa_cons (pe_bltn (v := .ty "list") (by rfl) m_list (by decide +kernel) rfl) pa_nil)))) (pss_one (ps_ret (pv 5))) pss_nil) (pss_one (ps_expr (pe_bm PySem.F.plainAttrs_list PySem.F.slot_list_append PySem.F.type_list_append mt_append (pv 2) (pa_cons (pv 5) pa_nil)))))))
      (pss_cons (ps_for PassesOwn.never rfl (pi_range1 (by rfl) m_range (pa_cons (pe_callB call_len_seq (by rfl) m_len PySem.boot_len (pa_cons (pv 2) pa_nil)) pa_nil)) (pg_name (i := 4) sc__law_union_due.nd rfl (.inl rfl)) (pss_one (ps_if (pt_cmpR op_ne (pe_callB call_len_seq (by rfl) m_len PySem.boot_len (pa_cons (pe_ix ix_seq (pe_ix ix_seq (pv 2) (pv 4) (fun _ _ => rfl)) pe_int (fun _ _ => rfl)) pa_nil)) (pe_callB call_len_seq (by rfl) m_len PySem.boot_len (pa_cons (pe_ix ix_seq (pe_ix ix_seq (pv 2) pe_int (fun _ _ => rfl)) pe_int (fun _ _ => rfl)) pa_nil)) (nomark _)) (pss_one (ps_ret (pe_lst (pa_cons pe_str (pa_cons (pv 4) (pa_cons pe_str pa_nil)))))) pss_nil)))
      (pss_one (ps_ret (pe_callTy call_tuple_of (by rfl) m_tuple (by decide +kernel) (pa_cons (pv 2) pa_nil)))))))), ?_⟩
    have lst3 : (3 : Nat) ≤ sizeLine := Nat.le_of_lt (small1000 (by omega))
    unfold resU at k
    rw [hw] at k
    dsimp only at k
    have errU : ∀ (w : Str) (i : Int) (p : Addr) (H1 : Hp), Same H H1 → H1 p = none → uRes ws d = .bu w i → Q (.ref p) (upd H1 p (.lst [.str w, .int i, .str "union"])) := fun w i p H1 s1 np e => by
      rw [e] at k
      exact k _ _ (s1.trans (same_upd np)) (.lst upd_same (.cons (.str w) (.cons (.int i) (.cons (.str _) .nil))))
    refine ⟨_, rfl, y, d, rfl, hd, _, rfl, ?_⟩
    cases e : seqOf d with
    | none => exact iteT (iteT ⟨lst3, fun p np => errU _ _ p H (Same.refl _) np (by unfold uRes; rw [len_no e]; rfl)⟩)
    | some ds =>
      refine iteF ?_
      obtain ⟨a, xs, rfl, ha, hall⟩ := hd.seq e
      have lx := hall.len
      obtain ⟨few1, few2⟩ := few_items few
      rw [itemsD_some e] at few1 few2
      refine ⟨_, rfl, a, _, rfl, ha.imp SqL.of SqT.of, _, _, rfl, rfl, _, rfl, ite2 (fun z => ?_) (fun z => ?_)⟩
      · refine ⟨lst3, fun p np => errU _ _ p H (Same.refl _) np ?_⟩
        unfold uRes
        rw [len_in e, decide_eq_false (show ¬ (ds.length : Int) ≤ 6 by have z := of_decide_eq_true z; omega), Bool.and_false]
        rfl
      have n6 : ¬ (xs.length : Int) > 6 := fun y => z (decide_eq_true y)
      have eU : uRes ws d = (match firstW (qErr ws) 0 ds with
        | some ((w, i), _) => URes.bq w i
        | none => match firstW (lenW (headLen ((ds.map qGood).getD 0 .none))) 0 (ds.map qGood) with
          | some (_, i) => .bu "heads" i
          | none => .ok (.tuple (ds.map qGood))) := by
        unfold uRes
        rw [len_in e, decide_eq_true (show (0 : Int) ≤ (ds.length : Int) by omega), decide_eq_true (show (ds.length : Int) ≤ 6 by omega), itemsD_some e]
        rfl
      refine ⟨Nat.zero_le _, fun D nD => ?_⟩
      dsimp only [tNext, tSeq]
      refine forSeq (a := a) (xs := xs) (H0 := H) (fun R h => ⟨_, rfl, h⟩) (ha.imp SqL.of SqT.of) (same_upd nD) (fun i σ H' => (∃ v3 v4 v5, σ = [some x, some (.ref a), some (.ref D), v3, v4, v5]) ∧ Same H H' ∧ ∃ ys, H' D = some (.lst ys) ∧ DqAll H' ys ((ds.take i).map qGood) ∧ (∀ t ∈ ds.take i, qErr ws t = none) ∧ firstW (qErr ws) 0 ds = firstW (qErr ws) i (ds.drop i)) ?_ (fun i σ H' hi hp => hp.2.1) (fun i q σ H' ex hp => ?_) (fun σ H' hp => ?_)
      · exact ⟨⟨_, _, _, rfl⟩, same_upd nD, [], upd_same, .nil, (fun t m => by cases m), rfl⟩
      · obtain ⟨⟨v3, v4, v5, rfl⟩, s1, ys, hD, hys, hgood, ew⟩ := hp
        obtain ⟨t, et, ht⟩ := hall.get ex
        have mt := List.mem_of_getElem? et
        have li := (List.getElem?_eq_some_iff.mp et).1
        have ei : ds[i] = t := (List.getElem?_eq_some_iff.mp et).2
        refine ⟨_, rfl, _, rfl, x, q, ws, t, rfl, hx.keep s1, hw, ht.keep s1, few2 t mt, dep_seq e dp t mt, fun v H2 s2 hv => ?_⟩
        have s12 := s1.trans s2
        refine ⟨_, rfl, v, .ty "list", _, _, _, rfl, .ty _, .base hv.ty, kit_dList _, _, rfl, ?_⟩
        rw [firstW_drop li, ei] at ew
        cases eq : qErr ws t with
        | some u =>
          obtain ⟨w, i'⟩ := u
          have ed : dueD ws t = .list [.str w, .int i'] := by unfold dueD; rw [eq]
          rw [ed] at hv ⊢
          rw [eq] at ew
          refine iteT ⟨_, rfl, k v H2 s12 ?_⟩
          rw [eU, ew]
          exact hv
        | none =>
          have ed : dueD ws t = qGood t := by unfold dueD; rw [eq]; exact good_deep eq
          rw [ed] at hv ⊢
          rw [eq] at ew
          refine iteF ⟨_, rfl, .inl ⟨rfl, _, SqL.of (s2 _ _ hD)⟩, _, rfl, D, _, _, rfl, rfl, s2 _ _ hD, ?_, ⟨_, _, _, rfl⟩, ?_, ys ++ [v], upd_same, ?_, ?_, ew⟩
          · have z := hys.len
            rw [List.length_map, List.length_take] at z
            exact small1000 (by omega)
          · intro b o eb
            rw [upd_ne (ne_of_none eb nD)]
            exact s12 _ _ eb
          · rw [List.take_add_one, et, List.map_append]
            refine dqAll_put (s2 _ _ hD) _ _ (noLs_of fun g mg => ?_) ((hys.keep s2).snoc hv)
            rcases List.mem_append.mp mg with z | z
            · obtain ⟨t', mt', rfl⟩ := List.mem_map.mp z
              exact good_noL (hgood t' mt')
            · rw [List.mem_singleton.mp z]
              exact good_noL eq
          · intro t' mt'
            rw [List.take_add_one, et] at mt'
            rcases List.mem_append.mp mt' with z | z
            · exact hgood t' z
            · rw [List.mem_singleton.mp z]
              exact eq
      · obtain ⟨⟨v3, v4, v5, rfl⟩, s1, ys, hD, hys, hgood, ew⟩ := hp
        rw [lx, List.drop_length] at ew
        have ew : firstW (qErr ws) 0 ds = none := ew
        rw [ew] at eU
        dsimp only at eU
        rw [lx, List.take_length] at hys
        dsimp only [tNext, tSeq]
        have ly := hys.len
        have lm : (ds.map qGood).length = ds.length := List.length_map ..
        refine forAt (lenW (headLen ((ds.map qGood).getD 0 .none))) (ds.map qGood) (fun σ => ∃ v3 v4 v5, σ = [some x, some (.ref a), some (.ref D), v3, v4, v5]) ⟨_, _, _, rfl⟩ (by omega) (fun R h => ⟨_, rfl, D, _, rfl, .inl (SqL.of hD), by rw [ly]; exact h⟩) ?_ ?_
        · rintro i t _ H2 N ⟨v3, v4, v5, rfl⟩ s2 et go stop
          have hD2 := s2 _ _ hD
          have hys2 := hys.keep s2
          obtain ⟨u, eu, hu⟩ := hys2.getD et
          obtain ⟨q, mq, eq⟩ := List.mem_map.mp (List.mem_of_getElem? et)
          have l0 : 0 < ds.length := by
            cases ds with
            | nil => cases mq
            | cons _ _ => exact Nat.succ_pos _
          have e0 : (ds.map qGood)[0]? = some (qGood ds[0]) := by rw [List.getElem?_map, List.getElem?_eq_getElem l0]; rfl
          obtain ⟨u0, eu0, hu0⟩ := hys2.getD e0
          have g0 : (ds.map qGood).getD 0 .none = qGood ds[0] := by rw [List.getD_eq_getElem?_getD, e0]; rfl
          rw [g0] at go stop
          obtain ⟨h, b, c, eform⟩ := qGood_form q
          obtain ⟨h', b', c', eform'⟩ := qGood_form ds[0]
          rw [← eq, eform] at hu
          rw [eform'] at hu0
          cases hu with
          | @tup p1 zs _ hp1 hpa =>
          cases hu0 with
          | @tup p0 zs0 _ hp0 hpa0 =>
          match zs, hpa with
          | z0 :: _, .cons hz _ =>
          match zs0, hpa0 with
          | z1 :: _, .cons hz1 _ =>
          cases hz with
          | @tup r us _ hr1 hra =>
          cases hz1 with
          | @tup r' us' _ hr1' hra' =>
          refine ⟨_, rfl, _, rfl, rd_ix (.inl (SqL.of hD2)) (atI_nat eu) (rd_ix (.inr (SqT.of hp1)) (atI_nat (j := 0) rfl) ⟨r, us, rfl, .inr (SqT.of hr1), ?_⟩)⟩
          refine ⟨_, rfl, rd_ix (.inl (SqL.of hD2)) (atI_nat (j := 0) eu0) (rd_ix (.inr (SqT.of hp0)) (atI_nat (j := 0) rfl) ⟨r', us', rfl, .inr (SqT.of hr1'), ?_⟩)⟩
          rw [hra.len, hra'.len]
          have ht : headLen t = h.length := by rw [← eq, eform]; rfl
          have h0 : headLen (qGood ds[0]) = h'.length := by rw [eform']; rfl
          refine ⟨rfl, _, rfl, ?_⟩
          by_cases same : h.length = h'.length
          · refine iteNS (by rw [same]) (go ?_ _ _ ⟨_, _, _, rfl⟩ (Same.refl _))
            unfold lenW
            rw [ht, h0, if_pos same]
          · have ne : (!decide (V.int ((h.length : Nat) : Int) = V.int ((h'.length : Nat) : Int))) = true := by
              rw [decide_eq_false (fun z => same (by have y := V.int.inj z; omega))]
              rfl
            rw [ne]
            refine iteT ⟨_, rfl, lst3, fun p np => errU "heads" i p H2 (s1.trans s2) np ?_⟩
            rw [eU, g0, stop () (by unfold lenW; rw [ht, h0, if_neg same])]
        · rintro e2 _ H2 ⟨v3, v4, v5, rfl⟩ s2
          rw [e2] at eU
          dsimp only at eU
          rw [eU] at k
          refine ⟨_, rfl, D, ys, rfl, .inl ⟨SqL.of (s2 _ _ hD), fun l nl => ?_⟩⟩
          have sl := same_upd (o := HO.tup ys) nl
          exact k _ _ ((s1.trans s2).trans sl) (.tup upd_same ((hys.keep s2).keep sl))
end
end My
set_option Elab.async false
set_option linter.all false
set_option maxRecDepth 100000
set_option maxHeartbeats 4000000
namespace My
open PySem PySem.Spec PyProof.Rows L2
theorem lcF {j : Nat} {vs : List Nat} {σ : L2.St} {H : Hp} {Q : VK} {wi : TI} {tt : TT} (xs : List V) (sel : V → Bool) (few : xs.length ≤ 1000)
    (hwi : ∀ R : It → Hp → Prop, (∀ (J : It) (G : Hp → Prop), Walk J xs.length G (YAt xs) → (∀ H', Same H H' → G H') → R J H) → wi σ H R)
    (hw : ∀ x, wipe ((wipe σ vs).set j (some x)) vs = wipe σ vs) (hj : ∀ x, ((wipe σ vs).set j (some x))[j]? = some (some x))
    (ht : ∀ (i : Nat) (x : V) (H' : Hp) (R : Bool → Hp → Prop), xs[i]? = some x → Same H H' → R (sel x) H' → tt ((wipe σ vs).set j (some x)) H' R)
    (hq : ∀ (D : Addr) (H' : Hp), Same H H' → H D = none → H' D = some (.lst (xs.filter sel)) → Q (.ref D) H') : tLc wi (gName j) tt (tVar j) vs σ H Q := by
  refine hwi _ fun J G w hG => fun D nD => ?_
  let Pv : Nat → Hp → Prop := fun i H' => Same H H' ∧ H' D = some (.lst ((xs.take i).filter sel))
  refine ⟨fun i m H' => m = xs.length - i ∧ i ≤ xs.length ∧ Pv i H', ⟨xs.length, rfl, Nat.zero_le _, same_upd nD, upd_same⟩, ?_⟩
  rintro i m H' ⟨rfl, hi, s1, hD⟩
  by_cases lt : i < xs.length
  · refine .inr ⟨w.goes i H' lt (hG _ s1), Pv (i + 1), fun H2 p => ⟨xs.length - (i + 1), by omega, rfl, lt, p⟩, ?_⟩
    intro x H2 y
    obtain ⟨rfl, ex⟩ := w.yields i H' x H2 lt (hG _ s1) y
    have tk : (xs.take (i + 1)).filter sel = (xs.take i).filter sel ++ if sel x then [x] else [] := by
      rw [List.take_add_one, ex, List.filter_append]
      congr 1
      show [x].filter sel = _
      rw [List.filter_cons]
      rfl
    refine ⟨hw _, ht i x H2 _ ex s1 ?_⟩
    cases e : sel x with
    | false =>
      refine iteF ⟨s1, ?_⟩
      rw [tk, e, if_neg (fun z => nomatch z), List.append_nil]
      exact hD
    | true =>
      refine iteT ⟨_, hj _, _, hD, ?_, ?_, ?_⟩
      · have := List.length_filter_le sel (xs.take i)
        rw [List.length_take] at this
        exact small1000 (by omega)
      · intro b o z
        rw [upd_ne (ne_of_none z nD)]
        exact s1 _ _ z
      · rw [upd_same, tk, e, if_pos rfl]
  · have e : i = xs.length := by omega
    subst e
    rw [List.take_length] at hD
    exact .inl ⟨w.stops H' (hG _ s1), hq D H' s1 nD hD⟩

/-- sorted(a set of fewer than 64 whole numbers), told by its members alone -/
def rSortedF (w : World) : List V → Hp → VK → Prop := fun vs H Q => ∃ (a : Addr) (S : Int → Bool) (n : Nat), vs = [V.ref a] ∧ H a = some (SetO w a S n) ∧ (∀ ns : List Int, ns.Nodup → (∀ k ∈ ns, S k = true) → ns.length < 64) ∧
  ∀ (ns : List Int) (p : Addr), ns.Pairwise (· < ·) → (∀ k : Int, k ∈ ns ↔ S k = true) → H p = none → Q (.ref p) (upd H p (.lst (ns.map V.int)))
theorem cr_sortedF {X : Cx} (hc : X.calm = true) : CallR X (.builtin "sorted") (rSortedF X.w) := by
  intro pins s σ H vs us Q I r h
  obtain ⟨a, S, n, rfl, ha, few, q⟩ := h
  have n64 : n < 64 := by
    obtain ⟨o, es, ep, t, _, _, _, _, nd, mem, _, _, en, _⟩ := setO_get I ha
    have z := few (es.toList.map keyOf) nd fun k m => (mem k).mpr m
    rw [List.length_map, Array.length_toList, en] at z
    exact z
  exact cr_sortedSet hc pins s σ H _ us Q I r ⟨a, S, n, rfl, ha, n64, fun ns p h1 h2 _ h4 => q ns p h1 h2 h4⟩
def noStr (v : V) : Bool := !strV v
/-- the whole numbers among these -/
def intsV (xs : List V) : List Int := xs.filterMap fun x => match x with
  | .int i => some i
  | _ => none
theorem ints_filter : ∀ {zs : List V}, (∀ v ∈ zs, TermV v) → zs.filter noStr = (intsV zs).map V.int
  | [], _ => rfl
  | v :: r, h => by
    have ih := ints_filter (zs := r) fun x m => h x (List.mem_cons_of_mem _ m)
    rcases h v (List.mem_cons_self ..) with ⟨c, rfl, _⟩ | n
    · rw [List.filter_cons, if_pos (by rfl), ih]
      rfl
    · cases v with
      | str s =>
        rw [List.filter_cons, if_neg (show ¬ noStr (.str s) = true from fun z => by cases z), ih]
        rfl
      | _ => cases n
theorem mem_ints {zs : List V} {k : Int} : k ∈ intsV zs ↔ V.int k ∈ zs := by
  unfold intsV
  rw [List.mem_filterMap]
  constructor
  · rintro ⟨v, m, e⟩
    cases v with
    | int i => cases Option.some.inj e; exact m
    | _ => cases e
  · intro m
    exact ⟨_, m, rfl⟩
def spLUVals (K : PySem.W.Frag) : Sp := fun vs H Q _ => ∃ (u : Addr) (us : List V) (qs : List Qn), vs = [.ref u] ∧ SqT K H u us ∧ Paired (QRef K H) us qs ∧ (∀ q ∈ qs, q.all.length ≤ 1000) ∧ (qs.map Qn.all).flatten.length ≤ 1000 ∧ Few64 (qs.map Qn.all).flatten ∧ (∀ v ∈ (qs.map Qn.all).flatten, TermV v) ∧
  ∀ (ns : List Int) (r : Addr) (H' : Hp), Values (qs.map Qn.all).flatten ns → Same H H' → H' r = some (.lst (ns.map V.int)) → Q (.ref r) H'
section
variable {P : Program} {w : World} {K : PySem.W.Frag} {mg : Str → Option Value} {base : Heap}
theorem sc__law_union_values : FnScope ["_law_union", "_law_values", "_law_question", "_law_terms", "_law_pair", "_law_table", "_law_more", "_law_term"] ["_law_union"] (defScope (topS 46)) := ⟨rfl, rfl, rfl, by decide +kernel, rfl, by decide +kernel, by decide +kernel⟩
theorem ok__law_union_values {f : Addr} {fd : FuncData} (F : L2.Fun K "_law_union_values" "_law_union_values" (topS 46) f fd) (m_list : mg "list" = none) (m_isinstance : mg "isinstance" = none) (m_str : mg "str" = none) (m_sorted : mg "sorted" = none) (m_set : mg "set" = none) : FnOk P w K mg base CX0 1 f fd ["_law_union"] (spLUVals K) := by
  refine F.ok sc__law_union_values (fun vs H Q E h => ?_) (fun cdv A outer s0 H vs Q E hr h => ?_)
  · obtain ⟨u, us, qs, rfl, _⟩ := h
    rfl
  · obtain ⟨u, us, qs, rfl, hu, hq, few, few1, few64, kind, k⟩ := h
    refine ⟨_, (pss_cons (ps_set (i := 1) sc__law_union_values.nd rfl (.inl rfl) (pe_lst pa_nil))
      (pss_cons (ps_for PassesOwn.never rfl (pi_seq (pv 0)) (pg_name (i := 2) sc__law_union_values.nd rfl (.inl rfl)) (pss_cons (ps_set (i := 3) sc__law_union_values.nd rfl (.inl rfl) (pe_callTy call_list_of (by rfl) m_list (by decide +kernel) (pa_cons (pe_ix ix_seq (pv 2) pe_int (fun _ _ => rfl)) pa_nil))) (pss_cons (ps_for PassesOwn.never rfl (pi_seq (pe_ix ix_seq (pv 2) pe_int (fun _ _ => rfl))) (pg_sq rfl (pgs_cons (pg_name (i := 5) sc__law_union_values.nd rfl (.inl rfl)) (pgs_cons (pg_name (i := 6) sc__law_union_values.nd rfl (.inl rfl)) pgs_nil))) (pss_one (ps_set (i := 3) sc__law_union_values.nd rfl (.inl rfl) (pe_op op_cat (pv 3) (pe_callTy call_list_of (by rfl) m_list (by decide +kernel) (pa_cons (pv 6) pa_nil)))))) (pss_cons (ps_for PassesOwn.never rfl (pi_seq (pe_ix ix_seq (pv 2) pe_int (fun _ _ => rfl))) (pg_name (i := 4) sc__law_union_values.nd rfl (.inl rfl)) (pss_one (ps_set (i := 3) sc__law_union_values.nd rfl (.inl rfl) (pe_op op_cat (pv 3) (pe_callTy call_list_of (by rfl) m_list (by decide +kernel) (pa_cons (pv 4) pa_nil)))))) (pss_one (ps_set (i := 1) sc__law_union_values.nd rfl (.inl rfl) (pe_op op_cat (pv 1) (pe_lc (own := [("_law_term", 7)]) (g := gName 7) rfl sc__law_union_values.nd (pi_seq (pv 3)) (blkOk_by (N := ["_law_union", "_law_values", "_law_question", "_law_terms", "_law_pair", "_law_table", "_law_more", "_law_term"]) (sc := defScope (topS 46)) (by decide +kernel)) (fun _ _ _ _ _ => pg_name (i := 7) sc__law_union_values.nd rfl (Or.inl rfl)) (fun _ _ _ _ _ => (pts_one (pt_not (pt_val (show PE _ _ (tCB (rIsi K) (tCons (tVar 7) (tCons (tC (.ty "str")) tNil))) from pe_callB call_isi (by rfl) m_isinstance (by decide +kernel) (pa_cons (pv 7) (pa_cons (pe_bltn (v := .ty "str") (by rfl) m_str (by decide +kernel) rfl) pa_nil))))))) (fun _ _ _ _ _ => (pv 7))))))))))
      (pss_one (ps_ret (pe_callB (cr_sortedF rfl) (by rfl) m_sorted (by decide +kernel) (pa_cons (pe_callTy (cr_setL rfl) (by rfl) m_set (by decide +kernel) (pa_cons (pv 1) pa_nil)) pa_nil)))))), ?_⟩
    have lu := paired_len hq
    have lm : (qs.map Qn.all).length = us.length := by rw [List.length_map, lu]
    refine ⟨Nat.zero_le _, fun V0 nV0 => ?_⟩
    dsimp only [tNext, tSeq]
    refine forSeq (K := K) (a := u) (xs := us) (H0 := H) (fun R h => ⟨_, rfl, h⟩) (.inr hu) (same_upd nV0) (fun i σ H' => ∃ v2 v3 v4 v5 v6 v7 vl, σ = [some (.ref u), some (.ref vl), v2, v3, v4, v5, v6, v7] ∧ Same H H' ∧ H' vl = some (.lst (((qs.map Qn.all).take i).flatten.filter noStr))) ⟨_, _, _, _, _, _, V0, rfl, same_upd nV0, upd_same⟩ (fun i σ H' hi ⟨_, _, _, _, _, _, _, _, s, _⟩ => s) (fun i x σ H' ex hp => ?_) (fun σ H' hp => ?_)
    · obtain ⟨v2, v3, v4, v5, v6, v7, vl, rfl, s1, hV⟩ := hp
      have li : i < qs.length := by
        rw [← lu]
        exact (List.getElem?_eq_some_iff.mp ex).1
      have eq : qs[i]? = some qs[i] := List.getElem?_eq_getElem li
      obtain ⟨r, rfl, hr0⟩ := paired_at hq ex eq
      have mq := List.getElem_mem li
      have ez : (qs.map Qn.all)[i]? = some qs[i].all := by rw [List.getElem?_map, eq]; rfl
      have lq := few _ mq
      have le := cat_le ez
      generalize qs[i] = q at hr0 mq ez lq le
      obtain ⟨h0, b, w, bs, ws, h1, h2, h3, h4, h5, h6⟩ := (hr0.keep s1).ex
      have lb := paired_len h4
      have lw := paired_len h6
      have lq' := lq
      unfold Qn.all at lq'
      rw [List.length_append, List.length_append] at lq'
      refine ⟨_, rfl, rd_ix (.inr h1) (atI_nat (j := 0) rfl) ⟨h0, _, rfl, .inr h2, fun T nT => ?_⟩⟩
      have sT := same_upd (o := HO.lst q.head) nT
      have hT : (upd H' T (.lst q.head)) T = some (.lst q.head) := upd_same
      generalize upd H' T (.lst q.head) = H1 at sT hT ⊢
      dsimp only [tNext, tSeq]
      refine forSeq (K := K) (a := b) (xs := bs) (H0 := H') (fun R h => ⟨_, rfl, rd_ix (.inr (seqT_keep h1 sT)) (atI_nat (j := 1) rfl) h⟩) (.inr h3) sT (fun j σ G => ∃ v4 v5 v6 v7 tl, σ = [some (.ref u), some (.ref vl), some (.ref r), some (.ref tl), v4, v5, v6, v7] ∧ Same H' G ∧ G tl = some (.lst (q.head ++ ((q.body.map (·.2)).take j).flatten))) ⟨_, _, _, _, T, rfl, sT, by rw [List.take_zero, List.flatten_nil, List.append_nil]; exact hT⟩ (fun j σ G hj ⟨_, _, _, _, _, _, s, _⟩ => s) (fun j y σ G ey hp => ?_) (fun σ G hp => ?_)
      · obtain ⟨v4, v5, v6, v7, tl, rfl, s2, hL⟩ := hp
        have lj : j < q.body.length := by
          rw [← lb]
          exact (List.getElem?_eq_some_iff.mp ey).1
        have ea : q.body[j]? = some q.body[j] := List.getElem?_eq_getElem lj
        obtain ⟨p1, r1, rfl, g1, g2⟩ := paired_at h4 ey ea
        have e2 : (q.body.map (·.2))[j]? = some q.body[j].2 := by rw [List.getElem?_map, ea]; rfl
        generalize q.body[j].1 = tb at g1
        generalize q.body[j].2 = z at g2 e2
        have le2 := cat_le e2
        refine rd_sq (.inr (seqT_keep g1 s2)) rfl ⟨_, _, rfl, _, _, rfl, rfl, ?_⟩
        refine ⟨_, rfl, _, rfl, r1, _, rfl, .inr (seqT_keep g2 s2), fun c nc => ?_⟩
        have sc := same_upd (o := HO.lst z) nc
        refine ⟨tl, c, _, _, rfl, rfl, sc _ _ hL, upd_same, Nat.le_of_lt (small1000 (by rw [List.length_append]; omega)), fun d nd => ?_⟩
        refine ⟨_, _, _, _, d, rfl, (s2.trans sc).trans (same_upd nd), ?_⟩
        rw [upd_same, take_cat e2, List.append_assoc]
      · obtain ⟨v4, v5, v6, v7, tl, rfl, s2, hL⟩ := hp
        have el : (q.body.map (·.2)).take bs.length = q.body.map (·.2) := by
          rw [lb]
          exact List.take_of_length_le (by rw [List.length_map]; exact Nat.le_refl _)
        rw [el] at hL
        dsimp only [tNext, tSeq]
        have lf : (q.pairs.map fun u => [u.1, u.2]).length = ws.length := by rw [List.length_map, lw]
        refine forSeq (K := K) (a := w) (xs := ws) (H0 := H') (fun R h => ⟨_, rfl, rd_ix (.inr (seqT_keep h1 s2)) (atI_nat (j := 2) rfl) h⟩) (.inr h5) s2 (fun j σ G => ∃ v4 v5 v6 v7 tl, σ = [some (.ref u), some (.ref vl), some (.ref r), some (.ref tl), v4, v5, v6, v7] ∧ Same H' G ∧ G tl = some (.lst (q.head ++ (q.body.map (·.2)).flatten ++ ((q.pairs.map fun u => [u.1, u.2]).take j).flatten))) ⟨_, _, _, _, tl, rfl, s2, by rw [List.take_zero, List.flatten_nil, List.append_nil]; exact hL⟩ (fun j σ G hj ⟨_, _, _, _, _, _, s, _⟩ => s) (fun j y σ G ey hp => ?_) (fun σ G hp => ?_)
        · obtain ⟨v4, v5, v6, v7, tl, rfl, s2, hL⟩ := hp
          have lj : j < q.pairs.length := by
            rw [← lw]
            exact (List.getElem?_eq_some_iff.mp ey).1
          have ea : q.pairs[j]? = some q.pairs[j] := List.getElem?_eq_getElem lj
          obtain ⟨p1, rfl, g1⟩ := paired_at h6 ey ea
          have e2 : (q.pairs.map fun u => [u.1, u.2])[j]? = some [q.pairs[j].1, q.pairs[j].2] := by rw [List.getElem?_map, ea]; rfl
          generalize [q.pairs[j].1, q.pairs[j].2] = z at g1 e2
          have le2 := cat_le e2
          refine ⟨_, rfl, _, rfl, p1, _, rfl, .inr (seqT_keep g1 s2), fun c nc => ?_⟩
          have sc := same_upd (o := HO.lst z) nc
          refine ⟨tl, c, _, _, rfl, rfl, sc _ _ hL, upd_same, Nat.le_of_lt (small1000 (by rw [List.length_append, List.length_append]; omega)), fun d nd => ?_⟩
          refine ⟨_, _, _, _, d, rfl, (s2.trans sc).trans (same_upd nd), ?_⟩
          rw [upd_same, take_cat e2, List.append_assoc _ _ z]
        · obtain ⟨v4, v5, v6, v7, tl, rfl, s2, hL⟩ := hp
          have el : (q.pairs.map fun u => [u.1, u.2]).take ws.length = q.pairs.map fun u => [u.1, u.2] := by
            rw [← lf]
            exact List.take_of_length_le (Nat.le_refl _)
          rw [el] at hL
          have hL : G tl = some (.lst q.all) := hL
          refine ⟨_, rfl, ?_⟩
          refine lcF q.all noStr lq (wi_seq (fun R h => ⟨_, rfl, h⟩) (.inl (SqL.of hL))) (by intro _; rfl) (by intro _; rfl) (fun n v G2 R ev s3 hR => ?_) (fun D G2 s3 nD hD => ?_)
          · have mv : v ∈ (qs.map Qn.all).flatten := List.mem_flatten.mpr ⟨q.all, List.mem_map.mpr ⟨q, mq, rfl⟩, List.mem_of_getElem? ev⟩
            obtain ⟨t, ty⟩ := ty_flat (K := K) (H := G2) (term_flat (kind v mv))
            refine ⟨_, rfl, v, .ty "str", _, _, _, rfl, .ty _, .base ty, kit_str ty, _, rfl, ?_⟩
            have e : strish v = strV v := by cases v <;> rfl
            rw [e]
            exact hR
          · have s13 := s2.trans s3
            refine ⟨vl, D, _, _, rfl, rfl, s13 _ _ hV, hD, ?_, fun d nd => ?_⟩
            · have z1 := List.length_filter_le noStr ((qs.map Qn.all).take i).flatten
              have z2 := List.length_filter_le noStr q.all
              exact Nat.le_of_lt (small1000 (by omega))
            · refine ⟨_, _, _, _, _, _, d, rfl, (s1.trans s13).trans (same_upd nd), ?_⟩
              rw [upd_same, take_cat ez, List.filter_append]
    · obtain ⟨v2, v3, v4, v5, v6, v7, vl, rfl, s1, hV⟩ := hp
      rw [← lm, List.take_length, ints_filter kind] at hV
      have lv : (intsV (qs.map Qn.all).flatten).length ≤ 1000 := Nat.le_trans (List.length_filterMap_le ..) few1
      refine ⟨_, rfl, vl, _, rfl, SqL.of hV, lv, fun p c np lc => ?_⟩
      have sp := same_upd (o := SetO w p (fun j => decide (j ∈ intsV (qs.map Qn.all).flatten)) c) np
      refine ⟨p, _, c, rfl, upd_same, fun ns nd m => few64 ns nd fun k mk => mem_ints.mp (of_decide_eq_true (m k mk)), fun ns l pw mem nl => ?_⟩
      exact k ns l _ ⟨pw, fun j => by rw [mem, decide_eq_true_eq, mem_ints]⟩ ((s1.trans sp).trans (same_upd nl)) upd_same
end
end My
set_option Elab.async false
set_option linter.all false
set_option maxRecDepth 100000
set_option maxHeartbeats 4000000
namespace My
open PySem PySem.Spec PyProof.Rows L2
/-! ### repr of things with lists and the dict -/
/-- where the modules' dict lies, no list lies -/
def SysOk (K : PySem.W.Frag) : Prop := ∃ o, K.lookup sysModules = some o ∧ o.cls = .type "dict"
section
variable {X : Cx} {pins : List (Addr × Obj)} {σ : L2.St} {H : Hp} {s : Shared}
mutual
theorem dq_reads (I : Inv X pins σ H s) (sys : SysOk X.K) : ∀ (d : PyData) (v : V) (u : Value), Dq H v d → RelV v u → ∃ as, Reads s.heap u d as ∧ sysModules ∉ as
  | .none, _, _, h, r => by
    cases h
    cases r
    exact ⟨_, Reads.none, fun z => nomatch z⟩
  | .bool b, _, _, h, r => by
    cases h
    cases r
    exact ⟨_, Reads.bool b, fun z => nomatch z⟩
  | .int i, _, _, h, r => by
    cases h
    obtain ⟨t, rfl⟩ := r
    exact ⟨_, Reads.int i t, fun z => nomatch z⟩
  | .str x, _, _, h, r => by
    cases h
    obtain ⟨t, rfl⟩ := r
    exact ⟨_, Reads.str x t, fun z => nomatch z⟩
  | .list ds, _, _, h, r => by
    cases h with
    | lst hs ha =>
      cases r
      obtain ⟨its, rv, ⟨o, n, ho, hc, _, hd⟩, _⟩ := I.list (SqL.of hs)
      obtain ⟨as, hr, no⟩ := dqAll_reads I sys ds _ its ha rv
      refine ⟨_, Reads.list ho hc hd hr, fun z => ?_⟩
      rcases List.mem_cons.mp z with z | z
      · obtain ⟨o', lk, ec⟩ := sys
        have e := I.kIn _ _ lk
        rw [z, ho] at e
        cases e
        rw [hc] at ec
        exact absurd (show "list" = "dict" from by injection ec) (by decide)
      · exact no z
  | .tuple ds, _, _, h, r => by
    cases h with
    | tup hs ha =>
      cases r
      obtain ⟨its, rv, ⟨o, ho, hc, n, hd⟩, _⟩ := I.tuple (SqT.of hs)
      obtain ⟨as, hr, no⟩ := dqAll_reads I sys ds _ its ha rv
      exact ⟨_, Reads.tuple ho hc hd hr, no⟩
  | .dict es, _, _, h, r => by
    cases h with
    | dct ha =>
      cases r
      obtain ⟨_, hsm, vs, kv, o, en, ep, ho, hx, hd, _, pr, _⟩ := dk_of I.hok ha
      have hsm := beq_eq_false_iff_ne.mp hsm
      cases kv with
      | cons k1 k2 =>
      cases k2
      obtain ⟨e1, t2, e2⟩ := k1
      generalize hes : en.toList = el at pr
      cases pr with
      | cons h1 h2 h3 =>
      cases h3
      rcases keyIs_shape h1 with ⟨i, t, z1, z2⟩ | ⟨x, t, z1, _⟩
      · have z1 : Sum.inl 0 = Sum.inl i := e1.trans z1
        cases Sum.inl.inj z1
        rw [e2] at h2
        refine ⟨_, Reads.dict (as := []) (bs := []) ho hx.1 hd ?_ ?_, fun z => ?_⟩
        · rw [hes]
          show ReadsAll s.heap [_] [.int 0] _
          dsimp only
          rw [z2]
          exact .cons (.int 0 t) .nil
        · rw [hes]
          show ReadsAll s.heap [_] [.int 1] _
          dsimp only
          rw [h2]
          exact .cons (.int 1 t2) .nil
        · rcases List.mem_cons.mp z with z | z
          · exact hsm z.symm
          · cases z
      · have z3 := e1.trans z1; cases z3
theorem dqAll_reads (I : Inv X pins σ H s) (sys : SysOk X.K) : ∀ (ds : List PyData) (vs : List V) (us : List Value), DqAll H vs ds → Vals vs us → ∃ as, ReadsAll s.heap us ds as ∧ sysModules ∉ as
  | [], _, _, h, r => by
    cases h
    cases r
    exact ⟨_, ReadsAll.nil, fun z => nomatch z⟩
  | d :: ds, _, _, h, r => by
    cases h with
    | cons h1 h2 =>
      cases r with
      | cons r1 r2 =>
        obtain ⟨as, q1, n1⟩ := dq_reads I sys d _ _ h1 r1
        obtain ⟨bs, q2, n2⟩ := dqAll_reads I sys ds _ _ h2 r2
        exact ⟨_, ReadsAll.cons q1 q2, fun z => (List.mem_append.mp z).elim n1 n2⟩
end
end
/-- repr of a thing, where no repr is under way -/
def rReprQ : List V → Hp → VK → Prop := fun xs H Q => ∃ (v : V) (d : PyData), xs = [v] ∧ Dq H v d ∧ d.showable = true ∧ d.depth ≤ 100 ∧ d.shown.length ≤ sizeLine ∧ Q (.str d.shown) H
theorem call_reprQ {X : Cx} (hg : X.A.guards = some []) (hu : X.A.units + 150 < cLine) (sys : SysOk X.K) : CallR X (.builtin "repr") rReprQ := by
  intro pins s σ H xs us Q I r h
  obtain ⟨v, d, rfl, hd, hs, hz, hl, q⟩ := h
  obtain ⟨u, rfl, ru⟩ : ∃ u, us = [u] ∧ RelV v u := by
    cases r with
    | cons r1 r2 =>
      cases r2
      exact ⟨_, rfl, r1⟩
  obtain ⟨as, rd, no⟩ := dq_reads I sys d _ _ hd ru
  have onRef : ∀ a, u = .ref a → wpAny (model X.prog X.w) X.A (call (.builtin "repr") [u]) (EP X pins σ Q) X.xe s := fun a e => by
    subst e
    refine repr_of_reads' rd hs (fun _ => no) hg (by omega) (fun b o e => e) (fun h' t tk k => ?_) hl
    exact ⟨.str d.shown, H, I.kept k, ⟨t, rfl⟩, q⟩
  cases hd with
  | lst _ _ => exact onRef _ ru
  | tup _ _ => exact onRef _ ru
  | dct _ => exact onRef _ ru
  | non =>
    cases ru
    exact PySem.P.repr_of_none ⟨.str "None", H, I.tok _, ⟨_, rfl⟩, q⟩
  | bl b =>
    cases ru
    exact PySem.P.repr_of_bool ⟨.str (if b then "True" else "False"), H, I.tok _, ⟨_, rfl⟩, q⟩
  | int i =>
    obtain ⟨t, rfl⟩ := ru
    exact PySem.P.repr_of_int (of_decide_eq_true hs) ⟨.str (toString i), H, I.tok _, ⟨_, rfl⟩, q⟩
  | str x =>
    obtain ⟨t, rfl⟩ := ru
    exact PySem.P.repr_of_str ⟨.str (reprText x), H, I.tok _, ⟨_, rfl⟩, q⟩ hl
end My
set_option Elab.async false
set_option linter.all false
set_option maxRecDepth 100000
set_option maxHeartbeats 4000000
namespace My
open PySem PySem.Spec PyProof.Rows L2
/-! ### how long a thing's text is -/
mutual
def szD : PyData → Nat
  | .none => 4
  | .bool _ => 5
  | .int _ => 20
  | .str _ => 12
  | .dict _ => 6
  | .list ds => szDs ds + 3
  | .tuple ds => szDs ds + 3
def szDs : List PyData → Nat
  | [] => 0
  | d :: ds => szD d + 2 + szDs ds
end
def wordsD : List Str := ["a", "b", "c", "d", "e", "f", "g", "h", "i", "A", "", "ab", "1", "0", "form", "body", "atom", "table", "width", "term", "head", "unlike", "many", "heads", "union"]
def one01 : List (PyData × PyData) → Bool
  | [(.int 0, .int 1)] => true
  | _ => false
/-! the leaves of what the law draws -/
mutual
def leafD : PyData → Bool
  | .none => true
  | .bool _ => true
  | .int i => decide (i.natAbs < 10 ^ 19)
  | .str s => decide (s ∈ wordsD)
  | .dict es => one01 es
  | .list ds => leafDs ds
  | .tuple ds => leafDs ds
def leafDs : List PyData → Bool
  | [] => true
  | d :: ds => leafD d && leafDs ds
end
theorem words_short : ∀ s ∈ wordsD, (reprText s).length ≤ 12 := by decide +kernel
theorem listText_le : ∀ ts : List Str, (listText ts).length ≤ piled ts + 2
  | [] => by decide +kernel
  | t :: r => by
    have e : (listText (t :: r)).length = (textFrom 0 "[" (t :: r)).length + 1 := by
      unfold listText
      rw [strLen_append]
      rfl
    have e2 : textFrom 0 "[" (t :: r) = textFrom 1 ("[" ++ (if 0 > 0 then ", " else "" : String) ++ t) r := rfl
    rw [e, e2, textFrom_length_pos _ _ _ (by decide), strLen_append, strLen_append, piled_cons]
    have e3 : ((if 0 > 0 then ", " else "" : String) : Str).length = 0 := by decide +kernel
    have e4 : ("[" : Str).length = 1 := by decide +kernel
    omega
theorem tupleText_le (ts : List Str) : (tupleText ts).length ≤ piled ts + 3 := by
  unfold tupleText
  rw [strLen_append, strLen_append]
  have e1 : ("(" : Str).length = 1 := by decide +kernel
  have e2 : ((if ts.length == 1 then ",)" else ")" : String) : Str).length ≤ 2 := by split <;> decide +kernel
  have e3 : (Str.join ", " ts).length ≤ piled ts := by
    by_cases h : ts = []
    · subst h
      decide +kernel
    · have := join_length_add ts h
      omega
  omega
theorem one_is {es : List (PyData × PyData)} (h : one01 es = true) : es = [(.int 0, .int 1)] := by
  unfold one01 at h
  split at h
  · rfl
  · cases h
mutual
theorem shown_le : ∀ d : PyData, leafD d = true → d.shown.length ≤ szD d
  | .none, _ => by decide +kernel
  | .bool b, _ => by cases b <;> decide +kernel
  | .int i, h => by
    rw [leafD] at h
    have e := int_text_length_le10 (k := 19) (by decide) (of_decide_eq_true h)
    rw [PyData.shown, szD]
    have e2 : (Str.ofString (toString i)).length = (toString i).length := PySem.ofString_length _
    omega
  | .str s, h => by
    rw [leafD] at h
    rw [PyData.shown, szD]
    exact words_short s (of_decide_eq_true h)
  | .dict es, h => by
    rw [leafD] at h
    rw [one_is h]
    decide +kernel
  | .list ds, h => by
    rw [leafD] at h
    rw [PyData.shown, szD]
    have := listText_le (PyData.shownAll ds)
    have := shownAll_le ds h
    omega
  | .tuple ds, h => by
    rw [leafD] at h
    rw [PyData.shown, szD]
    have := tupleText_le (PyData.shownAll ds)
    have := shownAll_le ds h
    omega
theorem shownAll_le : ∀ ds : List PyData, leafDs ds = true → piled (PyData.shownAll ds) ≤ szDs ds
  | [], _ => by decide +kernel
  | d :: ds, h => by
    rw [leafDs, Bool.and_eq_true] at h
    rw [PyData.shownAll, szDs, piled_cons]
    have := shown_le d h.1
    have := shownAll_le ds h.2
    omega
end
mutual
theorem leaf_showable : ∀ d : PyData, leafD d = true → d.showable = true
  | .none, _ => rfl
  | .bool b, _ => rfl
  | .int i, h => by
    rw [leafD] at h
    have h := of_decide_eq_true h
    rw [PyData.showable]
    refine decide_eq_true ?_
    have : i.natAbs < 2 ^ 64 := by omega
    by_cases z : i.natAbs = 0
    · rw [z]; decide
    · have := (Nat.log2_lt z (k := 64)).mpr this
      omega
  | .str s, h => rfl
  | .dict es, h => by
    rw [leafD] at h
    rw [one_is h]
    decide +kernel
  | .list ds, h => by
    rw [leafD] at h
    rw [PyData.showable]
    exact leafs_showable ds h
  | .tuple ds, h => by
    rw [leafD] at h
    rw [PyData.showable]
    exact leafs_showable ds h
theorem leafs_showable : ∀ ds : List PyData, leafDs ds = true → PyData.showableAll ds = true
  | [], _ => rfl
  | d :: ds, h => by
    rw [leafDs, Bool.and_eq_true] at h
    rw [PyData.showableAll, leaf_showable d h.1, leafs_showable ds h.2]
    rfl
end
mutual
theorem depth_le : ∀ d : PyData, leafD d = true → d.depth ≤ dep d + 1
  | .none, _ => by decide +kernel
  | .bool b, _ => by cases b <;> decide +kernel
  | .int i, h => Nat.zero_le _
  | .str s, h => Nat.zero_le _
  | .dict es, h => by
    rw [leafD] at h
    rw [one_is h]
    decide +kernel
  | .list ds, h => by
    rw [leafD] at h
    rw [PyData.depth, dep]
    have := depths_le ds h
    omega
  | .tuple ds, h => by
    rw [leafD] at h
    rw [PyData.depth, dep]
    have := depths_le ds h
    omega
theorem depths_le : ∀ ds : List PyData, leafDs ds = true → PyData.depthAll ds ≤ depAll ds + 1
  | [], _ => Nat.zero_le _
  | d :: ds, h => by
    rw [leafDs, Bool.and_eq_true] at h
    rw [PyData.depthAll, depAll]
    have := depth_le d h.1
    have := depths_le ds h.2
    omega
end
end My
set_option Elab.async false
set_option linter.all false
set_option maxRecDepth 100000
set_option maxHeartbeats 4000000
namespace My
open PySem PySem.Spec PyProof.Rows L2

/-! ### a def that is called where no repr is under way -/
structure CalG (P : Program) (w : World) (K : PySem.W.Frag) (mg : Str → Option Value) (base : Heap) (k : Nat) (x : Str) (sp : Sp) : Prop where
  ex : ∃ (f : Addr) (fd : FuncData) (ps : List Str), FnG P w K mg base k f fd ps sp ∧ mg x = some (.ref f) ∧ PySem.W.keepIn K (.ref f) = true ∧ Binds K fd ps []
theorem pe_cG {X : Cx} {k j : Nat} {x : Str} {sp : Sp} {p pos : Pos} {e : Expr} {es : List Expr} {t : TA} (c : CalG X.prog X.w X.K X.mg X.base k x sp) (free : X.A.guards = some []) (hr : Room j X.A) (hk : k ≤ j) (hg : Gl X x) (ha : PA X (e :: es) t)
    (d1 : (x == ("__debug__" : Str)) = false := by decide) (d2 : starEach (e :: es) X.env = (false, eval e X.env) :: starEach es X.env := by rfl) (d3 : (backTo pos (starEach es X.env)).any (·.1) = false := by rfl) :
    PE X (.Call (.Name x p) (e :: es) [] pos) (tCall sp [] E0 t) := by
  obtain ⟨f, fd, ps, F, gx, kp, b⟩ := c.ex
  refine ⟨fun pins s σ H Q I h => ?_⟩
  refine wpAny_Call_Name_kw (ld_glob I hg gx ?_ d1)
  refine PySem.W.callWith_K (h₀ := X.base) I.ok.mod.kin kp (thn (ha.run pos pins s σ H _ I h) fun us s1 ⟨vs, H1, I1, r, q⟩ => ⟨I1.kIn, ?_⟩) d2 d3
  have q : sp (vs ++ []) H1 Q E0 := q
  rw [List.append_nil] at q
  have hl : us.length = ps.length := by rw [← r.length]; exact F.len _ _ _ _ q
  refine wpAny_call (codeAny_mono (F.run X.A X.stack s1 H1 ⟨us, []⟩ us vs Q free (hr.mono hk) I1.env0 (by have z := b s1 us I1.kIn (by rw [List.append_nil]; exact hl); rw [List.append_nil] at z; exact z) r q) fun r s' hq => ?_)
  cases r with
  | error e => exact hq.elim
  | ok fl =>
    cases fl with
    | ret u => exact I1.after hq
    | next => exact False.elim hq
    | brk => exact False.elim hq
    | cont => exact False.elim hq
theorem nodup_le : ∀ (zs : List V) (ns : List Int), ns.Nodup → (∀ k ∈ ns, V.int k ∈ zs) → ns.length ≤ zs.length
  | [], ns, _, h => by
    cases ns with
    | nil => exact Nat.le_refl _
    | cons k r => cases h k (List.mem_cons_self ..)
  | z :: r, ns, nd, h => by
    by_cases hz : ∃ c, z = .int c ∧ c ∈ ns
    · obtain ⟨c, rfl, mc⟩ := hz
      have e := nodup_le r (ns.erase c) (nd.erase c) fun k m => by
        have m' := List.mem_of_mem_erase m
        rcases List.mem_cons.mp (h k m') with z | z
        · have e : k = c := V.int.inj z
          subst e
          exact absurd m (List.Nodup.not_mem_erase nd)
        · exact z
      rw [List.length_erase_of_mem mc] at e
      have := List.length_pos_of_mem mc
      rw [List.length_cons]
      omega
    · have e := nodup_le r ns nd fun k m => by
        rcases List.mem_cons.mp (h k m) with z | z
        · exact absurd ⟨k, z.symm, m⟩ hz
        · exact z
      rw [List.length_cons]
      omega
theorem few_of {zs : List V} (h : zs.length < 64) : Few64 zs := fun ns nd m => Nat.lt_of_le_of_lt (nodup_le zs ns nd m) h
theorem addN_len (l : List Str) (x : V) : (addN l x).length ≤ l.length + 1 := by
  unfold addN
  split
  · split
    · simp
    · omega
  · omega
theorem unlN_len : ∀ xs : List V, (unlN xs).length ≤ xs.length := fun xs => by
  have go : ∀ (xs : List V) (l : List Str), (xs.foldl addN l).length ≤ l.length + xs.length := fun xs => by
    induction xs with
    | nil => intro l; exact Nat.le_refl _
    | cons x r ih =>
      intro l
      have := ih (addN l x)
      have := addN_len l x
      rw [List.foldl_cons, List.length_cons]
      omega
  have := go xs []
  rw [List.length_nil, Nat.zero_add] at this
  exact this
theorem addN_eight {l : List Str} {x : V} (h : ∀ s ∈ l, s ∈ eight) : ∀ s ∈ addN l x, s ∈ eight := by
  intro s m
  unfold addN at m
  split at m
  · rename_i y
    split at m
    · rename_i c
      rcases List.mem_append.mp m with m | m
      · exact h s m
      · rw [List.mem_singleton.mp m]; exact c.1
    · exact h s m
  · exact h s m
theorem unlN_eight : ∀ xs : List V, ∀ s ∈ unlN xs, s ∈ eight := fun xs => by
  have go : ∀ (xs : List V) (l : List Str), (∀ s ∈ l, s ∈ eight) → ∀ s ∈ xs.foldl addN l, s ∈ eight := fun xs => by
    induction xs with
    | nil => intro l h; exact h
    | cons x r ih => intro l h; exact ih _ (addN_eight h)
  exact go xs [] fun s m => nomatch m
theorem eight_words : ∀ s ∈ eight, s ∈ wordsD := by decide +kernel
theorem szDs_le {ds : List PyData} {n : Nat} (h : ∀ d ∈ ds, szD d ≤ n) : szDs ds ≤ (n + 2) * ds.length := by
  induction ds with
  | nil => rw [szDs]; exact Nat.zero_le _
  | cons d r ih =>
    have h1 := h d (List.mem_cons_self ..)
    have h2 := ih fun x m => h x (List.mem_cons_of_mem _ m)
    rw [szDs, List.length_cons, Nat.mul_succ]
    omega
theorem leafDs_of {ds : List PyData} (h : ∀ d ∈ ds, leafD d = true) : leafDs ds = true := by
  induction ds with
  | nil => rw [leafDs]
  | cons d r ih =>
    rw [leafDs, h d (List.mem_cons_self ..), ih fun x m => h x (List.mem_cons_of_mem _ m)]
    rfl
theorem leafDs_mem {ds : List PyData} {d : PyData} (h : leafDs ds = true) (m : d ∈ ds) : leafD d = true := by
  induction ds with
  | nil => cases m
  | cons e r ih =>
    rw [leafDs, Bool.and_eq_true] at h
    rcases List.mem_cons.mp m with z | z
    · rw [z]; exact h.1
    · exact ih h.2 z
theorem dqAll_strs {H : Hp} : ∀ {l : List Str}, DqAll H (l.map V.str) (l.map PyData.str)
  | [] => .nil
  | s :: r => .cons (.str s) dqAll_strs
/-- two ascending lists of the same whole numbers are one -/
theorem asc_eq : ∀ {xs ys : List Int}, xs.Pairwise (· < ·) → ys.Pairwise (· < ·) → (∀ k, k ∈ xs ↔ k ∈ ys) → xs = ys
  | [], [], _, _, _ => rfl
  | [], y :: ys, _, _, h => by cases (h y).mpr (List.mem_cons_self ..)
  | x :: xs, [], _, _, h => by cases (h x).mp (List.mem_cons_self ..)
  | x :: xs, y :: ys, hx, hy, h => by
    obtain ⟨x1, x2⟩ := List.pairwise_cons.mp hx
    obtain ⟨y1, y2⟩ := List.pairwise_cons.mp hy
    have e : x = y := by
      rcases List.mem_cons.mp ((h x).mp (List.mem_cons_self ..)) with z | z
      · exact z
      · rcases List.mem_cons.mp ((h y).mpr (List.mem_cons_self ..)) with u | u
        · exact u.symm
        · have a := y1 x z
          have b := x1 y u
          omega
    subst e
    congr 1
    refine asc_eq x2 y2 fun k => ?_
    constructor
    · intro m
      rcases List.mem_cons.mp ((h k).mp (List.mem_cons_of_mem _ m)) with z | z
      · have := x1 k m
        omega
      · exact z
    · intro m
      rcases List.mem_cons.mp ((h k).mpr (List.mem_cons_of_mem _ m)) with z | z
      · have := y1 k m
        omega
      · exact z
theorem values_one {zs : List V} {ns ms : List Int} (h : Values zs ns) (g : Values zs ms) : ns = ms := asc_eq h.1 g.1 fun k => by rw [h.2, g.2]
theorem values_len {zs : List V} {ns : List Int} (h : Values zs ns) (few : Few64 zs) : ns.length < 64 := few ns (h.1.imp fun h e => by rw [e] at h; exact absurd h (Int.lt_irrefl _)) fun k m => (h.2 k).mp m
end My
set_option Elab.async false
set_option linter.all false
set_option maxRecDepth 100000
set_option maxHeartbeats 4000000
namespace My
open PySem PySem.Spec PyProof.Rows L2

def spSame (K : PySem.W.Frag) : Sp := fun vs H Q _ => ∃ (p : Addr) (q : Qn), vs = [.ref p] ∧ QnAt K H p q ∧ q.Ok ∧ q.all.length ≤ 43 ∧ (∀ v ∈ q.all, TermV v) ∧ ∀ H', Same H H' → Q (.bl true) H'
theorem term_names {v : V} (h : TermV v) : flatV v = true ∧ (strV v = true → nameV v = true) := by
  refine ⟨term_flat h, fun z => ?_⟩
  rcases h with ⟨c, rfl, _⟩ | h
  · cases z
  · exact h
section
variable {P : Program} {w : World} {K : PySem.W.Frag} {mg : Str → Option Value} {base : Heap}
theorem sc__law_same_parts : FnScope ["_law_due", "_law_names_here", "_law_values"] ["_law_due"] (defScope (topS 68)) := ⟨rfl, rfl, rfl, by decide +kernel, rfl, by decide +kernel, by decide +kernel⟩
theorem ok__law_same_parts {f : Addr} {fd : FuncData} (F : L2.Fun K "_law_same_parts" "_law_same_parts" (topS 68) f fd) (sys : SysOk K) (cN : Cal P w K mg base 3 "names_of" (spNames K)) (cQ : Cal P w K mg base 3 "question_values" (spQVals K)) (cL : Cal P w K mg base 2 "_law_names" (spLNames K)) (cU : Cal P w K mg base 1 "_law_union_values" (spLUVals K)) (m_tuple : mg "tuple" = none) (m_repr : mg "repr" = none) : FnG P w K mg base 4 f fd ["_law_due"] (spSame K) := by
  refine fnG_of F sc__law_same_parts (fun vs H Q E h => ?_) (fun cdv A outer s0 H vs Q free hr h => ?_)
  · obtain ⟨p, q, rfl, _⟩ := h
    rfl
  · obtain ⟨p, q, rfl, hq, ok, n43, kind, k⟩ := h
    refine ⟨_, (pss_cons (ps_set (i := 1) sc__law_same_parts.nd rfl (.inl rfl) (pe_callTy call_tuple_of (by rfl) m_tuple (by decide +kernel) (pa_cons (pe_c cL hr (by decide) rfl (pa_cons (pv 0) pa_nil)) pa_nil)))
      (pss_cons (ps_set (i := 2) sc__law_same_parts.nd rfl (.inl rfl) (pe_callTy call_tuple_of (by rfl) m_tuple (by decide +kernel) (pa_cons (pe_c cU hr (by decide) rfl (pa_cons (pe_tup (pa_cons (pv 0) pa_nil)) pa_nil)) pa_nil)))
      (pss_one (ps_ret (pe_and (pe_cmpR op_eq (pe_callB (call_reprQ free (by have := hr.un; show (A.deeper _).units + 150 < _; omega) sys) (by rfl) m_repr (by decide +kernel) (pa_cons (pe_c cN hr (by decide) rfl (pa_cons (pv 0) pa_nil)) pa_nil)) (pe_callB (call_reprQ free (by have := hr.un; show (A.deeper _).units + 150 < _; omega) sys) (by rfl) m_repr (by decide +kernel) (pa_cons (pv 1) pa_nil)) (nomark _)) (pe_one (pe_cmpR op_eq (pe_callB (call_reprQ free (by have := hr.un; show (A.deeper _).units + 150 < _; omega) sys) (by rfl) m_repr (by decide +kernel) (pa_cons (pe_c cQ hr (by decide) rfl (pa_cons (pv 0) pa_nil)) pa_nil)) (pe_callB (call_reprQ free (by have := hr.un; show (A.deeper _).units + 150 < _; omega) sys) (by rfl) m_repr (by decide +kernel) (pa_cons (pv 2) pa_nil)) (nomark _)))))))), ?_⟩
    obtain ⟨h0, b, u, bs, us, h1, h2, h3, h4, h5, h6⟩ := hq.ex
    have few64 : Few64 q.all := few_of (by omega)
    have ht : Terms (q.body.map (·.2)).flatten := by
      refine ⟨ok.b, fun v m => term_names (kind v ?_)⟩
      unfold Qn.all
      exact List.mem_append_left _ (List.mem_append_right _ m)
    have hz : Paired (AtomQ K H) bs (q.body.map (·.2)) := by
      have go : ∀ {xs : List V} {l : List (Int × List V)}, Paired (AtomAt K H) xs l → Paired (AtomQ K H) xs (l.map (·.2)) := by
        intro xs l hp
        induction hp with
        | nil => exact .nil
        | cons h _ ih => exact .cons h.q ih
      exact go h4
    -- the law's names
    refine ⟨_, rfl, p, b, _, _, bs, _, rfl, .inr h1, .inr h3, hz, ht, fun r H1 s1 nr hr1 => ?_⟩
    refine ⟨r, _, rfl, .inl ⟨SqL.of hr1, fun t nt => ?_⟩⟩
    have st := same_upd (o := HO.tup ((unlN (q.body.map (·.2)).flatten).map V.str)) nt
    have ht1 : (upd H1 t (.tup ((unlN (q.body.map (·.2)).flatten).map V.str))) t = some (.tup ((unlN (q.body.map (·.2)).flatten).map V.str)) := upd_same
    generalize upd H1 t (.tup ((unlN (q.body.map (·.2)).flatten).map V.str)) = H2 at st ht1 ⊢
    have s2 := s1.trans st
    -- the law's values
    refine ⟨_, rfl, Nat.le_of_lt (small1000 (by show 1 ≤ 1000; omega)), fun w nw => ?_⟩
    have sw := same_upd (o := HO.tup [V.ref p]) nw
    have hw : (upd H2 w (.tup [V.ref p])) w = some (.tup [V.ref p]) := upd_same
    generalize upd H2 w (.tup [V.ref p]) = H3 at sw hw ⊢
    have s3 := s2.trans sw
    have one : ([q].map Qn.all).flatten = q.all := by simp
    refine ⟨w, [.ref p], [q], rfl, SqT.of hw, .cons ⟨p, rfl, hq.keep s3⟩ .nil, (fun q' m => by rw [List.mem_singleton.mp m]; omega), by rw [one]; omega, by rw [one]; exact few64, by rw [one]; exact kind, fun ns l H4 own s4 hl => ?_⟩
    rw [one] at own
    refine ⟨l, _, rfl, .inl ⟨SqL.of hl, fun t2 nt2 => ?_⟩⟩
    have st2 := same_upd (o := HO.tup (ns.map V.int)) nt2
    have ht2 : (upd H4 t2 (.tup (ns.map V.int))) t2 = some (.tup (ns.map V.int)) := upd_same
    generalize upd H4 t2 (.tup (ns.map V.int)) = H5 at st2 ht2 ⊢
    have s35 := s4.trans st2
    have s5 := s3.trans s35
    have ht15 := (sw.trans s35) _ _ ht1
    -- names
    have nl := unlN_len (q.body.map (·.2)).flatten
    have ob := ok.b
    have leafN : leafD (.tuple ((unlN (q.body.map (·.2)).flatten).map PyData.str)) = true := by
      rw [leafD]
      refine leafDs_of fun d m => ?_
      obtain ⟨s, ms, rfl⟩ := List.mem_map.mp m
      rw [leafD]
      exact decide_eq_true (eight_words s (unlN_eight _ s ms))
    have szN : szD (.tuple ((unlN (q.body.map (·.2)).flatten).map PyData.str)) ≤ 20000 := by
      rw [szD]
      have z := szDs_le (ds := (unlN (q.body.map (·.2)).flatten).map PyData.str) (n := 12) fun d m => by
        obtain ⟨s, ms, rfl⟩ := List.mem_map.mp m
        rw [szD]
        exact Nat.le_refl _
      rw [List.length_map] at z
      omega
    have fit : ∀ {n : Nat}, n ≤ 20000 → n ≤ sizeLine := fun h => by rw [sizeLine_eq]; omega
    have depN : ∀ (ds : List PyData), (∀ d ∈ ds, d.depth = 0) → (PyData.tuple ds).depth ≤ 100 := fun ds h => by
      rw [PyData.depth]
      have : PyData.depthAll ds = 0 := by
        induction ds with
        | nil => rfl
        | cons d r ih =>
          rw [PyData.depthAll, h d (List.mem_cons_self ..), ih fun x m => h x (List.mem_cons_of_mem _ m)]
          rfl
      omega
    have dN : (PyData.tuple ((unlN (q.body.map (·.2)).flatten).map PyData.str)).depth ≤ 100 := depN _ fun d m => by
      obtain ⟨s, _, rfl⟩ := List.mem_map.mp m
      rfl
    have rdN : ∀ (J : Hp) (a : Addr) (R : VK), J a = some (.tup ((unlN (q.body.map (·.2)).flatten).map V.str)) → R (.str (PyData.tuple ((unlN (q.body.map (·.2)).flatten).map PyData.str)).shown) J → rReprQ [.ref a] J R := fun J a R ha hR =>
      ⟨_, _, rfl, .tup ha dqAll_strs, leaf_showable _ leafN, dN, fit (Nat.le_trans (shown_le _ leafN) szN), hR⟩
    have nl64 := values_len own few64
    have inR : ∀ k ∈ ns, k.natAbs < 10 ^ 19 := fun k m => by
      rcases kind _ ((own.2 k).mp m) with ⟨c, e, c0, c1⟩ | z
      · have e := V.int.inj e
        omega
      · cases z
    have leafI : leafD (.tuple (ns.map PyData.int)) = true := by
      rw [leafD]
      refine leafDs_of fun d m => ?_
      obtain ⟨s, ms, rfl⟩ := List.mem_map.mp m
      rw [leafD]
      exact decide_eq_true (inR s ms)
    have szI : szD (.tuple (ns.map PyData.int)) ≤ 20000 := by
      rw [szD]
      have z := szDs_le (ds := ns.map PyData.int) (n := 20) fun d m => by
        obtain ⟨s, ms, rfl⟩ := List.mem_map.mp m
        rw [szD]
        exact Nat.le_refl _
      rw [List.length_map] at z
      omega
    have dI : (PyData.tuple (ns.map PyData.int)).depth ≤ 100 := depN _ fun d m => by
      obtain ⟨s, _, rfl⟩ := List.mem_map.mp m
      rfl
    have rdI : ∀ (J : Hp) (a : Addr) (R : VK), J a = some (.tup (ns.map V.int)) → R (.str (PyData.tuple (ns.map PyData.int)).shown) J → rReprQ [.ref a] J R := fun J a R ha hR =>
      ⟨_, _, rfl, .tup ha dqAll_ints, leaf_showable _ leafI, dI, fit (Nat.le_trans (shown_le _ leafI) szI), hR⟩
    refine ⟨_, rfl, p, q, rfl, hq.keep s5, ok, fun a H6 s6 ha => ?_⟩
    dsimp only [tNil, tCons, tCB]
    refine rdN H6 a _ ha ?_
    refine ⟨_, rfl, ?_⟩
    refine rdN H6 t _ (s6 _ _ ht15) ?_
    refine ⟨rfl, _, rfl, ?_⟩
    rw [decide_eq_true rfl]
    refine iteT ⟨_, rfl, p, q, rfl, hq.keep (s5.trans s6), by omega, few64, kind, fun ms a2 H7 own2 s7 ha2 => ?_⟩
    have e := values_one own2 own
    subst e
    dsimp only [tNil, tCons, tCB]
    refine rdI H7 a2 _ ha2 ?_
    refine ⟨_, rfl, ?_⟩
    refine rdI H7 t2 _ ((s6.trans s7) _ _ ht2) ?_
    refine ⟨rfl, ?_⟩
    rw [decide_eq_true rfl]
    exact k H7 ((s5.trans s6).trans s7)
end
end My
set_option Elab.async false
set_option linter.all false
set_option maxRecDepth 100000
set_option maxHeartbeats 4000000
namespace My
open PySem PySem.Spec PyProof.Rows L2

/-! ### what the law draws -/
/-- what is drawn is a datum with R, among the data -/
def Drawn (a c : Addr) (H G : Hp) (R : PyData → Prop) (Q : VK) : Prop := ∀ (v : V) (d : PyData) (H' G' : Hp), Hand MO H' a c → Ext a H G H' G' → Dq G' v d → R d → Q v H'
theorem rd_take {a c : Addr} {H G Hn Gn : Hp} {m : Int} {Q : VK} {E : XK} (h : Hand MO Hn a c) (x : Ext a H G Hn Gn) (m0 : 0 < m) (m8 : m < 2 ^ 64) (q : ∀ (v : Int) (H' : Hp), 0 ≤ v → v < m → Hand MO H' a c → Ext a H G H' Gn → (∀ b o, b ≠ a → Hn b = some o → H' b = some o) → Q (.int v) H') : spDraw MO [.ref a, .int m] Hn Q E :=
  ⟨a, c, m, rfl, h, m0, lt8000 (by omega), fun v l v0 v1 h' => q v _ v0 v1 h' x.draw fun b o n e => by rw [upd_ne n]; exact e⟩
/-- take(hand, m) as the terms have it -/
theorem tk {a c : Addr} {H G Hn Gn : Hp} {m : Int} {Q : VK} {σ : L2.St} {i : Nat} {tb : TE} (h : Hand MO Hn a c) (x : Ext a H G Hn Gn) (hv : σ[i]? = some (some (.ref a))) (hb : ∀ R : VK, R (.int m) Hn → tb σ Hn R) (m0 : 0 < m) (m8 : m < 2 ^ 64)
    (q : ∀ (v : Int) (H' : Hp), 0 ≤ v → v < m → Hand MO H' a c → Ext a H G H' Gn → (∀ b o, b ≠ a → Hn b = some o → H' b = some o) → Q (.int v) H') : tCall (spDraw MO) [] E0 (tCons (tVar i) (tCons tb tNil)) σ Hn Q :=
  ⟨_, hv, hb _ (rd_take (E := fun _ _ _ => False) h x m0 m8 q)⟩
/-- the hand itself is none of the data and stays, when something is made -/
theorem hand_keep {a c p : Addr} {H : Hp} {o : HO} (h : Hand MO H a c) (n : H p = none) : Hand MO (upd H p o) a c := by
  obtain ⟨cs, l, e, e2, r⟩ := h.ex
  exact h.keep (same_upd n)
theorem hand_some {a c : Addr} {H : Hp} (h : Hand MO H a c) : H a ≠ none := by
  obtain ⟨cs, l, e, _⟩ := h.ex
  rw [e]
  intro z
  cases z
section
variable {P : Program} {w : World} {K : PySem.W.Frag} {mg : Str → Option Value} {base : Heap}
/-- a value -/
def spAny (K : PySem.W.Frag) : Sp := fun vs H Q _ => ∃ (a c : Addr) (G : Hp), vs = [.ref a] ∧ Hand MO H a c ∧ Same G H ∧ G a = none ∧ Drawn a c H G (fun d => ∃ i : Int, d = .int i ∧ 0 ≤ i ∧ i ≤ 1000000000) Q
theorem sc__law_any_value : FnScope ["_law_hand_here", "_law_kind"] ["_law_hand_here"] (defScope (topS 57)) := ⟨rfl, rfl, rfl, by decide +kernel, rfl, by decide +kernel, by decide +kernel⟩
theorem ok__law_any_value {f : Addr} {fd : FuncData} (F : L2.Fun K "_law_any_value" "_law_any_value" (topS 57) f fd) (cT : Cal P w K mg base 2 "_law_take" (spDraw MO)) : FnOk P w K mg base CX0 3 f fd ["_law_hand_here"] (spAny K) := by
  refine F.ok sc__law_any_value (fun vs H Q E h => ?_) (fun cdv A outer s0 H vs Q E hr h => ?_)
  · obtain ⟨a, c, G, rfl, _⟩ := h
    rfl
  · obtain ⟨a, c, G, rfl, hh, sG, nG, k⟩ := h
    refine ⟨_, (pss_cons (ps_set (i := 1) sc__law_any_value.nd rfl (.inl rfl) (pe_c cT hr (by decide) rfl (pa_cons (pv 0) (pa_cons pe_int pa_nil))))
      (pss_cons (ps_if (pt_cmpR op_lt (pv 1) pe_int (nomark _)) (pss_one (ps_ret (pe_ix ix_tup (pe_tup (pa_cons pe_int (pa_cons (pe_op op_pow pe_int pe_int) pa_nil))) (pv 1) (fun _ _ => rfl)))) pss_nil)
      (pss_one (ps_ret (pe_ifExp (pt_cmpR op_eq (pv 1) pe_int (nomark _)) (pe_c cT hr (by decide) rfl (pa_cons (pv 0) (pa_cons (pe_op op_add (pe_op op_pow pe_int pe_int) pe_int) pa_nil))) (pe_c cT hr (by decide) rfl (pa_cons (pv 0) (pa_cons pe_int pa_nil)))))))), ?_⟩
    have x0 := Ext.refl (hand_some hh) sG nG
    dsimp only [tSeq, tAsg]
    refine tk hh x0 rfl (fun R h => h) (by omega) (by omega) fun v H1 v0 v1 h1 x1 sx1 => ?_
    refine ⟨_, rfl, _, _, rfl, rfl, _, rfl, ite2 (fun z => ?_) (fun z => ?_)⟩
    · have z := of_decide_eq_true z
      refine ⟨_, _, rfl, rfl, ⟨by decide, by decide, by decide⟩, Nat.le_of_lt (small1000 (by show 2 ≤ 1000; omega)), fun p np => ?_⟩
      refine ⟨_, rfl, p, _, v, if v = 0 then .int 0 else .int 1000000000, rfl, rfl, SqT.of upd_same, ?_, ?_⟩
      · have e : v = 0 ∨ v = 1 := by omega
        rcases e with rfl | rfl
        · rfl
        · rfl
      · by_cases e : v = 0
        · rw [if_pos e]
          exact k _ (.int 0) _ _ (hand_keep h1 np) (x1.mk0 np) (.int 0) ⟨0, rfl, by omega, by omega⟩
        · rw [if_neg e]
          exact k _ (.int 1000000000) _ _ (hand_keep h1 np) (x1.mk0 np) (.int _) ⟨_, rfl, by omega, by omega⟩
    · refine ⟨_, rfl, rfl, _, rfl, ?_⟩
      have e9 : (10 : Int) ^ (9 : Int).toNat = 1000000000 := by decide
      refine ite2 (fun z2 => ?_) (fun z2 => ?_)
      · refine tk h1 x1 rfl (fun R h => ⟨_, _, rfl, rfl, ⟨by decide, by decide, by decide⟩, _, _, rfl, rfl, h⟩) (by rw [e9]; omega) (by rw [e9]; omega) fun u H2 u0 u1 h2 x2 sx2 => ?_
        rw [e9] at u1
        exact k _ (.int u) _ _ h2 x2 (.int u) ⟨u, rfl, u0, by omega⟩
      · refine tk h1 x1 rfl (fun R h => h) (by omega) (by omega) fun u H2 u0 u1 h2 x2 sx2 => ?_
        exact k _ (.int u) _ _ h2 x2 (.int u) ⟨u, rfl, u0, by omega⟩
/-- what is no value and no name -/
def NoVal (d : PyData) : Prop := leafD d = true ∧ fewD d = true ∧ dep d ≤ 1 ∧ szD d ≤ 30 ∧ termD d = false ∧ (∀ e ∈ itemsD d, e = .int 0)
def spNoVal (K : PySem.W.Frag) : Sp := fun vs H Q _ => ∃ (a c : Addr) (G : Hp), vs = [.ref a] ∧ Hand MO H a c ∧ Same G H ∧ G a = none ∧ Drawn a c H G NoVal Q
theorem sc__law_no_value : FnScope ["_law_hand_here"] ["_law_hand_here"] (defScope (topS 58)) := ⟨rfl, rfl, rfl, by decide +kernel, rfl, by decide +kernel, by decide +kernel⟩
theorem ok__law_no_value {f : Addr} {fd : FuncData} (F : L2.Fun K "_law_no_value" "_law_no_value" (topS 58) f fd) (cT : Cal P w K mg base 2 "_law_take" (spDraw MO)) : FnOk P w K mg base CX0 3 f fd ["_law_hand_here"] (spNoVal K) := by
  refine F.ok sc__law_no_value (fun vs H Q E h => ?_) (fun cdv A outer s0 H vs Q E hr h => ?_)
  · obtain ⟨a, c, G, rfl, _⟩ := h
    rfl
  · obtain ⟨a, c, G, rfl, hh, sG, nG, k⟩ := h
    refine ⟨_, (pss_one (ps_ret (pe_ix ix_tup (pe_tup (pa_cons (pe_un un_neg pe_int) (pa_cons (pe_op op_add (pe_op op_pow pe_int pe_int) pe_int) (pa_cons pe_bl (pa_cons pe_bl (pa_cons pe_non (pa_cons pe_str (pa_cons pe_str (pa_cons pe_str (pa_cons pe_str (pa_cons (pe_tup (pa_cons pe_int pa_nil)) (pa_cons (pe_lst pa_nil) (pa_cons (pe_op op_sub (pe_un un_neg pe_int) (pe_c cT hr (by decide) rfl (pa_cons (pv 0) (pa_cons (pe_op op_pow pe_int pe_int) pa_nil)))) (pa_cons (pe_op op_add (pe_op op_add (pe_op op_pow pe_int pe_int) pe_int) (pe_c cT hr (by decide) rfl (pa_cons (pv 0) (pa_cons (pe_op op_pow pe_int pe_int) pa_nil)))) pa_nil)))))))))))))) (pe_c cT hr (by decide) rfl (pa_cons (pv 0) (pa_cons pe_int pa_nil))) (fun _ _ => rfl)))), ?_⟩
    have x0 := Ext.refl (hand_some hh) sG nG
    dsimp only [tRet]
    have few : ∀ {n : Nat}, n ≤ 1000 → n ≤ sizeLine := fun h => Nat.le_of_lt (small1000 h)
    have e9 : (10 : Int) ^ (9 : Int).toNat = 1000000000 := by decide
    have e15 : (10 : Int) ^ (15 : Int).toNat = 1000000000000000 := by decide
    refine ⟨_, rfl, _, _, rfl, rfl, ⟨by decide, by decide, by decide⟩, _, _, rfl, rfl, few (by show 1 ≤ 1000; omega), fun t nt => ?_⟩
    have x1 := x0.mk_ (o := HO.tup [V.int 0]) nt
    have h1 := hand_keep (o := HO.tup [V.int 0]) hh nt
    have g1 : (upd G t (.tup [V.int 0])) t = some (.tup [V.int 0]) := upd_same
    generalize upd H t (.tup [V.int 0]) = H1 at x1 h1 ⊢
    generalize upd G t (.tup [V.int 0]) = G1 at x1 g1
    refine ⟨few (Nat.zero_le _), fun l nl => ?_⟩
    have x2 := x1.mk_ (o := HO.lst []) nl
    have h2 := hand_keep (o := HO.lst []) h1 nl
    have g2 : (upd G1 l (.lst [])) l = some (.lst []) := upd_same
    have g2t : (upd G1 l (.lst [])) t = some (.tup [V.int 0]) := by
      rw [upd_ne (ne_of_none (x1.sub _ _ g1) nl)]
      exact g1
    generalize upd H1 l (.lst []) = H2 at x2 h2 ⊢
    generalize upd G1 l (.lst []) = G2 at x2 g2 g2t
    refine ⟨_, rfl, ?_⟩
    refine tk h2 x2 rfl (fun R h => ⟨_, _, rfl, rfl, ⟨by decide, by decide, by decide⟩, h⟩) (by rw [e15]; omega) (by rw [e15]; omega) fun u H3 u0 u1 h3 x3 sx3 => ?_
    rw [e15] at u1
    refine ⟨_, _, rfl, rfl, _, _, rfl, rfl, ⟨by decide, by decide, by decide⟩, _, _, rfl, rfl, ?_⟩
    refine tk h3 x3 rfl (fun R h => ⟨_, _, rfl, rfl, ⟨by decide, by decide, by decide⟩, h⟩) (by rw [e15]; omega) (by rw [e15]; omega) fun w H4 w0 w1 h4 x4 sx4 => ?_
    rw [e15] at w1
    refine ⟨_, _, rfl, rfl, few (by show 13 ≤ 1000; omega), fun p np => ?_⟩
    rw [e9]
    have x5 := x4.mk0 (o := HO.tup [V.int (-1), V.int (1000000000 + 1), V.bl true, V.bl false, V.non, V.str "1", V.str "i", V.str "ab", V.str "", V.ref t, V.ref l, V.int (-1 - u), V.int (1000000000 + 1 + w)]) np
    have h5 := hand_keep (o := HO.tup [V.int (-1), V.int (1000000000 + 1), V.bl true, V.bl false, V.non, V.str "1", V.str "i", V.str "ab", V.str "", V.ref t, V.ref l, V.int (-1 - u), V.int (1000000000 + 1 + w)]) h4 np
    refine tk h5 x5 rfl (fun R h => h) (by omega) (by omega) fun v H6 v0 v1 h6 x6 sx6 => ?_
    have all : DqAll G2 [V.int (-1), V.int (1000000000 + 1), V.bl true, V.bl false, V.non, V.str "1", V.str "i", V.str "ab", V.str "", V.ref t, V.ref l, V.int (-1 - u), V.int (1000000000 + 1 + w)] [.int (-1), .int (1000000000 + 1), .bool true, .bool false, .none, .str "1", .str "i", .str "ab", .str "", .tuple [.int 0], .list [], .int (-1 - u), .int (1000000000 + 1 + w)] :=
      .cons (.int _) (.cons (.int _) (.cons (.bl _) (.cons (.bl _) (.cons .non (.cons (.str _) (.cons (.str _) (.cons (.str _) (.cons (.str _) (.cons (.tup g2t (.cons (.int _) .nil)) (.cons (.lst g2 .nil) (.cons (.int _) (.cons (.int _) .nil))))))))))))
    have nov : ∀ d ∈ ([.int (-1), .int (1000000000 + 1), .bool true, .bool false, .none, .str "1", .str "i", .str "ab", .str "", .tuple [.int 0], .list [], .int (-1 - u), .int (1000000000 + 1 + w)] : List PyData), NoVal d := by
      have num : ∀ i : Int, (i < 0 ∨ 1000000000 < i) → i.natAbs < 10 ^ 19 → NoVal (.int i) := fun i h hn => by
        refine ⟨by rw [leafD]; exact decide_eq_true hn, by rw [fewD], by rw [dep]; omega, by rw [szD]; omega, ?_, fun e m => nomatch m⟩
        show (false || (decide (0 ≤ i) && decide (i ≤ 1000000000))) = false
        rw [Bool.false_or, Bool.and_eq_false_iff]
        rcases h with h | h
        · exact .inl (decide_eq_false (by omega))
        · exact .inr (decide_eq_false (by omega))
      have txt : ∀ s : Str, s ∈ wordsD → decide (s ∈ eight) = false → NoVal (.str s) := fun s h hn => by
        refine ⟨by rw [leafD]; exact decide_eq_true h, by rw [fewD], by rw [dep]; omega, by rw [szD]; omega, ?_, fun e m => nomatch m⟩
        show (decide (s ∈ eight) || false) = false
        rw [hn]
        rfl
      intro d m
      simp only [List.mem_cons, List.not_mem_nil, or_false] at m
      rcases m with rfl | rfl | rfl | rfl | rfl | rfl | rfl | rfl | rfl | rfl | rfl | rfl | rfl
      · exact num _ (.inl (by omega)) (by decide)
      · exact num _ (.inr (by omega)) (by decide)
      · exact ⟨rfl, rfl, Nat.zero_le _, by decide +kernel, rfl, fun e m => nomatch m⟩
      · exact ⟨rfl, rfl, Nat.zero_le _, by decide +kernel, rfl, fun e m => nomatch m⟩
      · exact ⟨rfl, rfl, Nat.zero_le _, by decide +kernel, rfl, fun e m => nomatch m⟩
      · exact txt _ (by decide +kernel) (by decide +kernel)
      · exact txt _ (by decide +kernel) (by decide +kernel)
      · exact txt _ (by decide +kernel) (by decide +kernel)
      · exact txt _ (by decide +kernel) (by decide +kernel)
      · exact ⟨by decide +kernel, by decide +kernel, by decide +kernel, by decide +kernel, rfl, fun e m => List.mem_singleton.mp m⟩
      · exact ⟨by decide +kernel, by decide +kernel, by decide +kernel, by decide +kernel, rfl, fun e m => nomatch m⟩
      · exact num _ (.inl (by omega)) (by omega)
      · exact num _ (.inr (by omega)) (by omega)
    obtain ⟨n, rfl⟩ : ∃ n : Nat, v = (n : Int) := ⟨v.toNat, (Int.toNat_of_nonneg v0).symm⟩
    obtain ⟨x, ex⟩ : ∃ x, [V.int (-1), V.int (1000000000 + 1), V.bl true, V.bl false, V.non, V.str "1", V.str "i", V.str "ab", V.str "", V.ref t, V.ref l, V.int (-1 - u), V.int (1000000000 + 1 + w)][n]? = some x := ⟨_, List.getElem?_eq_getElem (by show n < 13; omega)⟩
    obtain ⟨d, ed, hd⟩ := all.get ex
    have pt : H6 p = some (.tup [V.int (-1), V.int (1000000000 + 1), V.bl true, V.bl false, V.non, V.str "1", V.str "i", V.str "ab", V.str "", V.ref t, V.ref l, V.int (-1 - u), V.int (1000000000 + 1 + w)]) := by
      exact sx6 p _ (fun z => by rw [z] at np; exact hand_some h4 np) upd_same
    exact ⟨p, _, _, _, rfl, rfl, SqT.of pt, atI_nat ex, k x d H6 G2 h6 x6 hd (nov d (List.mem_of_getElem? ed))⟩
end
end My
set_option Elab.async false
set_option linter.all false
set_option maxRecDepth 100000
set_option maxHeartbeats 4000000
namespace My
open PySem PySem.Spec PyProof.Rows L2

theorem hand_upd {a c D : Addr} {H : Hp} {o : HO} (h : Hand MO H a c) (na : D ≠ a) (nc : D ≠ c) : Hand MO (upd H D o) a c := by
  obtain ⟨cs, l, e1, e2, r⟩ := h.ex
  exact ⟨cs, l, by rw [upd_ne (Ne.symm na)]; exact e1, by rw [upd_ne (Ne.symm nc)]; exact e2, r⟩
theorem hand_apart {a c D : Addr} {H : Hp} (h : Hand MO H a c) (n : H D = none) : D ≠ a ∧ D ≠ c := by
  obtain ⟨cs, l, e1, e2, r⟩ := h.ex
  exact ⟨fun z => (by rw [z, e1] at n; cases n), fun z => (by rw [z, e2] at n; cases n)⟩
/-- [what is drawn for k in range(n)], n drawn too -/
theorem lcDraw {j : Nat} {vs : List Nat} {σ : L2.St} {a c : Addr} {H G : Hp} {Q : VK} {ta : TA} {te : TE} (R : PyData → Prop) (B : Nat → Prop)
    (hv : ∀ R : List V → Hp → Prop, (∀ (n : Nat) (Hn Gn : Hp), B n → n ≤ 1000 → Hand MO Hn a c → Ext a H G Hn Gn → R [.int (n : Nat)] Hn) → ta σ H R)
    (hw : ∀ x, wipe ((wipe σ vs).set j (some x)) vs = wipe σ vs)
    (he : ∀ (k : Nat) (H1 G1 : Hp) (R1 : VK), Hand MO H1 a c → Ext a H G H1 G1 → (∀ y d H2 G2, Hand MO H2 a c → Ext a H1 G1 H2 G2 → Dq G2 y d → R d → R1 y H2) → te ((wipe σ vs).set j (some (.int (k : Nat)))) H1 R1)
    (hq : ∀ (n : Nat) (D : Addr) (ys : List V) (ds : List PyData) (H1 G1 : Hp), B n → Hand MO H1 a c → Ext a H G H1 G1 → G1 D = some (.lst ys) → DqAll G1 ys ds → ds.length = n → (∀ d ∈ ds, R d) → Q (.ref D) H1) : tLc (iRng1 ta) (gName j) tYes te vs σ H Q := by
  refine hv _ fun n Hn Gn hB few hh xn => ⟨(n : Int), rfl, by omega, by omega, fun D nD => lc_range (lo := 0) (n := n) (fun i H' => ∃ G' ys ds, Hand MO H' a c ∧ Ext a Hn Gn H' G' ∧ H' D = some (.lst ys) ∧ G' D = none ∧ DqAll G' ys ds ∧ ds.length = i ∧ ∀ d ∈ ds, R d) ?_ ?_ fun H' p => ?_⟩
  · have gD : Gn D = none := by
      cases e : Gn D with
      | none => rfl
      | some u => rw [xn.sub _ _ e] at nD; cases nD
    exact ⟨Gn, [], [], hand_keep hh nD, (Ext.refl (hand_some hh) xn.sub xn.off).mk0 nD, upd_same, gD, .nil, rfl, fun d m => nomatch m⟩
  · rintro i H' li ⟨G', ys, ds, h1, x1, hD, gD, all, len, ok⟩
    obtain ⟨Da, Dc⟩ := hand_apart hh nD
    refine ⟨hw _, ?_⟩
    have e0 : (0 : Int) + (i : Int) = ((i : Nat) : Int) := Int.zero_add _
    rw [e0]
    dsimp only [tYes]
    refine iteT (he i H' G' _ h1 (xn.trans x1) fun y d H2 G2 h2 x2 hy rd => ?_)
    obtain ⟨hD2, gD2⟩ := x2.stays hD gD Da
    refine ⟨ys, hD2, small1000 (by rw [all.len, len]; omega), G2, ys ++ [y], ds ++ [d], hand_upd h2 Da Dc, (x1.trans x2).put nD gD2 Da, upd_same, gD2, (all.keep x2.up).snoc hy, by rw [List.length_append, len]; rfl, fun e m => ?_⟩
    rcases List.mem_append.mp m with m | m
    · exact ok e m
    · rw [List.mem_singleton.mp m]; exact rd
  · obtain ⟨G', ys, ds, h1, x1, hD, gD, all, len, ok⟩ := p
    obtain ⟨Da, Dc⟩ := hand_apart hh nD
    exact hq n D ys ds H' _ hB h1 (xn.trans (x1.ice nD hD gD Da)) upd_same (all.keep (same_upd gD)) len ok
/-- what stands in the place of a thing -/
def Rid (d : PyData) : Prop := d ∈ [PyData.none, .int 3, .str "ab", .bool true, D01, .int (-1)]
def spRid (K : PySem.W.Frag) : Sp := fun vs H Q _ => ∃ (a c : Addr) (G : Hp), vs = [.ref a] ∧ Hand MO H a c ∧ Same G H ∧ G a = none ∧ Drawn a c H G Rid Q
/-- widths, a list or a tuple of them -/
def spLists (K : PySem.W.Frag) : Sp := fun vs H Q _ => ∃ (a c w : Addr) (G : Hp) (ws : List Int), vs = [.ref a, .ref w] ∧ Hand MO H a c ∧ Same G H ∧ G a = none ∧ G w = some (.lst (ws.map V.int)) ∧
  ∀ (v : V) (H' G' : Hp), Hand MO H' a c → Ext a H G H' G' → IntsAt G' v ws → Q v H'
/-- widths drawn -/
def spWidths (K : PySem.W.Frag) : Sp := fun vs H Q _ => ∃ (a c : Addr) (G : Hp), vs = [.ref a] ∧ Hand MO H a c ∧ Same G H ∧ G a = none ∧
  ∀ (w : Addr) (ws : List Int) (H' G' : Hp), Hand MO H' a c → Ext a H G H' G' → G' w = some (.lst (ws.map V.int)) → 1 ≤ ws.length → ws.length ≤ 6 → (∀ w ∈ ws, 1 ≤ w ∧ w ≤ 3) → Q (.ref w) H'
section
variable {P : Program} {w : World} {K : PySem.W.Frag} {mg : Str → Option Value} {base : Heap}
theorem sc__law_rid : FnScope ["_law_hand_here"] ["_law_hand_here"] (defScope (topS 47)) := ⟨rfl, rfl, rfl, by decide +kernel, rfl, by decide +kernel, by decide +kernel⟩
theorem ok__law_rid {f : Addr} {fd : FuncData} (F : L2.Fun K "_law_rid" "_law_rid" (topS 47) f fd) (cT : Cal P w K mg base 2 "_law_take" (spDraw MO)) : FnOk P w K mg base CX0 3 f fd ["_law_hand_here"] (spRid K) := by
  refine F.ok sc__law_rid (fun vs H Q E h => ?_) (fun cdv A outer s0 H vs Q E hr h => ?_)
  · obtain ⟨a, c, G, rfl, _⟩ := h
    rfl
  · obtain ⟨a, c, G, rfl, hh, sG, nG, k⟩ := h
    refine ⟨_, (pss_one (ps_ret (pe_ix ix_tup (pe_tup (pa_cons pe_non (pa_cons pe_int (pa_cons pe_str (pa_cons pe_bl (pa_cons (pe_disp (pps_cons pe_int pe_int pps_nil) rfl rfl (by intro z; cases z) (by decide)) (pa_cons (pe_un un_neg pe_int) pa_nil))))))) (pe_c cT hr (by decide) rfl (pa_cons (pv 0) (pa_cons pe_int pa_nil))) (fun _ _ => rfl)))), ?_⟩
    have x0 := Ext.refl (hand_some hh) sG nG
    dsimp only [tRet]
    refine fun t nt => ⟨upd_same, [(Sum.inl 0, .int 1)], rfl, by decide, ?_⟩
    rw [upd_upd]
    have x1 := x0.mk_ (o := HO.dK [(Sum.inl 0, V.int 1)]) nt
    have h1 := hand_keep (o := HO.dK [(Sum.inl 0, V.int 1)]) hh nt
    have g1 : (upd G t (.dK [(Sum.inl 0, V.int 1)])) t = some (.dK [(Sum.inl 0, V.int 1)]) := upd_same
    have em : mergeK [] [((Sum.inl 0 : Key), V.int 1)] = [(Sum.inl 0, V.int 1)] := rfl
    rw [em]
    generalize upd H t (.dK [(Sum.inl 0, V.int 1)]) = H1 at x1 h1 ⊢
    generalize upd G t (.dK [(Sum.inl 0, V.int 1)]) = G1 at x1 g1
    refine ⟨_, rfl, Nat.le_of_lt (small1000 (by show 6 ≤ 1000; omega)), fun p np => ?_⟩
    have x5 := x1.mk0 (o := HO.tup [V.non, V.int 3, V.str "ab", V.bl true, V.ref t, V.int (-1)]) np
    have h5 := hand_keep (o := HO.tup [V.non, V.int 3, V.str "ab", V.bl true, V.ref t, V.int (-1)]) h1 np
    refine tk h5 x5 rfl (fun R h => h) (by omega) (by omega) fun v H6 v0 v1 h6 x6 sx6 => ?_
    have all : DqAll G1 [V.non, V.int 3, V.str "ab", V.bl true, V.ref t, V.int (-1)] [PyData.none, .int 3, .str "ab", .bool true, D01, .int (-1)] := .cons .non (.cons (.int _) (.cons (.str _) (.cons (.bl _) (.cons (.dct g1) (.cons (.int _) .nil)))))
    obtain ⟨n, rfl⟩ : ∃ n : Nat, v = (n : Int) := ⟨v.toNat, (Int.toNat_of_nonneg v0).symm⟩
    obtain ⟨x, ex⟩ : ∃ x, [V.non, V.int 3, V.str "ab", V.bl true, V.ref t, V.int (-1)][n]? = some x := ⟨_, List.getElem?_eq_getElem (by show n < 6; omega)⟩
    obtain ⟨d, ed, hd⟩ := all.get ex
    have pt := sx6 p _ (fun z => by rw [z] at np; exact hand_some h1 np) upd_same
    exact ⟨p, _, _, _, rfl, rfl, SqT.of pt, atI_nat ex, k x d H6 G1 h6 x6 hd (List.mem_of_getElem? ed)⟩
theorem sc__law_lists : FnScope ["_law_hand_here", "_law_thing"] ["_law_hand_here", "_law_thing"] (defScope (topS 48)) := ⟨rfl, rfl, rfl, by decide +kernel, rfl, by decide +kernel, by decide +kernel⟩
theorem ok__law_lists {f : Addr} {fd : FuncData} (F : L2.Fun K "_law_lists" "_law_lists" (topS 48) f fd) (cT : Cal P w K mg base 2 "_law_take" (spDraw MO)) (m_list : mg "list" = none) (m_tuple : mg "tuple" = none) : FnOk P w K mg base CX0 3 f fd ["_law_hand_here", "_law_thing"] (spLists K) := by
  refine F.ok sc__law_lists (fun vs H Q E h => ?_) (fun cdv A outer s0 H vs Q E hr h => ?_)
  · obtain ⟨a, c, w, G, ws, rfl, _⟩ := h
    rfl
  · obtain ⟨a, c, w, G, ws, rfl, hh, sG, nG, gw, k⟩ := h
    refine ⟨_, (pss_one (ps_ret (pe_ifExp (pt_truth (pe_c cT hr (by decide) rfl (pa_cons (pv 0) (pa_cons pe_int pa_nil))) (by intro _; rfl)) (pe_callTy call_list_of (by rfl) m_list (by decide +kernel) (pa_cons (pv 1) pa_nil)) (pe_callTy call_tuple_of (by rfl) m_tuple (by decide +kernel) (pa_cons (pv 1) pa_nil))))), ?_⟩
    have x0 := Ext.refl (hand_some hh) sG nG
    dsimp only [tRet]
    refine tk hh x0 rfl (fun R h => h) (by omega) (by omega) fun v H1 v0 v1 h1 x1 sx1 => ?_
    have hw1 := x1.sub _ _ gw
    by_cases z : v = 0
    · subst z
      refine ⟨false, rfl, iteF ⟨_, rfl, w, _, rfl, .inl ⟨SqL.of hw1, fun l nl => ?_⟩⟩⟩
      exact k _ _ _ (hand_keep h1 nl) (x1.mk_ nl) ⟨l, rfl, .inr upd_same⟩
    · have e : (v != 0) = true := by
        rw [bne_iff_ne]
        exact z
      refine ⟨true, e.symm, iteT ⟨_, rfl, w, _, rfl, .inl (SqL.of hw1), fun l nl => ?_⟩⟩
      exact k _ _ _ (hand_keep h1 nl) (x1.mk_ nl) ⟨l, rfl, .inl upd_same⟩
theorem sc__law_many_widths : FnScope ["_law_hand_here", "_law_step"] ["_law_hand_here"] (defScope (topS 56)) := ⟨rfl, rfl, rfl, by decide +kernel, rfl, by decide +kernel, by decide +kernel⟩
theorem ok__law_many_widths {f : Addr} {fd : FuncData} (F : L2.Fun K "_law_many_widths" "_law_many_widths" (topS 56) f fd) (cT : Cal P w K mg base 2 "_law_take" (spDraw MO)) (m_range : mg "range" = none) : FnOk P w K mg base CX0 3 f fd ["_law_hand_here"] (spWidths K) := by
  refine F.ok sc__law_many_widths (fun vs H Q E h => ?_) (fun cdv A outer s0 H vs Q E hr h => ?_)
  · obtain ⟨a, c, G, rfl, _⟩ := h
    rfl
  · obtain ⟨a, c, G, rfl, hh, sG, nG, k⟩ := h
    refine ⟨_, (pss_one (ps_ret (pe_lc (own := [("_law_step", 1)]) (g := gName 1) (tt := tYes) rfl sc__law_many_widths.nd (pi_range1 (by rfl) m_range (pa_cons (pe_op op_add pe_int (pe_c cT hr (by decide) rfl (pa_cons (pv 0) (pa_cons pe_int pa_nil)))) pa_nil)) (blkOk_by (N := ["_law_hand_here", "_law_step"]) (sc := defScope (topS 56)) (by decide +kernel)) (fun _ _ _ _ _ => pg_name (i := 1) sc__law_many_widths.nd rfl (Or.inl rfl)) (fun _ _ _ _ _ => pts_nil) (fun _ _ _ _ _ => (pe_op op_add pe_int (pe_c cT hr (by decide) rfl (pa_cons (pv 0) (pa_cons pe_int pa_nil)))))))), ?_⟩
    have x0 := Ext.refl (hand_some hh) sG nG
    dsimp only [tRet]
    refine lcDraw (a := a) (c := c) (G := G) (fun d => ∃ i : Int, d = .int i ∧ 1 ≤ i ∧ i ≤ 3) (fun n => 1 ≤ n ∧ n ≤ 6) (fun R hR => ?_) (by intro _; rfl) (fun i H1 G1 R1 h1 x1 hR => ?_) (fun n D ys ds H1 G1 hB h1 x1 gD all len ok => ?_)
    · refine tk hh x0 rfl (fun R h => h) (by omega) (by omega) fun v H1 v0 v1 h1 x1 sx1 => ?_
      refine ⟨_, _, rfl, rfl, ?_⟩
      obtain ⟨n, rfl⟩ : ∃ n : Nat, v = (n : Int) := ⟨v.toNat, (Int.toNat_of_nonneg v0).symm⟩
      have e : (1 : Int) + (n : Int) = ((n + 1 : Nat) : Int) := by omega
      show R [V.int (1 + (n : Int))] H1
      rw [e]
      exact hR (n + 1) H1 _ ⟨by omega, by omega⟩ (by omega) h1 x1
    · refine tk h1 (Ext.refl (hand_some h1) x1.sub x1.off) rfl (fun R h => h) (by omega) (by omega) fun v H2 v0 v1 h2 x2 sx2 => ?_
      exact ⟨_, _, rfl, rfl, hR _ (.int (1 + v)) H2 _ h2 x2 (.int _) ⟨_, rfl, by omega, by omega⟩⟩
    · have form : ∀ {ys : List V} {ds : List PyData}, DqAll G1 ys ds → (∀ d ∈ ds, ∃ i : Int, d = .int i ∧ 1 ≤ i ∧ i ≤ 3) → ∃ ws : List Int, ys = ws.map V.int ∧ ws.length = ds.length ∧ ∀ w ∈ ws, 1 ≤ w ∧ w ≤ 3 := by
        intro ys ds hall
        induction ds generalizing ys with
        | nil => intro _; cases hall; exact ⟨[], rfl, rfl, fun w m => nomatch m⟩
        | cons d r ih =>
          intro ok
          cases hall with
          | cons h1 h2 =>
          obtain ⟨i, rfl, i1, i3⟩ := ok d (List.mem_cons_self ..)
          cases h1
          obtain ⟨ws, rfl, lw, okw⟩ := ih h2 fun x m => ok x (List.mem_cons_of_mem _ m)
          refine ⟨i :: ws, rfl, by rw [List.length_cons, List.length_cons, lw], fun w m => ?_⟩
          rcases List.mem_cons.mp m with z | m
          · rw [z]; exact ⟨i1, i3⟩
          · exact okw w m
      obtain ⟨ws, rfl, lw, okw⟩ := form all ok
      exact k D ws H1 G1 h1 x1 gD (by omega) (by omega) okw
end
end My
set_option Elab.async false
set_option linter.all false
set_option maxRecDepth 100000
set_option maxHeartbeats 4000000
namespace My
open PySem PySem.Spec PyProof.Rows L2

/-! ### bodies, heads drawn -/
/-- a term: a name or one of these values -/
def TermD (S : List Int) (y : PyData) : Prop := (∃ s, s ∈ eight ∧ y = .str s) ∨ ∃ i, i ∈ S ∧ y = .int i
def AtomD (S : List Int) (ws : List Int) (at0 : PyData) : Prop := ∃ (t : Nat) (ts : List PyData), at0 = .tuple [.int (t : Nat), .tuple ts] ∧ t < ws.length ∧ (ts.length : Int) = ws.getD t 0 ∧ ∀ y ∈ ts, TermD S y
theorem termD_flat {S : List Int} {y : PyData} {v : V} {H : Hp} (h : TermD S y) (hv : Dq H v y) : flatV v = true ∧ (strV v = true → nameV v = true) := by
  rcases h with ⟨s, m, rfl⟩ | ⟨i, m, rfl⟩
  · cases hv
    exact ⟨rfl, fun _ => decide_eq_true m⟩
  · cases hv
    exact ⟨rfl, fun z => nomatch z⟩
/-- such a body as the law's own look at names wants it -/
theorem atoms_q {K : PySem.W.Frag} {S ws : List Int} {H : Hp} (w3 : ∀ w ∈ ws, 1 ≤ w ∧ w ≤ 3) : ∀ {bs : List V} {ats : List PyData}, DqAll H bs ats → (∀ x ∈ ats, AtomD S ws x) → ∃ zs : List (List V), Paired (AtomQ K H) bs zs ∧ zs.flatten.length ≤ 3 * ats.length ∧ ∀ v ∈ zs.flatten, (flatV v = true ∧ (strV v = true → nameV v = true)) ∧ ((∃ i, i ∈ S ∧ v = .int i) ∨ ∃ s, s ∈ eight ∧ v = .str s)
  | _, _, .nil, _ => ⟨[], .nil, Nat.zero_le _, fun v m => nomatch m⟩
  | _, _, .cons (d := d) (ds := ds) h a, ok => by
    obtain ⟨zs, pr, len, fl⟩ := atoms_q (K := K) w3 a fun x m => ok x (List.mem_cons_of_mem _ m)
    obtain ⟨t, ts, rfl, t1, tl, tt⟩ := ok _ (List.mem_cons_self ..)
    cases h with
    | @tup p xs _ hp hall =>
    match xs, hall with
    | [y0, y1], .cons g0 (.cons g1 .nil) =>
    cases g1 with
    | @tup r ys _ hr hys =>
    have l3 : ts.length ≤ 3 := by
      have e : ws[t]? = some (ws.getD t 0) := by
        rw [List.getD_eq_getElem?_getD, List.getElem?_eq_getElem t1]
        rfl
      have := (w3 _ (List.mem_of_getElem? e)).2
      omega
    have terms : ∀ {vs : List V} {es : List PyData}, DqAll H vs es → (∀ y ∈ es, TermD S y) → ∀ v ∈ vs, (flatV v = true ∧ (strV v = true → nameV v = true)) ∧ ((∃ i, i ∈ S ∧ v = .int i) ∨ ∃ s, s ∈ eight ∧ v = .str s) := by
      intro vs es hes
      induction es generalizing vs with
      | nil => intro _ v m; cases hes; cases m
      | cons e r ih =>
        intro ok v m
        cases hes with
        | cons k1 k2 =>
        rcases List.mem_cons.mp m with z | m
        · subst z
          refine ⟨termD_flat (ok e (List.mem_cons_self ..)) k1, ?_⟩
          rcases ok e (List.mem_cons_self ..) with ⟨s, ms, rfl⟩ | ⟨i, ms, rfl⟩
          · cases k1
            exact .inr ⟨s, ms, rfl⟩
          · cases k1
            exact .inl ⟨i, ms, rfl⟩
        · exact ih k2 (fun y m => ok y (List.mem_cons_of_mem _ m)) v m
    refine ⟨ys :: zs, .cons ⟨p, y0, r, rfl, .inr (SqT.of hp), .inr (SqT.of hr)⟩ pr, ?_, fun v m => ?_⟩
    · rw [List.flatten_cons, List.length_append, List.length_cons, hys.len]
      omega
    · rw [List.flatten_cons] at m
      rcases List.mem_append.mp m with m | m
      · exact terms hys tt v m
      · exact fl v m
/-- a term that is bound in the body, or a value -/
def spBound (K : PySem.W.Frag) : Sp := fun vs H Q _ => ∃ (a c b w : Addr) (G : Hp) (bs : List V) (ats : List PyData) (S ws : List Int), vs = [.ref a, .ref b, .ref w] ∧ Hand MO H a c ∧ Same G H ∧ G a = none ∧ (∀ w ∈ ws, 1 ≤ w ∧ w ≤ 3) ∧
  G b = some (.lst bs) ∧ DqAll G bs ats ∧ ats.length ≤ 8 ∧ (∀ x ∈ ats, AtomD S ws x) ∧ G w = some (.lst (S.map V.int)) ∧ S ≠ [] ∧ S.length ≤ 8 ∧ Drawn a c H G (TermD S) Q
section
variable {P : Program} {w : World} {K : PySem.W.Frag} {mg : Str → Option Value} {base : Heap}
theorem sc__law_bound : FnScope ["_law_hand_here", "_law_body_here", "_law_values", "_law_names_here"] ["_law_hand_here", "_law_body_here", "_law_values"] (defScope (topS 43)) := ⟨rfl, rfl, rfl, by decide +kernel, rfl, by decide +kernel, by decide +kernel⟩
theorem ok__law_bound {f : Addr} {fd : FuncData} (F : L2.Fun K "_law_bound" "_law_bound" (topS 43) f fd) (cT : Cal P w K mg base 2 "_law_take" (spDraw MO)) (cF : Cal P w K mg base 1 "_law_first" (spFirst K)) (m_len : mg "len" = none) : FnOk P w K mg base CX0 3 f fd ["_law_hand_here", "_law_body_here", "_law_values"] (spBound K) := by
  refine F.ok sc__law_bound (fun vs H Q E h => ?_) (fun cdv A outer s0 H vs Q E hr h => ?_)
  · obtain ⟨a, c, b, w, G, bs, ats, S, ws, rfl, _⟩ := h
    rfl
  · obtain ⟨a, c, b, w, G, bs, ats, S, ws, rfl, hh, sG, nG, w3, hb, hbs, n8, oka, hw, Sne, S8, k⟩ := h
    refine ⟨_, (pss_cons (ps_set (i := 3) sc__law_bound.nd rfl (.inl rfl) (pe_c cF hr (by decide) rfl (pa_cons (pv 1) pa_nil)))
      (pss_cons (ps_if (PW.pt (pw_and (pt_truth (pv 2) (by intro _; rfl)) (pw_and1 (PW.pt (pw_or (pt_not (pt_truth (pv 3) (by intro _; rfl))) (pw_or1 (pt_cmpR op_eq (pe_c cT hr (by decide) rfl (pa_cons (pv 0) (pa_cons pe_int pa_nil))) pe_int (nomark _)))))))) (pss_one (ps_ret (pe_ix ix_seq (pv 2) (pe_c cT hr (by decide) rfl (pa_cons (pv 0) (pa_cons (pe_callB call_len_seq (by rfl) m_len PySem.boot_len (pa_cons (pv 2) pa_nil)) pa_nil))) (fun _ _ => rfl)))) pss_nil)
      (pss_cons (ps_if (pt_truth (pv 3) (by intro _; rfl)) (pss_one (ps_ret (pe_ix ix_seq (pv 3) (pe_c cT hr (by decide) rfl (pa_cons (pv 0) (pa_cons (pe_callB call_len_seq (by rfl) m_len PySem.boot_len (pa_cons (pv 3) pa_nil)) pa_nil))) (fun _ _ => rfl)))) pss_nil)
      (pss_one (ps_ret pe_non))))), ?_⟩
    obtain ⟨zs, pr, lz, fl⟩ := atoms_q (K := K) w3 (hbs.keep sG) oka
    refine ⟨_, rfl, b, bs, zs, rfl, .inl (SqL.of (sG _ _ hb)), pr, ⟨by omega, fun v m => (fl v m).1⟩, fun r H1 s1 nr hr1 => ?_⟩
    have x1 := (Ext.refl (hand_some hh) sG nG).pure s1
    have h1 : Hand MO H1 a c := by
      obtain ⟨cs, l, e1, e2, z⟩ := hh.ex
      exact ⟨cs, l, s1 _ _ e1, s1 _ _ e2, z⟩
    have hw1 := x1.sub _ _ hw
    -- one of the values
    have val : ∀ (H2 : Hp) (G2 : Hp) (σ : L2.St), Hand MO H2 a c → Ext a H G H2 G2 → σ[0]? = some (some (.ref a)) → σ[2]? = some (some (.ref w)) →
        tOp (rIxV K) (tVar 2) (tCall (spDraw MO) [] E0 (tCons (tVar 0) (tCons (tCB (rLenOf K) (tCons (tVar 2) tNil)) tNil))) σ H2 Q := fun H2 G2 σ h2 x2 e0 e2 => by
      have hw2 := x2.sub _ _ (x2.up _ _ hw)
      have l0 : 0 < S.length := List.length_pos_iff.mpr Sne
      have lS : (S.map V.int).length = S.length := List.length_map ..
      refine ⟨_, e2, ?_⟩
      refine tk h2 x2 e0 (fun R h => ⟨_, e2, w, _, rfl, .inl (SqL.of hw2), h⟩) (by rw [lS]; omega) (by rw [lS]; omega) fun v H3 v0 v1 h3 x3 sx3 => ?_
      rw [lS] at v1
      obtain ⟨n, rfl⟩ : ∃ n : Nat, v = (n : Int) := ⟨v.toNat, (Int.toNat_of_nonneg v0).symm⟩
      have ln : n < S.length := by omega
      have en : (S.map V.int)[n]? = some (.int S[n]) := by rw [List.getElem?_map, List.getElem?_eq_getElem ln]; rfl
      have hw3 := x3.sub _ _ (x3.up _ _ hw)
      exact rd_ix (.inl (SqL.of hw3)) (atI_nat en) (k _ (.int S[n]) H3 _ h3 x3 (.int _) (.inr ⟨_, List.getElem_mem ln, rfl⟩))
    have lS : (S.map V.int).isEmpty = false := by
      cases S with
      | nil => exact absurd rfl Sne
      | cons _ _ => rfl
    refine ⟨_, rfl, true, .inl ⟨_, SqL.of hw1, by rw [lS]; rfl⟩, iteT ?_⟩
    have e8 := unlN_eight zs.flatten
    have l24 := unlN_len zs.flatten
    generalize unlN zs.flatten = ls at hr1 e8 l24
    refine ⟨_, rfl, !(ls.map V.str).isEmpty, .inl ⟨_, SqL.of hr1, rfl⟩, ?_⟩
    cases ls with
    | nil => exact iteT (iteT (val H1 _ _ h1 x1 rfl rfl))
    | cons s0 lr =>
      refine iteF ?_
      refine tk h1 x1 rfl (fun R h => h) (by omega) (by omega) fun v H2 v0 v1 h2 x2 sx2 => ?_
      refine ⟨rfl, _, rfl, ite2 (fun z => ?_) (fun z => ?_)⟩
      · exact val H2 _ _ h2 x2 rfl rfl
      · have ra : r ≠ a := fun z => by rw [z] at nr; exact hand_some hh nr
        have hr2 := sx2 _ _ ra hr1
        refine ⟨_, rfl, true, .inl ⟨_, SqL.of hr2, rfl⟩, iteT ?_⟩
        have ll : ((s0 :: lr).map V.str).length = lr.length + 1 := by rw [List.length_map]; rfl
        refine ⟨_, rfl, ?_⟩
        refine tk h2 x2 rfl (fun R h => ⟨_, rfl, r, _, rfl, .inl (SqL.of hr2), h⟩) (by rw [ll]; omega) (by rw [ll]; rw [List.length_cons] at l24; omega) fun u H3 u0 u1 h3 x3 sx3 => ?_
        rw [ll] at u1
        obtain ⟨n, rfl⟩ : ∃ n : Nat, u = (n : Int) := ⟨u.toNat, (Int.toNat_of_nonneg u0).symm⟩
        have ln : n < (s0 :: lr).length := by rw [List.length_cons]; omega
        have en : ((s0 :: lr).map V.str)[n]? = some (.str (s0 :: lr)[n]) := by rw [List.getElem?_map, List.getElem?_eq_getElem ln]; rfl
        exact rd_ix (.inl (SqL.of (sx3 _ _ ra hr2))) (atI_nat en) (k _ (.str (s0 :: lr)[n]) H3 _ h3 x3 (.str _) (.inl ⟨_, e8 _ (List.getElem_mem ln), rfl⟩))
end
end My
set_option Elab.async false
set_option linter.all false
set_option maxRecDepth 100000
set_option maxHeartbeats 4000000
namespace My
open PySem PySem.Spec PyProof.Rows L2

theorem letters : ∀ n : Nat, n < 8 → ∃ c, atI (("abcdefgh" : Str).cps.toList) (n : Int) = some c ∧ (⟨#[c]⟩ : Str) ∈ eight := by
  intro n h
  match n, h with
  | 0, _ => exact ⟨_, rfl, by decide +kernel⟩
  | 1, _ => exact ⟨_, rfl, by decide +kernel⟩
  | 2, _ => exact ⟨_, rfl, by decide +kernel⟩
  | 3, _ => exact ⟨_, rfl, by decide +kernel⟩
  | 4, _ => exact ⟨_, rfl, by decide +kernel⟩
  | 5, _ => exact ⟨_, rfl, by decide +kernel⟩
  | 6, _ => exact ⟨_, rfl, by decide +kernel⟩
  | 7, _ => exact ⟨_, rfl, by decide +kernel⟩
/-- 'abcdefgh'[take(hand, m)] -/
theorem tkName {a c : Addr} {H G Hn Gn : Hp} {m : Int} {Q : VK} {σ : L2.St} {i : Nat} {tb : TE} (h : Hand MO Hn a c) (x : Ext a H G Hn Gn) (hv : σ[i]? = some (some (.ref a))) (hb : ∀ R : VK, R (.int m) Hn → tb σ Hn R) (m0 : 0 < m) (m8 : m ≤ 8)
    (q : ∀ (s : Str) (H' : Hp), s ∈ eight → Hand MO H' a c → Ext a H G H' Gn → (∀ b o, b ≠ a → Hn b = some o → H' b = some o) → Q (.str s) H') : tOp rIxS (tC (.str "abcdefgh")) (tCall (spDraw MO) [] E0 (tCons (tVar i) (tCons tb tNil))) σ Hn Q := by
  refine tk h x hv hb m0 (by omega) fun v H1 v0 v1 h1 x1 s1 => ?_
  obtain ⟨n, rfl⟩ : ∃ n : Nat, v = (n : Int) := ⟨v.toNat, (Int.toNat_of_nonneg v0).symm⟩
  obtain ⟨c, e, mem⟩ := letters n (by omega)
  exact ⟨_, _, c, rfl, rfl, by decide +kernel, e, q _ H1 mem h1 x1 s1⟩
/-- values[take(hand, len(values))] -/
theorem tkVal {K : PySem.W.Frag} {a c w : Addr} {H G Hn Gn : Hp} {S : List Int} {Q : VK} {σ : L2.St} {i j : Nat} (h : Hand MO Hn a c) (x : Ext a H G Hn Gn) (hv : σ[i]? = some (some (.ref a))) (hj : σ[j]? = some (some (.ref w))) (hw : Gn w = some (.lst (S.map V.int))) (ne : S ≠ []) (few : S.length ≤ 1000)
    (q : ∀ (n : Int) (H' : Hp), n ∈ S → Hand MO H' a c → Ext a H G H' Gn → (∀ b o, b ≠ a → Hn b = some o → H' b = some o) → Q (.int n) H') : tOp (rIxV K) (tVar j) (tCall (spDraw MO) [] E0 (tCons (tVar i) (tCons (tCB (rLenOf K) (tCons (tVar j) tNil)) tNil))) σ Hn Q := by
  have hw2 := x.sub _ _ hw
  have l0 : 0 < S.length := List.length_pos_iff.mpr ne
  have lS : (S.map V.int).length = S.length := List.length_map ..
  refine ⟨_, hj, ?_⟩
  refine tk h x hv (fun R h => ⟨_, hj, w, _, rfl, .inl (SqL.of hw2), h⟩) (by rw [lS]; omega) (by rw [lS]; omega) fun v H3 v0 v1 h3 x3 sx3 => ?_
  rw [lS] at v1
  obtain ⟨n, rfl⟩ : ∃ n : Nat, v = (n : Int) := ⟨v.toNat, (Int.toNat_of_nonneg v0).symm⟩
  have ln : n < S.length := by omega
  have en : (S.map V.int)[n]? = some (.int S[n]) := by rw [List.getElem?_map, List.getElem?_eq_getElem ln]; rfl
  exact rd_ix (.inl (SqL.of (x3.sub _ _ hw))) (atI_nat en) (q _ H3 (List.getElem_mem ln) h3 x3 sx3)
def spBody (K : PySem.W.Frag) : Sp := fun vs H Q _ => ∃ (a c W w : Addr) (G : Hp) (S ws : List Int) (n : Nat) (m : Int), vs = [.ref a, .ref W, .int (n : Nat), .int m, .ref w] ∧ Hand MO H a c ∧ Same G H ∧ G a = none ∧ G W = some (.lst (ws.map V.int)) ∧ ws ≠ [] ∧ ws.length ≤ 6 ∧ (∀ w ∈ ws, 1 ≤ w ∧ w ≤ 3) ∧
  G w = some (.lst (S.map V.int)) ∧ S ≠ [] ∧ S.length ≤ 8 ∧ n ≤ 8 ∧ 0 < m ∧ m ≤ 8 ∧
  ∀ (D : Addr) (bs : List V) (ats : List PyData) (H' G' : Hp), Hand MO H' a c → Ext a H G H' G' → G' D = some (.lst bs) → DqAll G' bs ats → ats.length = n → (∀ x ∈ ats, AtomD S ws x) → Q (.ref D) H'
section
variable {P : Program} {w : World} {K : PySem.W.Frag} {mg : Str → Option Value} {base : Heap}
theorem sc__law_body : FnScope ["_law_hand_here", "_law_widths", "_law_atoms", "_law_names_here", "_law_values", "_law_body_here", "_law_step", "_law_table", "_law_terms", "_law_column"] ["_law_hand_here", "_law_widths", "_law_atoms", "_law_names_here", "_law_values"] (defScope (topS 42)) := ⟨rfl, rfl, rfl, by decide +kernel, rfl, by decide +kernel, by decide +kernel⟩
theorem ok__law_body {f : Addr} {fd : FuncData} (F : L2.Fun K "_law_body" "_law_body" (topS 42) f fd) (cT : Cal P w K mg base 2 "_law_take" (spDraw MO)) (m_len : mg "len" = none) (m_range : mg "range" = none) (m_tuple : mg "tuple" = none) : FnOk P w K mg base CX0 3 f fd ["_law_hand_here", "_law_widths", "_law_atoms", "_law_names_here", "_law_values"] (spBody K) := by
  refine F.ok sc__law_body (fun vs H Q E h => ?_) (fun cdv A outer s0 H vs Q E hr h => ?_)
  · obtain ⟨a, c, W, w, G, S, ws, n, m, rfl, _⟩ := h
    rfl
  · obtain ⟨a, c, W, w, G, S, ws, n, m, rfl, hh, sG, nG, hW, wne, w6, w3, hw, Sne, S8, n8, m0, m8, k⟩ := h
    refine ⟨_, (pss_cons (ps_set (i := 5) sc__law_body.nd rfl (.inl rfl) (pe_lst pa_nil))
      (pss_cons (ps_for PassesOwn.never rfl (pi_range1 (by rfl) m_range (pa_cons (pv 2) pa_nil)) (pg_name (i := 6) sc__law_body.nd rfl (.inl rfl)) (pss_cons (ps_set (i := 7) sc__law_body.nd rfl (.inl rfl) (pe_c cT hr (by decide) rfl (pa_cons (pv 0) (pa_cons (pe_callB call_len_seq (by rfl) m_len PySem.boot_len (pa_cons (pv 1) pa_nil)) pa_nil)))) (pss_cons (ps_set (i := 8) sc__law_body.nd rfl (.inl rfl) (pe_lst pa_nil)) (pss_cons (ps_for PassesOwn.never rfl (pi_range1 (by rfl) m_range (pa_cons (pe_ix ix_seq (pv 1) (pv 7) (fun _ _ => rfl)) pa_nil)) (pg_name (i := 9) sc__law_body.nd rfl (.inl rfl)) (pss_one (ps_if (PW.pt (pw_and (pt_truth (pv 4) (by intro _; rfl)) (pw_and1 (pt_cmpR op_eq (pe_c cT hr (by decide) rfl (pa_cons (pv 0) (pa_cons pe_int pa_nil))) pe_int (nomark _))))) (pss_one (ps_expr (pe_bm PySem.F.plainAttrs_list PySem.F.slot_list_append PySem.F.type_list_append mt_append (pv 8) (pa_cons (pe_ix ix_seq (pv 4) (pe_c cT hr (by decide) rfl (pa_cons (pv 0) (pa_cons (pe_callB call_len_seq (by rfl) m_len PySem.boot_len (pa_cons (pv 4) pa_nil)) pa_nil))) (fun _ _ => rfl)) pa_nil)))) (pss_one (ps_expr (pe_bm PySem.F.plainAttrs_list PySem.F.slot_list_append PySem.F.type_list_append mt_append (pv 8) (pa_cons (pe_ix ix_str pe_str (pe_c cT hr (by decide) rfl (pa_cons (pv 0) (pa_cons (pv 3) pa_nil))) (fun _ _ => rfl)) pa_nil))))))) (pss_one (ps_expr (pe_bm PySem.F.plainAttrs_list PySem.F.slot_list_append PySem.F.type_list_append mt_append (pv 5) (pa_cons (pe_tup (pa_cons (pv 7) (pa_cons (pe_callTy call_tuple_of (by rfl) m_tuple (by decide +kernel) (pa_cons (pv 8) pa_nil)) pa_nil))) pa_nil))))))))
      (pss_one (ps_ret (pv 5))))), ?_⟩
    have x0 := Ext.refl (hand_some hh) sG nG
    have l0 : 0 < ws.length := List.length_pos_iff.mpr wne
    have lW : (ws.map V.int).length = ws.length := List.length_map ..
    have lS : (S.map V.int).isEmpty = false := by
      cases S with
      | nil => exact absurd rfl Sne
      | cons _ _ => rfl
    refine ⟨Nat.zero_le _, fun D nD => ?_⟩
    obtain ⟨Da, Dc⟩ := hand_apart hh nD
    have gD : G D = none := by
      cases e : G D with
      | none => rfl
      | some u => rw [sG _ _ e] at nD; cases nD
    dsimp only [tNext, tSeq]
    refine ⟨_, rfl, (n : Int), rfl, by omega, by omega, ?_⟩
    rw [Int.toNat_natCast]
    refine for_range (lo := 0) (n := n) (fun i σ H' => (∃ v6 v7 v8 v9, σ = [some (.ref a), some (.ref W), some (.int (n : Nat)), some (.int m), some (.ref w), some (.ref D), v6, v7, v8, v9]) ∧ ∃ G' bs ats, Hand MO H' a c ∧ Ext a H G H' G' ∧ H' D = some (.lst bs) ∧ G' D = none ∧ DqAll G' bs ats ∧ ats.length = i ∧ ∀ x ∈ ats, AtomD S ws x) ?_ ?_ ?_
    · exact ⟨⟨_, _, _, _, rfl⟩, G, [], [], hand_keep hh nD, x0.mk0 nD, upd_same, gD, .nil, rfl, fun x m => nomatch m⟩
    · rintro i σ H1 li ⟨⟨v6, v7, v8, v9, rfl⟩, G1, bs, ats, h1, x1, hD, gD1, all, len, ok⟩
      dsimp only [gName, tSeq, tAsg]
      have hW1 := x1.sub _ _ (x1.up _ _ hW)
      refine tk h1 x1 rfl (fun R h => ⟨_, rfl, W, _, rfl, .inl (SqL.of hW1), h⟩) (by rw [lW]; omega) (by rw [lW]; omega) fun v H2 v0 v1 h2 x2 sx2 => ?_
      rw [lW] at v1
      have hD2 := sx2 _ _ Da hD
      obtain ⟨t, rfl⟩ : ∃ n : Nat, v = (n : Int) := ⟨v.toNat, (Int.toNat_of_nonneg v0).symm⟩
      have lt : t < ws.length := by omega
      have et : ws[t]? = some (ws.getD t 0) := by
        rw [List.getD_eq_getElem?_getD, List.getElem?_eq_getElem lt]
        rfl
      obtain ⟨q1, q3⟩ := w3 _ (List.mem_of_getElem? et)
      have etV : (ws.map V.int)[t]? = some (.int (ws.getD t 0)) := by rw [List.getElem?_map, et]; rfl
      have hW2 := x2.sub _ _ (x2.up _ _ hW)
      generalize hwd : ws.getD t 0 = wd at q1 q3 etV
      refine ⟨Nat.zero_le _, fun T nT => ?_⟩
      obtain ⟨Ta, Tc⟩ := hand_apart h2 nT
      have TD : T ≠ D := fun z => by rw [z, hD2] at nT; cases nT
      have gT : G1 T = none := by
        cases e : G1 T with
        | none => rfl
        | some u => rw [x2.sub _ _ e] at nT; cases nT
      refine ⟨_, rfl, _, rfl, rd_ix (.inl (SqL.of (same_upd nT _ _ hW2))) (atI_nat etV) ?_⟩
      refine ⟨wd, rfl, by omega, by omega, ?_⟩
      have xb := Ext.refl (hand_some h2) x2.sub x2.off
      refine for_range (lo := 0) (n := wd.toNat) (fun j σ H' => (∃ v9, σ = [some (.ref a), some (.ref W), some (.int (n : Nat)), some (.int m), some (.ref w), some (.ref D), some (.int (0 + (i : Int))), some (.int (t : Int)), some (.ref T), v9]) ∧ ∃ ys ts, Hand MO H' a c ∧ Ext a H2 G1 H' G1 ∧ H' T = some (.lst ys) ∧ DqAll G1 ys ts ∧ ts.length = j ∧ ∀ y ∈ ts, TermD S y) ?_ ?_ ?_
      · exact ⟨⟨_, rfl⟩, [], [], hand_keep h2 nT, xb.mk0 nT, upd_same, .nil, rfl, fun y m => nomatch m⟩
      · rintro j σ H3 lj ⟨⟨v9, rfl⟩, ys, ts, h3, x3, hT, allT, lenT, okT⟩
        have hw3 := x3.sub _ _ (x2.up _ _ hw)
        -- what is appended
        have put : ∀ (y : V) (d : PyData) (H4 : Hp) (u9 : Option V), Hand MO H4 a c → Ext a H2 G1 H4 G1 → H4 T = some (.lst ys) → Dq G1 y d → TermD S d → (∃ v9, [some (V.ref a), some (V.ref W), some (V.int (n : Nat)), some (V.int m), some (V.ref w), some (V.ref D), some (V.int (0 + (i : Int))), some (V.int (t : Int)), some (V.ref T), u9] = [some (V.ref a), some (V.ref W), some (V.int (n : Nat)), some (V.int m), some (V.ref w), some (V.ref D), some (V.int (0 + (i : Int))), some (V.int (t : Int)), some (V.ref T), v9]) ∧ ∃ ys' ts, Hand MO (upd H4 T (.lst (ys ++ [y]))) a c ∧ Ext a H2 G1 (upd H4 T (.lst (ys ++ [y]))) G1 ∧ (upd H4 T (.lst (ys ++ [y]))) T = some (.lst ys') ∧ DqAll G1 ys' ts ∧ ts.length = j + 1 ∧ ∀ y ∈ ts, TermD S y := fun y d H4 u9 h4 x4 hT4 hy td => by
          refine ⟨⟨_, rfl⟩, ys ++ [y], ts ++ [d], hand_upd h4 Ta Tc, x4.put nT gT Ta, upd_same, allT.snoc hy, by rw [List.length_append, lenT]; rfl, fun e me => ?_⟩
          rcases List.mem_append.mp me with me | me
          · exact okT e me
          · rw [List.mem_singleton.mp me]; exact td
        have sz : ys.length < sizeLine := small1000 (by rw [allT.len, lenT]; omega)
        have lett : ∀ (H4 : Hp) (u9 : Option V), Hand MO H4 a c → Ext a H2 G1 H4 G1 → H4 T = some (.lst ys) → ∀ (R : VK), (∀ (s : Str) (H5 : Hp), s ∈ eight → Hand MO H5 a c → Ext a H2 G1 H5 G1 → H5 T = some (.lst ys) → R (.str s) H5) →
            tOp rIxS (tC (.str "abcdefgh")) (tCall (spDraw MO) [] E0 (tCons (tVar 0) (tCons (tVar 3) tNil))) [some (.ref a), some (.ref W), some (.int (n : Nat)), some (.int m), some (.ref w), some (.ref D), some (.int (0 + (i : Int))), some (.int (t : Int)), some (.ref T), u9] H4 R := fun H4 u9 h4 x4 hT4 R hR =>
          tkName h4 x4 rfl (fun R h => ⟨_, rfl, h⟩) m0 m8 fun s H5 ms h5 x5 s5 => hR s H5 ms h5 x5 (s5 _ _ Ta hT4)
        refine ⟨_, rfl, true, .inl ⟨_, SqL.of hw3, by rw [lS]; rfl⟩, iteT ?_⟩
        refine tk h3 x3 rfl (fun R h => h) (by omega) (by omega) fun z H4 z0 z1 h4 x4 sx4 => ?_
        have hT4 := sx4 _ _ Ta hT
        refine ⟨rfl, _, rfl, ite2 (fun e => ?_) (fun e => ?_)⟩
        · refine ⟨_, rfl, .inl ⟨rfl, _, SqL.of hT4⟩, ?_⟩
          refine tkVal h4 x4 rfl rfl (x2.up _ _ hw) Sne (by omega) fun u H5 mu h5 x5 sx5 => ?_
          have hT5 := sx5 _ _ Ta hT4
          exact ⟨T, _, _, rfl, rfl, hT5, sz, put _ (.int u) H5 _ h5 x5 hT5 (.int u) (.inr ⟨u, mu, rfl⟩)⟩
        · refine ⟨_, rfl, .inl ⟨rfl, _, SqL.of hT4⟩, ?_⟩
          refine lett H4 _ h4 x4 hT4 _ fun s H5 ms h5 x5 hT5 => ?_
          exact ⟨T, _, _, rfl, rfl, hT5, sz, put _ (.str s) H5 _ h5 x5 hT5 (.str s) (.inl ⟨s, ms, rfl⟩)⟩
      · rintro σ H3 ⟨⟨v9, rfl⟩, ys, ts, h3, x3, hT, allT, lenT, okT⟩
        obtain ⟨hD3, _⟩ := x3.stays hD2 gD1 Da
        have xx := x2.trans x3
        -- (table, tuple(terms)) is appended
        refine ⟨_, rfl, .inl ⟨rfl, _, SqL.of hD3⟩, _, rfl, _, rfl, T, _, rfl, .inl ⟨SqL.of hT, fun p np => ?_⟩⟩
        have x4 := xx.mk_ (o := HO.tup ys) np
        have h4 := hand_keep (o := HO.tup ys) h3 np
        have g4 : (upd G1 p (.tup ys)) p = some (.tup ys) := upd_same
        have hD4 := same_upd (o := HO.tup ys) np _ _ hD3
        have gD4 : (upd G1 p (.tup ys)) D = none := by
          rw [upd_ne (ne_of_none hD3 np)]
          exact gD1
        have allT4 : DqAll (upd G1 p (.tup ys)) ys ts := allT.keep (same_upd (by
          cases e : G1 p with
          | none => rfl
          | some u => rw [x3.sub _ _ e] at np; cases np))
        have up4 : Same G1 (upd G1 p (.tup ys)) := same_upd (by
          cases e : G1 p with
          | none => rfl
          | some u => rw [x3.sub _ _ e] at np; cases np)
        generalize upd H3 p (.tup ys) = H4 at x4 h4 hD4 ⊢
        generalize upd G1 p (.tup ys) = G4 at x4 g4 gD4 allT4 up4
        refine ⟨Nat.le_of_lt (small1000 (by show 2 ≤ 1000; omega)), fun r nr => ?_⟩
        have gr : G4 r = none := by
          cases e : G4 r with
          | none => rfl
          | some u => rw [x4.sub _ _ e] at nr; cases nr
        have x5 := x4.mk_ (o := HO.tup [V.int (t : Int), .ref p]) nr
        have h5 := hand_keep (o := HO.tup [V.int (t : Int), .ref p]) h4 nr
        have hD5 := same_upd (o := HO.tup [V.int (t : Int), .ref p]) nr _ _ hD4
        have gD5 : (upd G4 r (.tup [V.int (t : Int), .ref p])) D = none := by
          rw [upd_ne (ne_of_none hD4 nr)]
          exact gD4
        have hr5 : Dq (upd G4 r (.tup [V.int (t : Int), .ref p])) (.ref r) (.tuple [.int (t : Int), .tuple ts]) := .tup upd_same (.cons (.int _) (.cons (.tup (same_upd gr _ _ g4) (allT4.keep (same_upd gr))) .nil))
        have up5 : Same G1 (upd G4 r (.tup [V.int (t : Int), .ref p])) := up4.trans (same_upd gr)
        refine ⟨D, _, _, rfl, rfl, hD5, small1000 (by rw [all.len, len]; omega), ⟨_, _, _, _, rfl⟩, _, bs ++ [.ref r], ats ++ [.tuple [.int (t : Int), .tuple ts]], hand_upd h5 Da Dc, x5.put nD gD5 Da, upd_same, gD5, (all.keep up5).snoc hr5, by rw [List.length_append, len]; rfl, fun e me => ?_⟩
        rcases List.mem_append.mp me with me | me
        · exact ok e me
        · rw [List.mem_singleton.mp me]
          exact ⟨t, ts, rfl, lt, by rw [lenT, hwd]; omega, okT⟩
    · rintro σ H1 ⟨⟨v6, v7, v8, v9, rfl⟩, G1, bs, ats, h1, x1, hD, gD1, all, len, ok⟩
      exact ⟨_, rfl, k D bs ats H1 _ h1 (x1.ice nD hD gD1 Da) upd_same (all.keep (same_upd gD1)) len ok⟩
end
end My
set_option Elab.async false
set_option linter.all false
set_option maxRecDepth 100000
set_option maxHeartbeats 4000000
namespace My
open PySem PySem.Spec PyProof.Rows L2

theorem ints_form {G1 : Hp} {B : Int → Prop} : ∀ {ys : List V} {ds : List PyData}, DqAll G1 ys ds → (∀ d ∈ ds, ∃ i : Int, d = .int i ∧ B i) → ∃ ws : List Int, ys = ws.map V.int ∧ ws.length = ds.length ∧ ∀ w ∈ ws, B w
  | _, _, .nil, _ => ⟨[], rfl, rfl, fun w m => nomatch m⟩
  | _, _, .cons (d := d) (ds := r) h1 h2, ok => by
    obtain ⟨i, rfl, hi⟩ := ok _ (List.mem_cons_self ..)
    cases h1
    obtain ⟨ws, rfl, lw, okw⟩ := ints_form (B := B) h2 fun x m => ok x (List.mem_cons_of_mem _ m)
    refine ⟨i :: ws, rfl, by rw [List.length_cons, List.length_cons, lw], fun w m => ?_⟩
    rcases List.mem_cons.mp m with z | m
    · rw [z]; exact hi
    · exact okw w m
def PairD (S : List Int) (u : PyData) : Prop := ∃ x y, u = .tuple [x, y] ∧ TermD S x ∧ TermD S y
/-- a question drawn -/
def QD (S ws : List Int) (d : PyData) : Prop := ∃ hs ats us, d = .tuple [.tuple hs, .tuple ats, .tuple us] ∧ hs.length ≤ 3 ∧ 1 ≤ ats.length ∧ ats.length ≤ 8 ∧ us.length ≤ 8 ∧ (∀ y ∈ hs, TermD S y) ∧ (∀ x ∈ ats, AtomD S ws x) ∧ ∀ u ∈ us, PairD S u
def Vals2 (S : List Int) : Prop := S.length = 2 ∧ ∀ i ∈ S, 0 ≤ i ∧ i ≤ 1000000000
def spLarge (K : PySem.W.Frag) : Sp := fun vs H Q _ => ∃ (a c W : Addr) (G : Hp) (ws : List Int) (n : Nat), vs = [.ref a, .ref W, .int (n : Nat)] ∧ Hand MO H a c ∧ Same G H ∧ G a = none ∧ G W = some (.lst (ws.map V.int)) ∧ ws ≠ [] ∧ ws.length ≤ 6 ∧ (∀ w ∈ ws, 1 ≤ w ∧ w ≤ 3) ∧ n ≤ 3 ∧
  Drawn a c H G (fun d => ∃ S, Vals2 S ∧ QD S ws d) Q
section
variable {P : Program} {w : World} {K : PySem.W.Frag} {mg : Str → Option Value} {base : Heap}
theorem sc__law_large_question : FnScope ["_law_hand_here", "_law_widths", "_law_length", "_law_few", "_law_values", "_law_body_here", "_law_head", "_law_unlike", "_law_step"] ["_law_hand_here", "_law_widths", "_law_length"] (defScope (topS 61)) := ⟨rfl, rfl, rfl, by decide +kernel, rfl, by decide +kernel, by decide +kernel⟩
theorem ok__law_large_question {f : Addr} {fd : FuncData} (F : L2.Fun K "_law_large_question" "_law_large_question" (topS 61) f fd) (cT : Cal P w K mg base 2 "_law_take" (spDraw MO)) (cA : Cal P w K mg base 3 "_law_any_value" (spAny K)) (cB : Cal P w K mg base 3 "_law_body" (spBody K)) (cO : Cal P w K mg base 3 "_law_bound" (spBound K)) (m_range : mg "range" = none) (m_tuple : mg "tuple" = none) : FnOk P w K mg base CX0 4 f fd ["_law_hand_here", "_law_widths", "_law_length"] (spLarge K) := by
  refine F.ok sc__law_large_question (fun vs H Q E h => ?_) (fun cdv A outer s0 H vs Q E hr h => ?_)
  · obtain ⟨a, c, W, G, ws, n, rfl, _⟩ := h
    rfl
  · obtain ⟨a, c, W, G, ws, n, rfl, hh, sG, nG, hW, wne, w6, w3, n3, k⟩ := h
    refine ⟨_, (pss_cons (ps_set (i := 3) sc__law_large_question.nd rfl (.inl rfl) (pe_cmpR op_gt (pe_c cT hr (by decide) rfl (pa_cons (pv 0) (pa_cons pe_int pa_nil))) pe_int (nomark _)))
      (pss_cons (ps_set (i := 4) sc__law_large_question.nd rfl (.inr rfl) (pe_lc (own := [("_law_step", 8)]) (g := gName 8) (tt := tYes) rfl sc__law_large_question.nd (pi_range1 (by rfl) m_range (pa_cons pe_int pa_nil)) (blkOk_by (N := ["_law_hand_here", "_law_widths", "_law_length", "_law_few", "_law_values", "_law_body_here", "_law_head", "_law_unlike", "_law_step"]) (sc := defScope (topS 61)) (by decide +kernel)) (fun _ _ _ _ _ => pg_name (i := 8) sc__law_large_question.nd rfl (Or.inl rfl)) (fun _ _ _ _ _ => pts_nil) (fun _ _ _ _ _ => (show PE _ _ (tCall (spAny K) [] E0 (tCons (tVar 0) tNil)) from (pe_c cA hr (by decide) rfl (pa_cons (pv 0) pa_nil))))))
      (pss_cons (ps_set (i := 5) sc__law_large_question.nd rfl (.inr rfl) (pe_c cB hr (by decide) rfl (pa_cons (pv 0) (pa_cons (pv 1) (pa_cons (pe_op op_add pe_int (pe_c cT hr (by decide) rfl (pa_cons (pv 0) (pa_cons (pe_ifExp (pt_truth (pv 3) (by intro _; rfl)) pe_int pe_int) pa_nil)))) (pa_cons (pe_op op_add pe_int (pe_c cT hr (by decide) rfl (pa_cons (pv 0) (pa_cons (pe_ifExp (pt_truth (pv 3) (by intro _; rfl)) pe_int pe_int) pa_nil)))) (pa_cons (pv 4) pa_nil)))))))
      (pss_cons (ps_setLc (i := 6) (own := [("_law_step", 8)]) (g := gName 8) (tt := tYes) rfl sc__law_large_question.nd rfl rfl rfl (pi_range1 (by rfl) m_range (pa_cons (pv 2) pa_nil)) (blkOk_by (N := ["_law_hand_here", "_law_widths", "_law_length", "_law_few", "_law_values", "_law_body_here", "_law_head", "_law_unlike", "_law_step"]) (sc := defScope (topS 61)) (by decide +kernel)) (fun _ _ _ _ _ => pg_name (i := 8) sc__law_large_question.nd rfl (Or.inl rfl)) (fun _ _ _ _ _ => pts_nil) (fun _ _ _ _ _ => (show PE _ _ (tCall (spBound K) [] E0 (tCons (tVar 0) (tCons (tVar 5) (tCons (tVar 4) tNil)))) from (pe_c cO hr (by decide) rfl (pa_cons (pv 0) (pa_cons (pv 5) (pa_cons (pv 4) pa_nil)))))))
      (pss_cons (ps_set (i := 7) sc__law_large_question.nd rfl (.inl rfl) (pe_lst pa_nil))
      (pss_cons (ps_for PassesOwn.never rfl (pi_range1 (by rfl) m_range (pa_cons (pe_c cT hr (by decide) rfl (pa_cons (pv 0) (pa_cons (pe_ifExp (pt_truth (pv 3) (by intro _; rfl)) pe_int pe_int) pa_nil))) pa_nil)) (pg_name (i := 8) sc__law_large_question.nd rfl (.inl rfl)) (pss_one (ps_expr (pe_bm PySem.F.plainAttrs_list PySem.F.slot_list_append PySem.F.type_list_append mt_append (pv 7) (pa_cons (pe_tup (pa_cons (pe_c cO hr (by decide) rfl (pa_cons (pv 0) (pa_cons (pv 5) (pa_cons (pv 4) pa_nil)))) (pa_cons (pe_c cO hr (by decide) rfl (pa_cons (pv 0) (pa_cons (pv 5) (pa_cons (pv 4) pa_nil)))) pa_nil))) pa_nil)))))
      (pss_one (ps_ret (pe_tup (pa_cons (pe_callTy call_tuple_of (by rfl) m_tuple (by decide +kernel) (pa_cons (pv 6) pa_nil)) (pa_cons (pe_callTy call_tuple_of (by rfl) m_tuple (by decide +kernel) (pa_cons (pv 5) pa_nil)) (pa_cons (pe_callTy call_tuple_of (by rfl) m_tuple (by decide +kernel) (pa_cons (pv 7) pa_nil)) pa_nil)))))))))))), ?_⟩
    have x0 := Ext.refl (hand_some hh) sG nG
    dsimp only [tSeq, tAsg]
    refine tk hh x0 rfl (fun R h => h) (by omega) (by omega) fun v H1 v0 v1 h1 x1 sx1 => ?_
    refine ⟨_, _, rfl, rfl, ?_⟩
    dsimp only [gName, tSeq, tAsg, tNext]
    generalize decide (0 < v) = b
    refine lcDraw (a := a) (c := c) (G := G) (fun d => ∃ i : Int, d = .int i ∧ 0 ≤ i ∧ i ≤ 1000000000) (fun n => n = 2) (fun R hR => hR 2 H1 G rfl (by omega) h1 (Ext.refl (hand_some h1) x1.sub x1.off)) (by intro _; rfl) (fun i H2 G2 R1 h2 x2 hR => ?_) (fun n2 V0 ys ds H2 G2 hB h2 x2 gV all len ok => ?_)
    · exact ⟨_, rfl, a, c, G2, rfl, h2, x2.sub, x2.off, hR⟩
    obtain ⟨S, rfl, lS, okS⟩ := ints_form all ok
    have v2 : Vals2 S := ⟨by omega, okS⟩
    have x02 := x1.trans x2
    have Sne : S ≠ [] := fun z => by rw [z] at lS; simp at lS; omega
    refine ⟨_, rfl, _, rfl, ?_⟩
    refine tk (m := if b = true then 3 else 8) h2 x02 rfl (fun R h => ⟨_, rfl, b, rfl, by cases b <;> exact h⟩) (by split <;> omega) (by split <;> omega) fun k1 H3 k10 k11 h3 x3 sx3 => ?_
    refine ⟨_, _, rfl, rfl, ?_⟩
    refine tk (m := if b = true then 3 else 8) h3 x3 rfl (fun R h => ⟨_, rfl, b, rfl, by cases b <;> exact h⟩) (by split <;> omega) (by split <;> omega) fun m1 H4 m10 m11 h4 x4 sx4 => ?_
    have k18 : k1 < 8 := by split at k11 <;> omega
    have m18 : m1 < 8 := by split at m11 <;> omega
    obtain ⟨kn, rfl⟩ : ∃ n : Nat, k1 = (n : Int) := ⟨k1.toNat, (Int.toNat_of_nonneg k10).symm⟩
    have ek : (1 : Int) + (kn : Int) = ((kn + 1 : Nat) : Int) := by omega
    refine ⟨_, _, rfl, rfl, _, rfl, ?_⟩
    have gW2 := x4.up _ _ hW
    refine ⟨a, c, W, V0, G2, S, ws, kn + 1, 1 + m1, by rw [← ek]; rfl, h4, x4.sub, x4.off, gW2, wne, w6, w3, gV, Sne, by omega, by omega, by omega, by omega, fun B bs ats H5 G5 h5 x5 gB allB lenB okB => ?_⟩
    have x05 := x4.trans x5
    have gV5 := x5.up _ _ gV
    dsimp only [gName, tSeq, tAsg, tNext]
    have xr5 := Ext.refl (hand_some h5) x5.sub x5.off
    have bnd : ∀ (σ : L2.St) (H6 G6 : Hp) (R1 : VK), σ[0]? = some (some (.ref a)) → σ[5]? = some (some (.ref B)) → σ[4]? = some (some (.ref V0)) → Hand MO H6 a c → Ext a H5 G5 H6 G6 → (∀ y d H2 G2, Hand MO H2 a c → Ext a H6 G6 H2 G2 → Dq G2 y d → TermD S d → R1 y H2) →
        tCall (spBound K) [] E0 (tCons (tVar 0) (tCons (tVar 5) (tCons (tVar 4) tNil))) σ H6 R1 := fun σ H6 G6 R1 e0 e5 e4 h6 x6 hR =>
      ⟨_, e0, _, e5, _, e4, a, c, B, V0, G6, bs, ats, S, ws, rfl, h6, x6.sub, x6.off, w3, x6.up _ _ gB, allB.keep x6.up, by omega, okB, x6.up _ _ gV5, Sne, by omega, hR⟩
    refine lcDraw (a := a) (c := c) (G := G5) (H := H5) (TermD S) (fun m => m = n) (fun R hR => ⟨_, rfl, hR n H5 G5 rfl (by omega) h5 xr5⟩) (by intro _; rfl) (fun i H6 G6 R1 h6 x6 hR => bnd _ H6 G6 R1 rfl rfl rfl h6 x6 hR) (fun n6 D ys ds H6 G6 hB6 h6 x6 gD all6 len6 ok6 => ?_)
    refine ⟨Nat.zero_le _, fun U nU => ?_⟩
    obtain ⟨Ua, Uc⟩ := hand_apart h6 nU
    have gU : G6 U = none := by
      cases e : G6 U with
      | none => rfl
      | some u => rw [x6.sub _ _ e] at nU; cases nU
    have xr6 := Ext.refl (hand_some h6) x6.sub x6.off
    try dsimp only [gName, tSeq, tAsg, tNext]
    refine tk (m := if b = true then 3 else 9) (hand_keep h6 nU) (xr6.mk0 nU) rfl (fun R h => ⟨_, rfl, b, rfl, by cases b <;> exact h⟩) (by split <;> omega) (by split <;> omega) fun un H7 un0 un1 h7 x7 sx7 => ?_
    have un9 : un < 9 := by split at un1 <;> omega
    obtain ⟨nn, rfl⟩ : ∃ n : Nat, un = (n : Int) := ⟨un.toNat, (Int.toNat_of_nonneg un0).symm⟩
    have hU7 := sx7 U _ Ua upd_same
    refine ⟨(nn : Int), rfl, by omega, by omega, ?_⟩
    rw [Int.toNat_natCast]
    refine for_range (lo := 0) (n := nn) (fun i σ H' => (∃ v8, σ = [some (.ref a), some (.ref W), some (.int (n : Nat)), some (.bl b), some (.ref V0), some (.ref B), some (.ref D), some (.ref U), v8]) ∧ ∃ G' gs us, Hand MO H' a c ∧ Ext a H6 G6 H' G' ∧ H' U = some (.lst gs) ∧ G' U = none ∧ DqAll G' gs us ∧ us.length = i ∧ ∀ u ∈ us, PairD S u) ?_ ?_ ?_
    · exact ⟨⟨_, rfl⟩, G6, [], [], h7, x7, hU7, gU, .nil, rfl, fun u m => nomatch m⟩
    · rintro i σ H8 li ⟨⟨v8, rfl⟩, G8, gs, us, h8, x8, hU8, gU8, all8, len8, ok8⟩
      dsimp only [gName]
      have x68 := x6.trans x8
      refine ⟨_, rfl, .inl ⟨rfl, _, SqL.of hU8⟩, ?_⟩
      refine bnd _ H8 G8 _ rfl rfl rfl h8 x68 fun y d H9 G9 h9 x9 hy rd => ?_
      refine bnd _ H9 G9 _ rfl rfl rfl h9 (x68.trans x9) fun z e HA GA hA xA hz re => ?_
      refine ⟨Nat.le_of_lt (small1000 (by show 2 ≤ 1000; omega)), fun p np => ?_⟩
      have xx := (x8.trans x9).trans xA
      have xp := xx.mk_ (o := HO.tup [y, z]) np
      have hp := hand_keep (o := HO.tup [y, z]) hA np
      obtain ⟨hU9, gU9⟩ := x9.stays hU8 gU8 Ua
      obtain ⟨hUA, gUA⟩ := xA.stays hU9 gU9 Ua
      have gp : GA p = none := by
        cases e : GA p with
        | none => rfl
        | some u => rw [xA.sub _ _ e] at np; cases np
      have hUp := same_upd (o := HO.tup [y, z]) np _ _ hUA
      have gUp : (upd GA p (.tup [y, z])) U = none := by
        rw [upd_ne (ne_of_none hUA np)]
        exact gUA
      have dp : Dq (upd GA p (.tup [y, z])) (.ref p) (.tuple [d, e]) := .tup upd_same (.cons ((hy.keep xA.up).keep (same_upd gp)) (.cons (hz.keep (same_upd gp)) .nil))
      have upA : Same G8 (upd GA p (.tup [y, z])) := (x9.up.trans xA.up).trans (same_upd gp)
      refine ⟨U, _, _, rfl, rfl, hUp, small1000 (by rw [all8.len, len8]; omega), ⟨_, rfl⟩, _, gs ++ [.ref p], us ++ [.tuple [d, e]], hand_upd hp Ua Uc, xp.put nU gUp Ua, upd_same, gUp, (all8.keep upA).snoc dp, by rw [List.length_append, len8]; rfl, fun u m => ?_⟩
      rcases List.mem_append.mp m with m | m
      · exact ok8 u m
      · rw [List.mem_singleton.mp m]
        exact ⟨d, e, rfl, rd, re⟩
    · rintro σ H8 ⟨⟨v8, rfl⟩, G8, gs, us, h8, x8, hU8, gU8, all8, len8, ok8⟩
      have gD8 := x8.up _ _ gD
      have gB8 := x8.up _ _ (x6.up _ _ gB)
      have xT := (x05.trans x6).trans x8
      refine ⟨_, rfl, D, _, rfl, .inl ⟨SqL.of (x8.sub _ _ gD8), fun p1 n1 => ?_⟩⟩
      have y1 := xT.mk_ (o := HO.tup ys) n1
      have k1 := hand_keep (o := HO.tup ys) h8 n1
      have f1 : G8 p1 = none := by
        cases e : G8 p1 with
        | none => rfl
        | some u => rw [x8.sub _ _ e] at n1; cases n1
      have s1 := same_upd (o := HO.tup ys) f1
      have t1 := same_upd (o := HO.tup ys) n1
      have q1 : (upd G8 p1 (.tup ys)) p1 = some (.tup ys) := upd_same
      generalize upd H8 p1 (.tup ys) = J1 at y1 k1 t1 ⊢
      generalize upd G8 p1 (.tup ys) = F1 at y1 s1 q1
      refine ⟨_, rfl, B, _, rfl, .inl ⟨SqL.of (t1 _ _ (x8.sub _ _ gB8)), fun p2 n2 => ?_⟩⟩
      have y2 := y1.mk_ (o := HO.tup bs) n2
      have k2 := hand_keep (o := HO.tup bs) k1 n2
      have f2 : F1 p2 = none := by
        cases e : F1 p2 with
        | none => rfl
        | some u => rw [y1.sub _ _ e] at n2; cases n2
      have s2 := same_upd (o := HO.tup bs) f2
      have t2 := same_upd (o := HO.tup bs) n2
      have q2 : (upd F1 p2 (.tup bs)) p2 = some (.tup bs) := upd_same
      generalize upd J1 p2 (.tup bs) = J2 at y2 k2 t2 ⊢
      generalize upd F1 p2 (.tup bs) = F2 at y2 s2 q2
      refine ⟨_, rfl, U, _, rfl, .inl ⟨SqL.of (t2 _ _ (t1 _ _ hU8)), fun p3 n3' => ?_⟩⟩
      have y3 := y2.mk_ (o := HO.tup gs) n3'
      have k3 := hand_keep (o := HO.tup gs) k2 n3'
      have f3 : F2 p3 = none := by
        cases e : F2 p3 with
        | none => rfl
        | some u => rw [y2.sub _ _ e] at n3'; cases n3'
      have s3 := same_upd (o := HO.tup gs) f3
      have q3 : (upd F2 p3 (.tup gs)) p3 = some (.tup gs) := upd_same
      generalize upd J2 p3 (.tup gs) = J3 at y3 k3 ⊢
      generalize upd F2 p3 (.tup gs) = F3 at y3 s3 q3
      refine ⟨Nat.le_of_lt (small1000 (by show 3 ≤ 1000; omega)), fun p n4 => ?_⟩
      have y4 := y3.mk_ (o := HO.tup [.ref p1, .ref p2, .ref p3]) n4
      have k4 := hand_keep (o := HO.tup [.ref p1, .ref p2, .ref p3]) k3 n4
      have f4 : F3 p = none := by
        cases e : F3 p with
        | none => rfl
        | some u => rw [y3.sub _ _ e] at n4; cases n4
      have s4 := same_upd (o := HO.tup [V.ref p1, V.ref p2, V.ref p3]) f4
      have s14 := (s2.trans s3).trans s4
      refine k _ (.tuple [.tuple ds, .tuple ats, .tuple us]) _ _ k4 y4 (.tup upd_same (.cons (.tup (s14 _ _ q1) (((all6.keep x8.up).keep s1).keep s14)) (.cons (.tup ((s3.trans s4) _ _ q2) ((((allB.keep x6.up).keep x8.up).keep s1).keep s14)) (.cons (.tup (s4 _ _ q3) ((all8.keep s1).keep s14)) .nil)))) ?_
      exact ⟨S, v2, ds, ats, us, rfl, by omega, by omega, by omega, by omega, ok6, okB, ok8⟩
end
end My
set_option Elab.async false
set_option linter.all false
set_option maxRecDepth 100000
set_option maxHeartbeats 4000000
namespace My
open PySem PySem.Spec PyProof.Rows L2

/-! ### lists and tuples in one another's place -/
/-- [drawn anew from x for x in xs] -/
theorem lcLoose {K : PySem.W.Frag} {j : Nat} {vs : List Nat} {σ : L2.St} {a c s : Addr} {Hn Gn : Hp} {Q : VK} {ti te : TE} {xs : List V} {ds : List PyData} (hh : Hand MO Hn a c) (sG : Same Gn Hn) (nG : Gn a = none)
    (hv : ∀ R : VK, R (.ref s) Hn → ti σ Hn R) (hs : Gn s = some (.lst xs) ∨ Gn s = some (.tup xs)) (hd : DqAll Gn xs ds) (few : ds.length ≤ 1000)
    (hw : ∀ x, wipe ((wipe σ vs).set j (some x)) vs = wipe σ vs)
    (he : ∀ (x : V) (d : PyData) (H1 G1 : Hp) (R1 : VK), d ∈ ds → Dq G1 x d → Hand MO H1 a c → Ext a Hn Gn H1 G1 → (∀ y e H2 G2, Hand MO H2 a c → Ext a H1 G1 H2 G2 → Dq G2 y e → deepD e = deepD d → R1 y H2) → te ((wipe σ vs).set j (some x)) H1 R1)
    (hq : ∀ (D : Addr) (ys : List V) (es : List PyData) (H1 G1 : Hp), Hand MO H1 a c → Ext a Hn Gn H1 G1 → G1 D = some (.lst ys) → DqAll G1 ys es → es.map deepD = ds.map deepD → Q (.ref D) H1) : tLc (iSeq K ti) (gName j) tYes te vs σ Hn Q := by
  have len := hd.len
  have core : ∀ (J : It) (GG : Hp → Prop), Walk J xs.length GG (YAt xs) → (∀ H' G', Ext a Hn Gn H' G' → GG H') → ∀ D, Hn D = none → ∃ W : Nat → Nat → Hp → Prop, (∃ m, W 0 m (upd Hn D (.lst []))) ∧ ∀ i m H, W i m H →
      (J.stop i H ∧ Q (.ref D) H) ∨ (J.go i H ∧ ∃ Nx : Hp → Prop, (∀ H', Nx H' → ∃ m', m' < m ∧ W (i + 1) m' H') ∧ ∀ x H', J.yld i H x H' → gName j x (wipe σ vs) H' fun σ2 H2 => wipe σ2 vs = wipe σ vs ∧ tYes σ2 H2 fun b H3 =>
        if b = true then te σ2 H3 fun y H4 => ∃ acc, H4 D = some (.lst acc) ∧ acc.length < sizeLine ∧ Nx (upd H4 D (.lst (acc ++ [y]))) else Nx H3) := by
    intro J GG w hG D nD
    obtain ⟨Da, Dc⟩ := hand_apart hh nD
    have gD : Gn D = none := by
      cases e : Gn D with
      | none => rfl
      | some u => rw [sG _ _ e] at nD; cases nD
    let Pv : Nat → Hp → Prop := fun i H' => ∃ G' ys es, Hand MO H' a c ∧ Ext a Hn Gn H' G' ∧ H' D = some (.lst ys) ∧ G' D = none ∧ DqAll G' ys es ∧ es.map deepD = (ds.take i).map deepD
    refine ⟨fun i m H' => m = xs.length - i ∧ i ≤ xs.length ∧ Pv i H', ⟨xs.length, rfl, Nat.zero_le _, Gn, [], [], hand_keep hh nD, (Ext.refl (hand_some hh) sG nG).mk0 nD, upd_same, gD, .nil, rfl⟩, ?_⟩
    rintro i m H' ⟨rfl, hi, G', ys, es, h1, x1, hD, gD1, all, same⟩
    by_cases lt : i < xs.length
    · refine .inr ⟨w.goes i H' lt (hG _ _ x1), Pv (i + 1), fun H2 p => ⟨xs.length - (i + 1), by omega, rfl, lt, p⟩, ?_⟩
      intro x H2 y
      obtain ⟨rfl, ex⟩ := w.yields i H' x H2 lt (hG _ _ x1) y
      obtain ⟨d, ed, hxd⟩ := hd.get ex
      refine ⟨hw _, ?_⟩
      dsimp only [tYes]
      refine iteT (he x d H2 G' _ (List.mem_of_getElem? ed) (hxd.keep x1.up) h1 x1 fun y e H3 G3 h3 x3 hy eq => ?_)
      obtain ⟨hD3, gD3⟩ := x3.stays hD gD1 Da
      have le : es.length = i := by
        have z := congrArg List.length same
        rw [List.length_map, List.length_map, List.length_take] at z
        omega
      refine ⟨ys, hD3, small1000 (by rw [all.len, le]; omega), G3, ys ++ [y], es ++ [e], hand_upd h3 Da Dc, (x1.trans x3).put nD gD3 Da, upd_same, gD3, (all.keep x3.up).snoc hy, ?_⟩
      rw [List.take_add_one, ed, List.map_append, List.map_append, same]
      show _ ++ [deepD e] = _ ++ [deepD d]
      rw [eq]
    · have e : i = xs.length := by omega
      subst e
      rw [len, List.take_length] at same
      exact .inl ⟨w.stops H' (hG _ _ x1), hq D ys es H' _ h1 (x1.ice nD hD gD1 Da) upd_same (all.keep (same_upd gD1)) same⟩
  rcases hs with hs | hs
  · exact .inl (hv _ ⟨s, rfl, ⟨_, SqL.of (sG _ _ hs)⟩, core _ _ (walk_list (K := K) (a := s)) fun H' G' x => SqL.of (x.sub _ _ (x.up _ _ hs))⟩)
  · exact .inr (hv _ ⟨s, rfl, ⟨_, SqT.of (sG _ _ hs)⟩, core _ _ (walk_tup (K := K) (a := s)) fun H' G' x => SqT.of (x.sub _ _ (x.up _ _ hs))⟩)
def spLoose (K : PySem.W.Frag) (n : Nat) : Sp := fun vs H Q _ => ∃ (a c : Addr) (x : V) (G : Hp) (d : PyData), vs = [.ref a, x] ∧ Hand MO H a c ∧ Same G H ∧ G a = none ∧ Dq G x d ∧ fewD d = true ∧ dep d ≤ n ∧ Drawn a c H G (fun e => deepD e = deepD d) Q
section
variable {P : Program} {w : World} {K : PySem.W.Frag} {mg : Str → Option Value} {base : Heap}
theorem sc__law_loose : FnScope ["_law_hand_here", "_law_thing", "_law_items", "_law_item"] ["_law_hand_here", "_law_thing"] (defScope (topS 55)) := ⟨rfl, rfl, rfl, by decide +kernel, rfl, by decide +kernel, by decide +kernel⟩
theorem ok__law_loose {f : Addr} {fd : FuncData} (F : L2.Fun K "_law_loose" "_law_loose" (topS 55) f fd) (mf : mg "_law_loose" = some (.ref f)) (b : Binds K fd ["_law_hand_here", "_law_thing"] []) (cS : Cal P w K mg base 1 "_law_seq" (spLSeq K)) (cT : Cal P w K mg base 2 "_law_take" (spDraw MO)) (m_tuple : mg "tuple" = none) : ∀ n : Nat, FnOk P w K mg base CX0 (n + 3) f fd ["_law_hand_here", "_law_thing"] (spLoose K n) := by
  intro n
  induction n with
  | zero =>
    refine F.ok sc__law_loose (fun vs H Q E h => ?_) (fun cdv A outer s0 H vs Q E hr h => ?_)
    · obtain ⟨a, c, x, G, d, rfl, _⟩ := h
      rfl
    · obtain ⟨a, c, x, G, d, rfl, hh, sG, nG, hd, few, hn, k⟩ := h
      refine ⟨_, (pss_cons (ps_if (pt_val (pe_c cS hr (by omega) rfl (pa_cons (pv 1) pa_nil))) pss_never pss_nil)
      (pss_one (ps_ret (pv 1)))), ?_⟩
      refine ⟨_, rfl, x, d, rfl, hd.keep sG, _, rfl, ?_⟩
      cases e : seqOf d with
      | some ds =>
        exfalso
        cases d with
        | list es => rw [dep] at hn; omega
        | tuple es => rw [dep] at hn; omega
        | _ => cases e
      | none => exact iteF ⟨_, rfl, k x d H G hh (Ext.refl (hand_some hh) sG nG) hd rfl⟩
  | succ n ih =>
    have cI : Cal P w K mg base (n + 3) "_law_loose" (spLoose K n) := ⟨⟨f, fd, _, ih, mf, F.kp, b⟩⟩
    refine F.ok sc__law_loose (fun vs H Q E h => ?_) (fun cdv A outer s0 H vs Q E hr h => ?_)
    · obtain ⟨a, c, x, G, d, rfl, _⟩ := h
      rfl
    · obtain ⟨a, c, x, G, d, rfl, hh, sG, nG, hd, few, hn, k⟩ := h
      refine ⟨_, (pss_cons (ps_if (pt_val (pe_c cS hr (by omega) rfl (pa_cons (pv 1) pa_nil))) (pss_cons (ps_setLc (i := 2) (own := [("_law_item", 3)]) (g := gName 3) (tt := tYes) rfl sc__law_loose.nd rfl rfl rfl (pi_seq (pv 1)) (blkOk_by (N := ["_law_hand_here", "_law_thing", "_law_items", "_law_item"]) (sc := defScope (topS 55)) (by decide +kernel)) (fun _ _ _ _ _ => pg_name (i := 3) sc__law_loose.nd rfl (Or.inl rfl)) (fun _ _ _ _ _ => pts_nil) (fun _ _ _ _ _ => (show PE _ _ (tCall (spLoose K n) [] E0 (tCons (tVar 0) (tCons (tVar 3) tNil))) from (pe_c cI hr (by omega) rfl (pa_cons (pv 0) (pa_cons (pv 3) pa_nil)))))) (pss_one (ps_ret (pe_ifExp (pt_truth (pe_c cT hr (by omega) rfl (pa_cons (pv 0) (pa_cons pe_int pa_nil))) (by intro _; rfl)) (pv 2) (pe_callTy call_tuple_of (by rfl) m_tuple (by decide +kernel) (pa_cons (pv 2) pa_nil)))))) pss_nil)
      (pss_one (ps_ret (pv 1)))), ?_⟩
      refine ⟨_, rfl, x, d, rfl, hd.keep sG, _, rfl, ?_⟩
      cases e : seqOf d with
      | some ds =>
        refine iteT ?_
        obtain ⟨s, xs, rfl, hs, hall⟩ := hd.seq e
        obtain ⟨few1, few2⟩ := few_items few
        rw [itemsD_some e] at few1 few2
        dsimp only [tNext, tSeq, tAsg]
        refine lcLoose (K := K) hh sG nG (fun R h => ⟨_, rfl, h⟩) hs hall few1 (by intro _; rfl) (fun y t H1 G1 R1 m hy h1 x1 go => ?_) (fun D ys es H1 G1 h1 x1 gD all same => ?_)
        · exact ⟨_, rfl, _, rfl, a, c, y, G1, t, rfl, h1, x1.sub, x1.off, hy, few2 t m, dep_seq e hn t m, go⟩
        · have xr := Ext.refl (hand_some h1) x1.sub x1.off
          try dsimp only [gName, tSeq, tAsg, tNext, tRet, tIf]
          refine tk h1 x1 rfl (fun R h => h) (by omega) (by omega) fun v H2 v0 v1 h2 x2 sx2 => ?_
          have deep : ∀ e', (e' = .list es ∨ e' = .tuple es) → deepD e' = deepD d := fun e' z => by
            rw [deep_seq e, ← same]
            rcases z with rfl | rfl
            · rw [deepD, deepDs_map]
            · rw [deepD, deepDs_map]
          by_cases z : v = 0
          · subst z
            refine ⟨false, rfl, iteF ⟨_, rfl, D, _, rfl, .inl ⟨SqL.of (x2.sub _ _ gD), fun l nl => ?_⟩⟩⟩
            have gl : G1 l = none := by
              cases e : G1 l with
              | none => rfl
              | some u => rw [x2.sub _ _ e] at nl; cases nl
            exact k _ (.tuple es) _ _ (hand_keep h2 nl) (x2.mk_ nl) (.tup upd_same (all.keep (same_upd gl))) (deep _ (.inr rfl))
          · have ev : (v != 0) = true := by
              rw [bne_iff_ne]
              exact z
            exact ⟨true, ev.symm, iteT ⟨_, rfl, k _ (.list es) _ _ h2 x2 (.lst gD all) (deep _ (.inl rfl))⟩⟩
      | none => exact iteF ⟨_, rfl, k x d H G hh (Ext.refl (hand_some hh) sG nG) hd rfl⟩
end
end My
set_option Elab.async false
set_option linter.all false
set_option maxRecDepth 100000
set_option maxHeartbeats 4000000
namespace My
open PySem PySem.Spec PyProof.Rows L2

/-! ### small things: how large, how deep, which values -/
mutual
def inL (L : List Int) : PyData → Bool
  | .none => true
  | .bool _ => true
  | .int i => !(decide (0 ≤ i) && decide (i ≤ 1000000000)) || decide (i ∈ L)
  | .str _ => true
  | .dict _ => true
  | .list ds => inLs L ds
  | .tuple ds => inLs L ds
def inLs (L : List Int) : List PyData → Bool
  | [] => true
  | d :: ds => inL L d && inLs L ds
end
theorem inLs_of {L : List Int} {ds : List PyData} (h : ∀ d ∈ ds, inL L d = true) : inLs L ds = true := by
  induction ds with
  | nil => rw [inLs]
  | cons d r ih =>
    rw [inLs, h d (List.mem_cons_self ..), ih fun x m => h x (List.mem_cons_of_mem _ m)]
    rfl
theorem inLs_mem {L : List Int} {ds : List PyData} {d : PyData} (h : inLs L ds = true) (m : d ∈ ds) : inL L d = true := by
  induction ds with
  | nil => cases m
  | cons e r ih =>
    rw [inLs, Bool.and_eq_true] at h
    rcases List.mem_cons.mp m with z | z
    · rw [z]; exact h.1
    · exact ih h.2 z
mutual
theorem inL_mono {L M : List Int} (s : ∀ i ∈ L, i ∈ M) : ∀ d : PyData, inL L d = true → inL M d = true
  | .none, _ => by rw [inL]
  | .bool _, _ => by rw [inL]
  | .int i, h => by
    rw [inL, Bool.or_eq_true] at h ⊢
    exact h.imp id fun h => decide_eq_true (s i (of_decide_eq_true h))
  | .str _, _ => by rw [inL]
  | .dict _, _ => by rw [inL]
  | .list ds, h => by
    rw [inL] at h ⊢
    exact inLs_mono s ds h
  | .tuple ds, h => by
    rw [inL] at h ⊢
    exact inLs_mono s ds h
theorem inLs_mono {L M : List Int} (s : ∀ i ∈ L, i ∈ M) : ∀ ds : List PyData, inLs L ds = true → inLs M ds = true
  | [], _ => by rw [inLs]
  | d :: ds, h => by
    rw [inLs, Bool.and_eq_true] at h ⊢
    exact ⟨inL_mono s d h.1, inLs_mono s ds h.2⟩
end
structure Sm (L : List Int) (m k : Nat) (d : PyData) : Prop where
  leaf : leafD d = true
  few : fewD d = true
  dp : dep d ≤ k
  sz : szD d ≤ m
  vals : inL L d = true
theorem Sm.mono {L M : List Int} {m k m' k' : Nat} {d : PyData} (h : Sm L m k d) (s : ∀ i ∈ L, i ∈ M) (hm : m ≤ m') (hk : k ≤ k') : Sm M m' k' d :=
  ⟨h.leaf, h.few, Nat.le_trans h.dp hk, Nat.le_trans h.sz hm, inL_mono s d h.vals⟩
theorem depAll_le {ds : List PyData} {k : Nat} (h : ∀ d ∈ ds, dep d ≤ k) : depAll ds ≤ k := by
  induction ds with
  | nil => exact Nat.zero_le _
  | cons d r ih =>
    have h1 := h d (List.mem_cons_self ..)
    have h2 := ih fun x m => h x (List.mem_cons_of_mem _ m)
    rw [depAll]
    omega
theorem Sm.list {L : List Int} {m k n : Nat} {ds : List PyData} (h : ∀ d ∈ ds, Sm L m k d) (hn : ds.length ≤ n) (n1 : n ≤ 1000) : Sm L ((m + 2) * n + 3) (k + 1) (.list ds) where
  leaf := by rw [leafD]; exact leafDs_of fun d q => (h d q).leaf
  few := by rw [fewD, decide_eq_true (show ds.length ≤ 1000 by omega), fewDs_of fun d q => (h d q).few]; rfl
  dp := by
    rw [dep]
    have := depAll_le fun d q => (h d q).dp
    omega
  sz := by
    rw [szD]
    have z := szDs_le fun d q => (h d q).sz
    have : (m + 2) * ds.length ≤ (m + 2) * n := Nat.mul_le_mul_left _ hn
    omega
  vals := by rw [inL]; exact inLs_of fun d q => (h d q).vals
theorem Sm.tuple {L : List Int} {m k n : Nat} {ds : List PyData} (h : ∀ d ∈ ds, Sm L m k d) (hn : ds.length ≤ n) (n1 : n ≤ 1000) : Sm L ((m + 2) * n + 3) (k + 1) (.tuple ds) where
  leaf := by rw [leafD]; exact leafDs_of fun d q => (h d q).leaf
  few := by rw [fewD, decide_eq_true (show ds.length ≤ 1000 by omega), fewDs_of fun d q => (h d q).few]; rfl
  dp := by
    rw [dep]
    have := depAll_le fun d q => (h d q).dp
    omega
  sz := by
    rw [szD]
    have z := szDs_le fun d q => (h d q).sz
    have : (m + 2) * ds.length ≤ (m + 2) * n := Nat.mul_le_mul_left _ hn
    omega
  vals := by rw [inL]; exact inLs_of fun d q => (h d q).vals
/-- the small values that stand in the law's own text -/
def FL : List Int := [0, 1, 2, 3, 4, 5, 6, 7, 8]
theorem sm_int {L : List Int} {i : Int} (h : i.natAbs < 10 ^ 19) (m : 0 ≤ i → i ≤ 1000000000 → i ∈ L) : Sm L 30 1 (.int i) where
  leaf := by rw [leafD]; exact decide_eq_true h
  few := by rw [fewD]
  dp := by rw [dep]; omega
  sz := by rw [szD]; omega
  vals := by
    rw [inL]
    by_cases c : 0 ≤ i ∧ i ≤ 1000000000
    · rw [decide_eq_true (m c.1 c.2), Bool.or_true]
    · have e : (decide (0 ≤ i) && decide (i ≤ 1000000000)) = false := by
        rw [Bool.and_eq_false_iff]
        by_cases c0 : 0 ≤ i
        · exact .inr (decide_eq_false fun c1 => c ⟨c0, c1⟩)
        · exact .inl (decide_eq_false c0)
      rw [e]
      rfl
theorem sm_str {L : List Int} {s : Str} (h : s ∈ wordsD) : Sm L 30 1 (.str s) where
  leaf := by rw [leafD]; exact decide_eq_true h
  few := by rw [fewD]
  dp := by rw [dep]; omega
  sz := by rw [szD]; omega
  vals := by rw [inL]
theorem sm_term {S L : List Int} {y : PyData} (h : TermD S y) (s : ∀ i ∈ S, i ∈ L) (r : ∀ i ∈ S, 0 ≤ i ∧ i ≤ 1000000000) : Sm L 30 1 y := by
  rcases h with ⟨z, m, rfl⟩ | ⟨i, m, rfl⟩
  · exact sm_str (eight_words z m)
  · have := r i m
    exact sm_int (by omega) fun _ _ => s i m
theorem sm_noVal {L : List Int} {y : PyData} (h : NoVal y) (s : ∀ i ∈ FL, i ∈ L) : Sm L 30 1 y where
  leaf := h.1
  few := h.2.1
  dp := h.2.2.1
  sz := h.2.2.2.1
  vals := by
    obtain ⟨_, _, _, _, ht, hi⟩ := h
    have z0 : inL L (.int 0) = true := by
      rw [inL, decide_eq_true (s 0 (by decide)), Bool.or_true]
    cases y with
    | int i =>
      rw [inL]
      have e : (decide (0 ≤ i) && decide (i ≤ 1000000000)) = false := by
        have ht : (false || (decide (0 ≤ i) && decide (i ≤ 1000000000))) = false := ht
        rw [Bool.false_or] at ht
        exact ht
      rw [e]
      rfl
    | list ds =>
      rw [inL]
      exact inLs_of fun d m => by rw [hi d m]; exact z0
    | tuple ds =>
      rw [inL]
      exact inLs_of fun d m => by rw [hi d m]; exact z0
    | _ => rw [inL]
theorem sm_rid {L : List Int} {y : PyData} (h : Rid y) (s : ∀ i ∈ FL, i ∈ L) : Sm L 30 1 y := by
  unfold Rid at h
  simp only [List.mem_cons, List.not_mem_nil, or_false] at h
  rcases h with rfl | rfl | rfl | rfl | rfl | rfl
  · exact ⟨by decide +kernel, by decide +kernel, by decide +kernel, by decide +kernel, by rw [inL]⟩
  · exact sm_int (by decide) fun _ _ => s 3 (by decide)
  · exact sm_str (by decide +kernel)
  · exact ⟨by decide +kernel, by decide +kernel, by decide +kernel, by decide +kernel, by rw [inL]⟩
  · exact ⟨by decide +kernel, by decide +kernel, by decide +kernel, by decide +kernel, by unfold D01; rw [inL]⟩
  · exact sm_int (by decide) fun z _ => by omega
/-- what is fresh now was so before -/
theorem Ext.was {a p : Addr} {H G H1 G1 : Hp} (x : Ext a H G H1 G1) (n : H1 p = none) (pa : p ≠ a) : H p = none := by
  cases e : H p with
  | none => rfl
  | some u => rw [x.old p u pa e] at n; cases n
theorem Ext.gone {a p : Addr} {H G H1 G1 : Hp} (x : Ext a H G H1 G1) (n : H1 p = none) : G1 p = none := by
  cases e : G1 p with
  | none => rfl
  | some u => rw [x.sub _ _ e] at n; cases n
/-- an atom spoilt -/
def spSpoilt (K : PySem.W.Frag) : Sp := fun vs H Q _ => ∃ (a c W : Addr) (x : V) (G : Hp) (ws S : List Int) (t : Nat) (ts : List PyData), vs = [.ref a, .ref W, x] ∧ Hand MO H a c ∧ Same G H ∧ G a = none ∧ G W = some (.lst (ws.map V.int)) ∧ ws.length ≤ 6 ∧
  Dq G x (.tuple [.int (t : Nat), .tuple ts]) ∧ t < ws.length ∧ ts.length ≤ 3 ∧ (∀ y ∈ ts, TermD S y) ∧ (∀ i ∈ S, 0 ≤ i ∧ i ≤ 1000000000) ∧ Drawn a c H G (fun e => ∃ X : List Int, X.length ≤ 2 ∧ Sm (FL ++ (S ++ X)) 600 4 e) Q
section
variable {P : Program} {w : World} {K : PySem.W.Frag} {mg : Str → Option Value} {base : Heap}
end
end My
set_option Elab.async false
set_option linter.all false
set_option maxRecDepth 100000
set_option maxHeartbeats 4000000
namespace My
open PySem PySem.Spec PyProof.Rows L2

/-- how an atom under spoiling stands: its table, its parts (a list of one's own at P) -/
def SpS (a c : Addr) (H G : Hp) (S : List Int) (i : Nat) (P : Addr) (tv : V) (H' : Hp) : Prop := ∃ (G' : Hp) (ys : List V) (ps : List PyData) (td : PyData) (X : List Int), Hand MO H' a c ∧ Ext a H G H' G' ∧ H' P = some (.lst ys) ∧ G' P = none ∧ P ≠ a ∧ P ≠ c ∧ H P = none ∧ DqAll G' ys ps ∧ Dq G' tv td ∧
  ps.length ≤ 3 + i ∧ X.length ≤ i ∧ Sm (FL ++ (S ++ X)) 30 1 td ∧ ∀ p ∈ ps, Sm (FL ++ (S ++ X)) 30 1 p
theorem ixNat {n j : Nat} (hj : j < n) : ixN n (j : Int) = some j := by
  unfold ixN
  rw [if_pos (by omega), if_pos (by omega)]
  simp
theorem more {S X : List Int} {z : Int} : ∀ i ∈ FL ++ (S ++ X), i ∈ FL ++ (S ++ (X ++ [z])) := fun i m => by
  rcases List.mem_append.mp m with m | m
  · exact List.mem_append_left _ m
  · rcases List.mem_append.mp m with m | m
    · exact List.mem_append_right _ (List.mem_append_left _ m)
    · exact List.mem_append_right _ (List.mem_append_right _ (List.mem_append_left _ m))
theorem last {S X : List Int} {z : Int} : z ∈ FL ++ (S ++ (X ++ [z])) := List.mem_append_right _ (List.mem_append_right _ (List.mem_append_right _ (List.mem_singleton.mpr rfl)))
theorem inFL {L : List Int} : ∀ i ∈ FL, i ∈ FL ++ L := fun i m => List.mem_append_left _ m
section
variable {P : Program} {w : World} {K : PySem.W.Frag} {mg : Str → Option Value} {base : Heap}
theorem sc__law_spoilt : FnScope ["_law_hand_here", "_law_widths", "_law_thing", "_law_table", "_law_parts", "_law_turn", "_law_kind"] ["_law_hand_here", "_law_widths", "_law_thing"] (defScope (topS 60)) := ⟨rfl, rfl, rfl, by decide +kernel, rfl, by decide +kernel, by decide +kernel⟩
theorem ok__law_spoilt {f : Addr} {fd : FuncData} (F : L2.Fun K "_law_spoilt" "_law_spoilt" (topS 60) f fd) (cT : Cal P w K mg base 2 "_law_take" (spDraw MO)) (cA : Cal P w K mg base 3 "_law_any_value" (spAny K)) (cN : Cal P w K mg base 3 "_law_no_value" (spNoVal K)) (cR : Cal P w K mg base 3 "_law_rid" (spRid K)) (m_len : mg "len" = none) (m_range : mg "range" = none) (m_list : mg "list" = none) : FnOk P w K mg base CX0 4 f fd ["_law_hand_here", "_law_widths", "_law_thing"] (spSpoilt K) := by
  refine F.ok sc__law_spoilt (fun vs H Q E h => ?_) (fun cdv A outer s0 H vs Q E hr h => ?_)
  · obtain ⟨a, c, W, x, G, ws, S, t, ts, rfl, _⟩ := h
    rfl
  · obtain ⟨a, c, W, x, G, ws, S, t, ts, rfl, hh, sG, nG, hW, w6, hx, tw, t3, okT, okS, k⟩ := h
    refine ⟨_, (pss_cons (ps_set (i := 3) sc__law_spoilt.nd rfl (.inl rfl) (pe_ix ix_seq (pv 2) pe_int (fun _ _ => rfl)))
      (pss_cons (ps_set (i := 4) sc__law_spoilt.nd rfl (.inl rfl) (pe_callTy call_list_of (by rfl) m_list (by decide +kernel) (pa_cons (pe_ix ix_seq (pv 2) pe_int (fun _ _ => rfl)) pa_nil)))
      (pss_cons (ps_for PassesOwn.never rfl (pi_range1 (by rfl) m_range (pa_cons (pe_op op_add pe_int (pe_c cT hr (by decide) rfl (pa_cons (pv 0) (pa_cons pe_int pa_nil)))) pa_nil)) (pg_name (i := 5) sc__law_spoilt.nd rfl (.inl rfl)) (pss_cons (ps_set (i := 6) sc__law_spoilt.nd rfl (.inl rfl) (pe_c cT hr (by decide) rfl (pa_cons (pv 0) (pa_cons pe_int pa_nil)))) (pss_one (ps_if (pt_cmpR op_eq (pv 6) pe_int (nomark _)) (pss_one (ps_set (i := 3) sc__law_spoilt.nd rfl (.inl rfl) (pe_ix ix_tup (pe_tup (pa_cons (pe_un un_neg pe_int) (pa_cons (pe_callB call_len_seq (by rfl) m_len PySem.boot_len (pa_cons (pv 1) pa_nil)) (pa_cons (pe_op op_add (pe_callB call_len_seq (by rfl) m_len PySem.boot_len (pa_cons (pv 1) pa_nil)) (pe_c cT hr (by decide) rfl (pa_cons (pv 0) (pa_cons (pe_op op_pow pe_int pe_int) pa_nil)))) (pa_cons pe_bl (pa_cons pe_bl (pa_cons pe_non (pa_cons pe_str pa_nil)))))))) (pe_c cT hr (by decide) rfl (pa_cons (pv 0) (pa_cons pe_int pa_nil))) (fun _ _ => rfl)))) (pss_one (ps_if (pt_cmpR op_eq (pv 6) pe_int (nomark _)) (pss_one (ps_set (i := 4) sc__law_spoilt.nd rfl (.inl rfl) (pe_op op_cat (pv 4) (pe_lst (pa_cons (pe_c cA hr (by decide) rfl (pa_cons (pv 0) pa_nil)) pa_nil))))) (pss_one (ps_if (pt_cmpR op_eq (pv 6) pe_int (nomark _)) (pss_one (ps_set (i := 4) sc__law_spoilt.nd rfl (.inl rfl) (pe_slice sl_list (pv 4) (po_some pe_int) po_none))) (pss_one (ps_if (PW.pt (pw_and (pt_cmpR op_lt (pv 6) pe_int (nomark _)) (pw_and1 (pt_truth (pv 4) (by intro _; rfl))))) (pss_one (ps_asg (pe_c cN hr (by decide) rfl (pa_cons (pv 0) pa_nil)) (pg_sub (pv 4) (pe_c cT hr (by decide) rfl (pa_cons (pv 0) (pa_cons (pe_callB call_len_seq (by rfl) m_len PySem.boot_len (pa_cons (pv 4) pa_nil)) pa_nil))) set_list))) (pss_one (ps_if (pt_cmpR op_eq (pv 6) pe_int (nomark _)) (pss_one (ps_ret (pe_ix ix_list (pe_lst (pa_cons (pe_c cR hr (by decide) rfl (pa_cons (pv 0) pa_nil)) (pa_cons (pe_lst (pa_cons (pv 3) pa_nil)) (pa_cons (pe_lst (pa_cons (pv 3) (pa_cons (pv 4) (pa_cons (pv 4) pa_nil)))) (pa_cons (pe_lst (pa_cons (pv 3) (pa_cons (pe_c cR hr (by decide) rfl (pa_cons (pv 0) pa_nil)) pa_nil))) (pa_cons (pe_lst (pa_cons (pv 4) (pa_cons (pv 3) pa_nil))) (pa_cons (pe_lst pa_nil) pa_nil))))))) (pe_c cT hr (by decide) rfl (pa_cons (pv 0) (pa_cons pe_int pa_nil))) (fun _ _ => rfl)))) pss_nil))))))))))))
      (pss_one (ps_ret (pe_lst (pa_cons (pv 3) (pa_cons (pv 4) pa_nil)))))))), ?_⟩
    have few : ∀ {n : Nat}, n ≤ 1000 → n ≤ sizeLine := fun h => Nat.le_of_lt (small1000 h)
    have x0 := Ext.refl (hand_some hh) sG nG
    cases hx with
    | @tup p xs _ hp hall =>
    match xs, hall with
    | [y0, y1], .cons g0 (.cons g1 .nil) =>
    cases g0
    cases g1 with
    | @tup r ys0 _ hr hys0 =>
    have hpH := sG _ _ hp
    refine ⟨_, rfl, rd_ix (.inr (SqT.of hpH)) (atI_nat (j := 0) rfl) ?_⟩
    refine ⟨_, rfl, rd_ix (.inr (SqT.of hpH)) (atI_nat (j := 1) rfl) ⟨r, ys0, rfl, .inr (SqT.of (sG _ _ hr)), fun P nP => ?_⟩⟩
    obtain ⟨Pa, Pc⟩ := hand_apart hh nP
    have gP : G P = none := x0.gone nP
    have h1 := hand_keep (o := HO.lst ys0) hh nP
    have x1 := x0.mk0 (o := HO.lst ys0) nP
    have hP : (upd H P (.lst ys0)) P = some (.lst ys0) := upd_same
    generalize upd H P (.lst ys0) = H1 at h1 x1 hP ⊢
    try dsimp only [gName, tSeq, tAsg, tNext]
    refine tk h1 x1 rfl (fun R h => h) (by omega) (by omega) fun v H2 v0 v1 h2 x2 sx2 => ?_
    refine ⟨_, _, rfl, rfl, ?_⟩
    obtain ⟨nv, rfl⟩ : ∃ n : Nat, v = (n : Int) := ⟨v.toNat, (Int.toNat_of_nonneg v0).symm⟩
    have ev : (1 : Int) + (nv : Int) = ((nv + 1 : Nat) : Int) := by omega
    refine ⟨((nv + 1 : Nat) : Int), by rw [← ev], by omega, by omega, ?_⟩
    rw [Int.toNat_natCast]
    refine for_range (lo := 0) (n := nv + 1) (fun i σ H' => ∃ tv P v5 v6, σ = [some (.ref a), some (.ref W), some (.ref p), some tv, some (.ref P), v5, v6] ∧ SpS a c H G S i P tv H') ?_ ?_ ?_
    · refine ⟨_, P, _, _, rfl, G, ys0, ts, .int (t : Int), [], h2, x2, sx2 _ _ Pa hP, gP, Pa, Pc, nP, hys0, .int _, by omega, Nat.le_refl _, ?_, fun y m => ?_⟩
      · refine sm_int (by omega) fun _ _ => List.mem_append_left _ ?_
        unfold FL
        simp only [List.mem_cons, List.not_mem_nil, or_false]
        omega
      · exact sm_term (okT y m) (fun i mi => List.mem_append_right _ (List.mem_append_left _ mi)) okS
    · rintro i σ H3 li ⟨tv, P, v5, v6, rfl, G3, ys, ps, td, X, h3, x3, hP3, gP3, Pa, Pc, nP, allP, hT, lp, lX, smT, smP⟩
      have i2 : i < 2 := by omega
      try dsimp only [gName, tSeq, tAsg, tNext]
      refine tk h3 x3 rfl (fun R h => h) (by omega) (by omega) fun kd H4 k0 k1 h4 x4 sx4 => ?_
      have hP4 := sx4 _ _ Pa hP3
      have hW4 := x4.sub _ _ (x4.up _ _ hW)
      have lW : (ws.map V.int).length = ws.length := List.length_map ..
      refine ⟨_, rfl, rfl, _, rfl, ite2 (fun z => ?_) (fun z => ?_)⟩
      · -- another table
        have e12 : (10 : Int) ^ (12 : Int).toNat = 1000000000000 := by decide
        refine ⟨_, rfl, _, rfl, W, _, rfl, .inl (SqL.of hW4), _, rfl, W, _, rfl, .inl (SqL.of hW4), ?_⟩
        refine tk h4 x4 rfl (fun R h => ⟨_, _, rfl, rfl, ⟨by decide, by decide, by decide⟩, h⟩) (by rw [e12]; omega) (by rw [e12]; omega) fun u H5 u0 u1 h5 x5 sx5 => ?_
        rw [e12] at u1
        refine ⟨_, _, rfl, rfl, few (by show 7 ≤ 1000; omega), fun q nq => ?_⟩
        have h6 := hand_keep (o := HO.tup [V.int (-1), V.int ((ws.map V.int).length : Nat), V.int (((ws.map V.int).length : Nat) + u), V.bl true, V.bl false, V.non, V.str "0"]) h5 nq
        have x6 := x5.mk0 (o := HO.tup [V.int (-1), V.int ((ws.map V.int).length : Nat), V.int (((ws.map V.int).length : Nat) + u), V.bl true, V.bl false, V.non, V.str "0"]) nq
        have hP5 := sx5 _ _ Pa hP4
        have hP6 := same_upd (o := HO.tup [V.int (-1), V.int ((ws.map V.int).length : Nat), V.int (((ws.map V.int).length : Nat) + u), V.bl true, V.bl false, V.non, V.str "0"]) nq _ _ hP5
        have hq6 : (upd H5 q (.tup [V.int (-1), V.int ((ws.map V.int).length : Nat), V.int (((ws.map V.int).length : Nat) + u), V.bl true, V.bl false, V.non, V.str "0"])) q = some (.tup [V.int (-1), V.int ((ws.map V.int).length : Nat), V.int (((ws.map V.int).length : Nat) + u), V.bl true, V.bl false, V.non, V.str "0"]) := upd_same
        have qa : q ≠ a := (hand_apart h5 nq).1
        refine tk h6 x6 rfl (fun R h => h) (by omega) (by omega) fun y H7 y0 y1 h7 x7 sx7 => ?_
        have hP7 := sx7 _ _ Pa hP6
        have hq7 := sx7 _ _ qa hq6
        obtain ⟨n, rfl⟩ : ∃ n : Nat, y = (n : Int) := ⟨y.toNat, (Int.toNat_of_nonneg y0).symm⟩
        have all7 : DqAll G3 [V.int (-1), V.int ((ws.map V.int).length : Nat), V.int (((ws.map V.int).length : Nat) + u), V.bl true, V.bl false, V.non, V.str "0"] [.int (-1), .int ((ws.map V.int).length : Nat), .int (((ws.map V.int).length : Nat) + u), .bool true, .bool false, .none, .str "0"] :=
          .cons (.int _) (.cons (.int _) (.cons (.int _) (.cons (.bl _) (.cons (.bl _) (.cons .non (.cons (.str _) .nil))))))
        obtain ⟨tv', ex⟩ : ∃ x, [V.int (-1), V.int ((ws.map V.int).length : Nat), V.int (((ws.map V.int).length : Nat) + u), V.bl true, V.bl false, V.non, V.str "0"][n]? = some x := ⟨_, List.getElem?_eq_getElem (by show n < 7; omega)⟩
        obtain ⟨td', ed, hd⟩ := all7.get ex
        refine ⟨q, _, _, _, rfl, rfl, SqT.of hq7, atI_nat ex, ?_⟩
        refine ⟨tv', P, _, _, rfl, G3, ys, ps, td', X ++ [((ws.map V.int).length : Nat) + u], h7, x7, hP7, gP3, Pa, Pc, nP, allP, hd, by omega, ?_, ?_, fun e m => (smP e m).mono more (Nat.le_refl _) (Nat.le_refl _)⟩
        · rw [List.length_append]
          show X.length + 1 ≤ _
          omega
        · have md := List.mem_of_getElem? ed
          simp only [List.mem_cons, List.not_mem_nil, or_false] at md
          rcases md with rfl | rfl | rfl | rfl | rfl | rfl | rfl
          · exact sm_int (by decide) fun z _ => by omega
          · refine sm_int (by omega) fun _ _ => inFL _ ?_
            unfold FL
            simp only [List.mem_cons, List.not_mem_nil, or_false]
            omega
          · exact sm_int (by omega) fun _ _ => last
          · exact ⟨by decide +kernel, by decide +kernel, by decide +kernel, by decide +kernel, by rw [inL]⟩
          · exact ⟨by decide +kernel, by decide +kernel, by decide +kernel, by decide +kernel, by rw [inL]⟩
          · exact ⟨by decide +kernel, by decide +kernel, by decide +kernel, by decide +kernel, by rw [inL]⟩
          · exact sm_str (by decide +kernel)
      refine ⟨_, rfl, rfl, _, rfl, ite2 (fun z1 => ?_) (fun z1 => ?_)⟩
      · -- one part more
        refine ⟨_, rfl, ?_⟩
        refine ⟨_, rfl, a, c, G3, rfl, h4, x4.sub, x4.off, fun y d H5 G5 h5 x5 hy hd => ?_⟩
        obtain ⟨hP5, gP5⟩ := x5.stays hP4 gP3 Pa
        have x45 := x4.trans x5
        refine ⟨few (by show 1 ≤ 1000; omega), fun q nq => ?_⟩
        have h6 := hand_keep (o := HO.lst [y]) h5 nq
        have x6 := x45.mk0 (o := HO.lst [y]) nq
        have hP6 := same_upd (o := HO.lst [y]) nq _ _ hP5
        have hq6 : (upd H5 q (.lst [y])) q = some (.lst [y]) := upd_same
        generalize upd H5 q (.lst [y]) = H6 at h6 x6 hP6 hq6 ⊢
        refine ⟨P, q, _, _, rfl, rfl, hP6, hq6, Nat.le_of_lt (small1000 (by rw [allP.len]; show ps.length + 1 ≤ 1000; omega)), fun P2 nP2 => ?_⟩
        obtain ⟨Pa2, Pc2⟩ := hand_apart h6 nP2
        obtain ⟨iv, rfl, iv0, iv1⟩ := hd
        refine ⟨tv, P2, _, _, rfl, G5, ys ++ [y], ps ++ [.int iv], td, X ++ [iv], hand_keep h6 nP2, x6.mk0 nP2, upd_same, x6.gone nP2, Pa2, Pc2, x6.was nP2 Pa2, (allP.keep x5.up).snoc hy, hT.keep x5.up, ?_, ?_, smT.mono more (Nat.le_refl _) (Nat.le_refl _), fun e m => ?_⟩
        · rw [List.length_append]
          show ps.length + 1 ≤ _
          omega
        · rw [List.length_append]
          show X.length + 1 ≤ _
          omega
        · rcases List.mem_append.mp m with m | m
          · exact (smP e m).mono more (Nat.le_refl _) (Nat.le_refl _)
          · rw [List.mem_singleton.mp m]
            exact sm_int (by omega) fun _ _ => last
      refine ⟨_, rfl, rfl, _, rfl, ite2 (fun z2 => ?_) (fun z2 => ?_)⟩
      · -- one part less
        refine ⟨_, rfl, 1, rfl, P, ys, rfl, SqL.of hP4, fun P2 nP2 => ?_⟩
        obtain ⟨Pa2, Pc2⟩ := hand_apart h4 nP2
        refine ⟨tv, P2, _, _, rfl, G3, _, _, td, X, hand_keep h4 nP2, x4.mk0 nP2, upd_same, x4.gone nP2, Pa2, Pc2, x4.was nP2 Pa2, (allP.drop _).take _, hT, ?_, by omega, smT, fun e m => smP e (List.mem_of_mem_drop (List.mem_of_mem_take m))⟩
        rw [List.length_take, List.length_drop]
        omega
      have same : SpS a c H G S (i + 1) P tv H4 := ⟨G3, ys, ps, td, X, h4, x4, hP4, gP3, Pa, Pc, nP, allP, hT, by omega, by omega, smT, smP⟩
      refine ⟨_, rfl, _, _, rfl, rfl, _, rfl, ite2 (fun z3 => ?_) (fun z3 => ?_)⟩
      · have k5 : kd < 5 := of_decide_eq_true z3
        refine ⟨_, rfl, !ys.isEmpty, .inl ⟨_, SqL.of hP4, rfl⟩, ?_⟩
        cases hb : (!ys.isEmpty) with
        | false =>
          refine iteF ⟨_, rfl, rfl, _, rfl, ite2 (fun z5 => ?_) (fun z5 => ?_)⟩
          · have e := V.int.inj (of_decide_eq_true z5)
            omega
          · exact ⟨tv, P, _, _, rfl, same⟩
        | true =>
          refine iteT ⟨_, rfl, a, c, G3, rfl, h4, x4.sub, x4.off, fun y d H5 G5 h5 x5 hd nv' => ?_⟩
          obtain ⟨hP5, gP5⟩ := x5.stays hP4 gP3 Pa
          have l0 : 0 < ys.length := by
            cases ys with
            | nil => cases hb
            | cons _ _ => exact Nat.succ_pos _
          have l1000 : ys.length ≤ 1000 := by rw [allP.len]; omega
          refine ⟨_, rfl, ?_⟩
          refine tk h5 (x4.trans x5) rfl (fun R h => ⟨_, rfl, P, _, rfl, .inl (SqL.of hP5), h⟩) (by omega) (by omega) fun n H6 n0 n1 h6 x6 sx6 => ?_
          obtain ⟨m, rfl⟩ : ∃ m : Nat, n = (m : Int) := ⟨n.toNat, (Int.toNat_of_nonneg n0).symm⟩
          have hP6 := sx6 _ _ Pa hP5
          refine ⟨P, ys, _, m, rfl, rfl, hP6, ixNat (by omega), ?_⟩
          refine ⟨tv, P, _, _, rfl, G5, ys.set m y, ps.set m d, td, X, hand_upd h6 Pa Pc, x6.put nP gP5 Pa, upd_same, gP5, Pa, Pc, nP, (allP.keep x5.up).set m hd, hT.keep x5.up, by rw [List.length_set]; omega, by omega, smT, fun e me => ?_⟩
          rcases List.mem_or_eq_of_mem_set me with me | me
          · exact smP e me
          · rw [me]
            exact sm_noVal nv' inFL
      · have k5 : kd = 5 := by
          have z3 : ¬ kd < 5 := fun y => z3 (decide_eq_true y)
          omega
        subst k5
        refine ⟨_, rfl, rfl, _, rfl, iteT ?_⟩
        have xI := x4.ice nP hP4 gP3 Pa
        have sI := same_upd (o := HO.lst ys) gP3
        have gI : (upd G3 P (.lst ys)) P = some (.lst ys) := upd_same
        have dT := hT.keep sI
        have dP : Dq (upd G3 P (.lst ys)) (.ref P) (.list ps) := .lst gI (allP.keep sI)
        generalize upd G3 P (.lst ys) = GI at xI gI dT dP
        have smL : Sm (FL ++ (S ++ X)) 163 2 (.list ps) := Sm.list smP (n := 5) (by omega) (by omega)
        have smT' : Sm (FL ++ (S ++ X)) 163 2 td := smT.mono (fun _ m => m) (by omega) (by omega)
        refine ⟨_, rfl, a, c, GI, rfl, h4, xI.sub, xI.off, fun y1 d1 H5 G5 h5 x5 hd1 r1 => ?_⟩
        have xx := xI.trans x5
        have dT := dT.keep x5.up
        have dP := dP.keep x5.up
        -- [table]
        refine ⟨_, rfl, few (by show 1 ≤ 1000; omega), fun l1 n1 => ?_⟩
        have u1 := same_upd (o := HO.lst [tv]) (xx.gone n1)
        have h5 := hand_keep (o := HO.lst [tv]) h5 n1
        have xx := xx.mk_ (o := HO.lst [tv]) n1
        have hd1 := hd1.keep u1
        have dT := dT.keep u1
        have dP := dP.keep u1
        have e1 : Dq (upd G5 l1 (.lst [tv])) (.ref l1) (.list [td]) := .lst upd_same (.cons dT .nil)
        generalize upd H5 l1 (.lst [tv]) = H6 at h5 xx ⊢
        generalize upd G5 l1 (.lst [tv]) = G6 at xx hd1 dT dP e1
        -- [table, parts, parts]
        refine ⟨_, rfl, _, rfl, _, rfl, few (by show 3 ≤ 1000; omega), fun l2 n2 => ?_⟩
        have u2 := same_upd (o := HO.lst [tv, .ref P, .ref P]) (xx.gone n2)
        have h5 := hand_keep (o := HO.lst [tv, .ref P, .ref P]) h5 n2
        have xx := xx.mk_ (o := HO.lst [tv, .ref P, .ref P]) n2
        have hd1 := hd1.keep u2
        have dT := dT.keep u2
        have dP := dP.keep u2
        have e1 := e1.keep u2
        have e2 : Dq (upd G6 l2 (.lst [tv, .ref P, .ref P])) (.ref l2) (.list [td, .list ps, .list ps]) := .lst upd_same (.cons dT (.cons dP (.cons dP .nil)))
        generalize upd H6 l2 (.lst [tv, .ref P, .ref P]) = H7 at h5 xx ⊢
        generalize upd G6 l2 (.lst [tv, .ref P, .ref P]) = G7 at xx hd1 dT dP e1 e2
        -- [table, rid]
        refine ⟨_, rfl, _, rfl, a, c, G7, rfl, h5, xx.sub, xx.off, fun y2 d2 H8 G8 h8 x8 hd2 r2 => ⟨few (by show 2 ≤ 1000; omega), fun l4 n4 => ?_⟩⟩
        have xx := xx.trans x8
        have u4 := same_upd (o := HO.lst [tv, y2]) (xx.gone n4)
        have v4 := x8.up.trans u4
        have h5 := hand_keep (o := HO.lst [tv, y2]) h8 n4
        have xx := xx.mk_ (o := HO.lst [tv, y2]) n4
        have hd1 := hd1.keep v4
        have dT := dT.keep v4
        have dP := dP.keep v4
        have e1 := e1.keep v4
        have e2 := e2.keep v4
        have e4 : Dq (upd G8 l4 (.lst [tv, y2])) (.ref l4) (.list [td, d2]) := .lst upd_same (.cons dT (.cons (hd2.keep u4) .nil))
        generalize upd H8 l4 (.lst [tv, y2]) = H9 at h5 xx ⊢
        generalize upd G8 l4 (.lst [tv, y2]) = G9 at xx hd1 dT dP e1 e2 e4
        -- [parts, table]
        refine ⟨_, rfl, _, rfl, few (by show 2 ≤ 1000; omega), fun l5 n5 => ?_⟩
        have u5 := same_upd (o := HO.lst [.ref P, tv]) (xx.gone n5)
        have h5 := hand_keep (o := HO.lst [.ref P, tv]) h5 n5
        have xx := xx.mk_ (o := HO.lst [.ref P, tv]) n5
        have hd1 := hd1.keep u5
        have dT := dT.keep u5
        have dP := dP.keep u5
        have e1 := e1.keep u5
        have e2 := e2.keep u5
        have e4 := e4.keep u5
        have e5 : Dq (upd G9 l5 (.lst [.ref P, tv])) (.ref l5) (.list [.list ps, td]) := .lst upd_same (.cons dP (.cons dT .nil))
        generalize upd H9 l5 (.lst [.ref P, tv]) = HA at h5 xx ⊢
        generalize upd G9 l5 (.lst [.ref P, tv]) = GA at xx hd1 dT dP e1 e2 e4 e5
        -- []
        refine ⟨few (Nat.zero_le _), fun l6 n6 => ?_⟩
        have u6 := same_upd (o := HO.lst []) (xx.gone n6)
        have h5 := hand_keep (o := HO.lst []) h5 n6
        have xx := xx.mk_ (o := HO.lst []) n6
        have hd1 := hd1.keep u6
        have e1 := e1.keep u6
        have e2 := e2.keep u6
        have e4 := e4.keep u6
        have e5 := e5.keep u6
        have e6 : Dq (upd GA l6 (.lst [])) (.ref l6) (.list []) := .lst upd_same .nil
        generalize upd HA l6 (.lst []) = HB at h5 xx ⊢
        generalize upd GA l6 (.lst []) = GB at xx hd1 e1 e2 e4 e5 e6
        have all : DqAll GB [y1, .ref l1, .ref l2, .ref l4, .ref l5, .ref l6] [d1, .list [td], .list [td, .list ps, .list ps], .list [td, d2], .list [.list ps, td], .list []] := .cons hd1 (.cons e1 (.cons e2 (.cons e4 (.cons e5 (.cons e6 .nil)))))
        refine ⟨few (by show 6 ≤ 1000; omega), fun o no => ?_⟩
        have oa := (hand_apart h5 no).1
        have h6 := hand_keep (o := HO.lst [y1, .ref l1, .ref l2, .ref l4, .ref l5, .ref l6]) h5 no
        have x6 := xx.mk0 (o := HO.lst [y1, .ref l1, .ref l2, .ref l4, .ref l5, .ref l6]) no
        have ho : (upd HB o (.lst [y1, .ref l1, .ref l2, .ref l4, .ref l5, .ref l6])) o = some (.lst [y1, .ref l1, .ref l2, .ref l4, .ref l5, .ref l6]) := upd_same
        refine tk h6 x6 rfl (fun R h => h) (by omega) (by omega) fun n HC n0 n1 hC xC sC => ?_
        have hoC := sC _ _ oa ho
        obtain ⟨m, rfl⟩ : ∃ m : Nat, n = (m : Int) := ⟨n.toNat, (Int.toNat_of_nonneg n0).symm⟩
        obtain ⟨xv, ex⟩ : ∃ x, [y1, .ref l1, .ref l2, .ref l4, .ref l5, .ref l6][m]? = some x := ⟨_, List.getElem?_eq_getElem (by show m < 6; omega)⟩
        obtain ⟨xd, ed, hxd⟩ := all.get ex
        refine ⟨o, _, _, _, rfl, rfl, SqL.of hoC, atI_nat ex, k xv xd HC GB hC xC hxd ⟨X, by omega, ?_⟩⟩
        have smR : ∀ {d : PyData}, Rid d → Sm (FL ++ (S ++ X)) 163 2 d := fun h => (sm_rid h inFL).mono (fun _ m => m) (by omega) (by omega)
        have wide : ∀ (l : List PyData), (∀ d ∈ l, Sm (FL ++ (S ++ X)) 163 2 d) → l.length ≤ 3 → Sm (FL ++ (S ++ X)) 600 4 (.list l) := fun l h hl => (Sm.list h hl (by omega)).mono (fun _ m => m) (by omega) (by omega)
        have md := List.mem_of_getElem? ed
        simp only [List.mem_cons, List.not_mem_nil, or_false] at md
        rcases md with rfl | rfl | rfl | rfl | rfl | rfl
        · exact (smR r1).mono (fun _ m => m) (by omega) (by omega)
        · exact wide _ (fun d m => by rw [List.mem_singleton.mp m]; exact smT') (by show 1 ≤ 3; omega)
        · refine wide _ (fun d m => ?_) (Nat.le_refl _)
          simp only [List.mem_cons, List.not_mem_nil, or_false] at m
          rcases m with rfl | rfl | rfl
          · exact smT'
          · exact smL
          · exact smL
        · refine wide _ (fun d m => ?_) (by show 2 ≤ 3; omega)
          simp only [List.mem_cons, List.not_mem_nil, or_false] at m
          rcases m with rfl | rfl
          · exact smT'
          · exact smR r2
        · refine wide _ (fun d m => ?_) (by show 2 ≤ 3; omega)
          simp only [List.mem_cons, List.not_mem_nil, or_false] at m
          rcases m with rfl | rfl
          · exact smL
          · exact smT'
        · exact wide _ (fun d m => nomatch m) (Nat.zero_le _)
    · rintro σ H3 ⟨tv, P, v5, v6, rfl, G3, ys, ps, td, X, h3, x3, hP3, gP3, Pa, Pc, nP, allP, hT, lp, lX, smT, smP⟩
      have x4 := x3.ice nP hP3 gP3 Pa
      have s4 := same_upd (o := HO.lst ys) gP3
      refine ⟨_, rfl, _, rfl, few (by show 2 ≤ 1000; omega), fun o no => ?_⟩
      have x5 := x4.mk_ (o := HO.lst [tv, .ref P]) no
      have f5 := same_upd (o := HO.lst [tv, .ref P]) (x4.gone no)
      refine k _ (.list [td, .list ps]) _ _ (hand_keep h3 no) x5 (.lst upd_same (.cons ((hT.keep s4).keep f5) (.cons (.lst (f5 _ _ upd_same) ((allP.keep s4).keep f5)) .nil))) ⟨X, by omega, ?_⟩
      have sp := Sm.list smP (n := 5) (by omega) (by omega)
      have z := Sm.list (n := 2) (ds := [td, .list ps]) (fun d m => by
        rcases List.mem_cons.mp m with e | m
        · rw [e]; exact smT.mono (fun _ m => m) (show 30 ≤ (30 + 2) * 5 + 3 by omega) (show 1 ≤ 1 + 1 by omega)
        · rw [List.mem_singleton.mp m]; exact sp) (Nat.le_refl _) (by omega)
      exact z.mono (fun _ m => m) (by omega) (by omega)
end
end My
set_option Elab.async false
set_option linter.all false
set_option maxRecDepth 100000
set_option maxHeartbeats 4000000
namespace My
open PySem PySem.Spec PyProof.Rows L2

/-- a question spoilt: its head, its pairs -/
def HeadOk (L : List Int) (i : Nat) (hd : PyData) : Prop := Rid hd ∨ ∃ es, hd = .list es ∧ es.length ≤ 3 + i ∧ ∀ e ∈ es, Sm L 30 1 e
def UnlOk (L : List Int) (i : Nat) (ud : PyData) : Prop := Rid ud ∨ ∃ es, ud = .list es ∧ es.length ≤ 9 + i ∧ ∀ e ∈ es, Sm L 100 2 e
/-- the body is no list any more, or an empty one -/
def EndS (a c : Addr) (H G : Hp) (S : List Int) (i : Nat) (hv bv uv : V) (H' : Hp) : Prop := ∃ (G' : Hp) (hd bd ud : PyData) (X : List Int), Hand MO H' a c ∧ Ext a H G H' G' ∧ Dq G' hv hd ∧ Dq G' bv bd ∧ Dq G' uv ud ∧ (Rid bd ∨ bd = .list []) ∧ X.length ≤ 2 * i ∧ HeadOk (FL ++ (S ++ X)) i hd ∧ UnlOk (FL ++ (S ++ X)) i ud
def BqS (a c : Addr) (H G : Hp) (S : List Int) (i : Nat) (hv uv : V) (B : Addr) (H' : Hp) : Prop := ∃ (G' : Hp) (ys : List V) (bs : List PyData) (hd ud : PyData) (X : List Int), Hand MO H' a c ∧ Ext a H G H' G' ∧ H' B = some (.lst ys) ∧ G' B = none ∧ B ≠ a ∧ B ≠ c ∧ H B = none ∧ DqAll G' ys bs ∧ Dq G' hv hd ∧ Dq G' uv ud ∧
  bs.length ≤ 8 * 9 ^ i ∧ 1 ≤ bs.length ∧ X.length ≤ 2 * i ∧ HeadOk (FL ++ (S ++ X)) i hd ∧ UnlOk (FL ++ (S ++ X)) i ud ∧ ∀ b ∈ bs, Sm (FL ++ (S ++ X)) 600 4 b
theorem sm_head {L : List Int} {i : Nat} {hd : PyData} (h : HeadOk L i hd) (f : ∀ j ∈ FL, j ∈ L) (i2 : i ≤ 2) : Sm L 1000 4 hd := by
  rcases h with h | ⟨es, rfl, le, ok⟩
  · exact (sm_rid h f).mono (fun _ m => m) (by omega) (by omega)
  · exact (Sm.list ok (n := 5) (by omega) (by omega)).mono (fun _ m => m) (by omega) (by omega)
theorem sm_unl {L : List Int} {i : Nat} {ud : PyData} (h : UnlOk L i ud) (f : ∀ j ∈ FL, j ∈ L) (i2 : i ≤ 2) : Sm L 2000 4 ud := by
  rcases h with h | ⟨es, rfl, le, ok⟩
  · exact (sm_rid h f).mono (fun _ m => m) (by omega) (by omega)
  · exact (Sm.list ok (n := 11) (by omega) (by omega)).mono (fun _ m => m) (by omega) (by omega)
theorem sm_body {L : List Int} {i : Nat} {bs : List PyData} (h : ∀ b ∈ bs, Sm L 600 4 b) (n : bs.length ≤ 8 * 9 ^ i) (i2 : i ≤ 2) : Sm L 390200 5 (.list bs) := by
  have n2 : bs.length ≤ 648 := by
    match i, i2 with
    | 0, _ => omega
    | 1, _ => omega
    | 2, _ => omega
  exact (Sm.list h (n := 648) n2 (by omega)).mono (fun _ m => m) (by omega) (by omega)
theorem sm_three {L : List Int} {hd bd ud : PyData} (h : Sm L 1000 4 hd) (b : Sm L 390200 5 bd) (u : Sm L 2000 4 ud) {l : List PyData} (hl : l = [hd, bd, ud] ∨ l = [hd, bd, ud, .int 1] ∨ l = [hd, bd]) (f : ∀ j ∈ FL, j ∈ L) : Sm L 400000 8 (.tuple l) where
  leaf := by
    have i1 : leafD (.int 1) = true := by decide +kernel
    rcases hl with rfl | rfl | rfl <;> simp [leafD, leafDs, h.leaf, b.leaf, u.leaf]
  few := by rcases hl with rfl | rfl | rfl <;> simp [fewD, fewDs, h.few, b.few, u.few]
  dp := by
    have := h.dp
    have := b.dp
    have := u.dp
    rcases hl with rfl | rfl | rfl <;> simp [dep, depAll] <;> omega
  sz := by
    have := h.sz
    have := b.sz
    have := u.sz
    rcases hl with rfl | rfl | rfl <;> simp [szD, szDs] <;> omega
  vals := by
    have i1 : inL L (.int 1) = true := by rw [inL, decide_eq_true (f 1 (by decide)), Bool.or_true]
    rcases hl with rfl | rfl | rfl <;> simp [inL.eq_7, inLs, h.vals, b.vals, u.vals, i1]
theorem DqAll.rep {H : Hp} {ys : List V} {bs : List PyData} (h : DqAll H ys bs) : ∀ n : Nat, DqAll H (List.replicate n ys).flatten (List.replicate n bs).flatten
  | 0 => .nil
  | n + 1 => by
    rw [List.replicate_succ, List.replicate_succ, List.flatten_cons, List.flatten_cons]
    exact h.app (DqAll.rep h n)
theorem rep_len {α : Type} (xs : List α) : ∀ n : Nat, (List.replicate n xs).flatten.length = n * xs.length
  | 0 => by simp
  | n + 1 => by
    rw [List.replicate_succ, List.flatten_cons, List.length_append, rep_len xs n, Nat.succ_mul]
    omega
theorem rep_mem {α : Type} {xs : List α} {n : Nat} {x : α} (h : x ∈ (List.replicate n xs).flatten) : x ∈ xs := by
  obtain ⟨l, ml, mx⟩ := List.mem_flatten.mp h
  rw [List.eq_of_mem_replicate ml] at mx
  exact mx
theorem rid_list {d : PyData} (r : Rid d) : decide (tyD d = "list") = false := by
  unfold Rid at r
  simp only [List.mem_cons, List.not_mem_nil, or_false] at r
  rcases r with rfl | rfl | rfl | rfl | rfl | rfl <;> decide +kernel
theorem HeadOk.mono {L M : List Int} {i j : Nat} {hd : PyData} (h : HeadOk L i hd) (s : ∀ k ∈ L, k ∈ M) (ij : i ≤ j) : HeadOk M j hd := h.imp id fun ⟨es, e, le, ok⟩ => ⟨es, e, by omega, fun x m => (ok x m).mono s (Nat.le_refl _) (Nat.le_refl _)⟩
theorem UnlOk.mono {L M : List Int} {i j : Nat} {hd : PyData} (h : UnlOk L i hd) (s : ∀ k ∈ L, k ∈ M) (ij : i ≤ j) : UnlOk M j hd := h.imp id fun ⟨es, e, le, ok⟩ => ⟨es, e, by omega, fun x m => (ok x m).mono s (Nat.le_refl _) (Nat.le_refl _)⟩
theorem moreX {S X Y : List Int} : ∀ i ∈ FL ++ (S ++ X), i ∈ FL ++ (S ++ (X ++ Y)) := fun i m => by
  simp only [List.mem_append] at m ⊢
  rcases m with m | m | m
  · exact .inl m
  · exact .inr (.inl m)
  · exact .inr (.inr (.inl m))
theorem moreY {S X Y : List Int} : ∀ i ∈ FL ++ (S ++ Y), i ∈ FL ++ (S ++ (X ++ Y)) := fun i m => by
  simp only [List.mem_append] at m ⊢
  rcases m with m | m | m
  · exact .inl m
  · exact .inr (.inl m)
  · exact .inr (.inr (.inr m))
/-- (head, body, unlike) at last -/
theorem bad_fin {a c B : Addr} {H G H' : Hp} {S : List Int} {i : Nat} {hv uv : V} {σ : L2.St} {Q : VK} (st : BqS a c H G S i hv uv B H') (i2 : i ≤ 2) (e3 : σ[3]? = some (some hv)) (e4 : σ[4]? = some (some (.ref B))) (e5 : σ[5]? = some (some uv))
    (k : Drawn a c H G (fun e => ∃ X : List Int, X.length ≤ 4 ∧ Sm (FL ++ (S ++ X)) 400000 8 e) Q) : tTup (tCons (tVar 3) (tCons (tVar 4) (tCons (tVar 5) tNil))) σ H' Q := by
  obtain ⟨G', ys, bs, hd, ud, X, h1, x1, hB, gB, Ba, Bc, nB, all, hh, hu, n8, n1, lX, okh, oku, okb⟩ := st
  have x2 := x1.ice nB hB gB Ba
  have s2 := same_upd (o := HO.lst ys) gB
  refine ⟨_, e3, _, e4, _, e5, Nat.le_of_lt (small1000 (by show 3 ≤ 1000; omega)), fun p np => ?_⟩
  have f := same_upd (o := HO.tup [hv, .ref B, uv]) (x2.gone np)
  refine k _ (.tuple [hd, .list bs, ud]) _ _ (hand_keep h1 np) (x2.mk_ np) (.tup upd_same (.cons ((hh.keep s2).keep f) (.cons (.lst (f _ _ upd_same) ((all.keep s2).keep f)) (.cons ((hu.keep s2).keep f) .nil)))) ⟨X, by omega, ?_⟩
  exact sm_three (sm_head okh inFL i2) (sm_body okb n8 i2) (sm_unl oku inFL i2) (.inl rfl) inFL
theorem end_fin {a c : Addr} {H G H' : Hp} {S : List Int} {i : Nat} {hv bv uv : V} {σ : L2.St} {Q : VK} (st : EndS a c H G S i hv bv uv H') (i2 : i ≤ 2) (e3 : σ[3]? = some (some hv)) (e4 : σ[4]? = some (some bv)) (e5 : σ[5]? = some (some uv))
    (k : Drawn a c H G (fun e => ∃ X : List Int, X.length ≤ 4 ∧ Sm (FL ++ (S ++ X)) 400000 8 e) Q) : tTup (tCons (tVar 3) (tCons (tVar 4) (tCons (tVar 5) tNil))) σ H' Q := by
  obtain ⟨G', hd, bd, ud, X, h1, x1, hh, hb, hu, okb, lX, okh, oku⟩ := st
  refine ⟨_, e3, _, e4, _, e5, Nat.le_of_lt (small1000 (by show 3 ≤ 1000; omega)), fun p np => ?_⟩
  have f := same_upd (o := HO.tup [hv, bv, uv]) (x1.gone np)
  refine k _ (.tuple [hd, bd, ud]) _ _ (hand_keep h1 np) (x1.mk_ np) (.tup upd_same (.cons (hh.keep f) (.cons (hb.keep f) (.cons (hu.keep f) .nil)))) ⟨X, by omega, ?_⟩
  have smB : Sm (FL ++ (S ++ X)) 390200 5 bd := by
    rcases okb with r | rfl
    · exact (sm_rid r inFL).mono (fun _ m => m) (by omega) (by omega)
    · exact ⟨by decide +kernel, by decide +kernel, by decide +kernel, by decide +kernel, by rw [inL, inLs]⟩
  exact sm_three (sm_head okh inFL i2) smB (sm_unl oku inFL i2) (.inl rfl) inFL
def spBad (K : PySem.W.Frag) : Sp := fun vs H Q _ => ∃ (a c W : Addr) (x : V) (G : Hp) (ws S : List Int) (d : PyData), vs = [.ref a, .ref W, x] ∧ Hand MO H a c ∧ Same G H ∧ G a = none ∧ G W = some (.lst (ws.map V.int)) ∧ ws.length ≤ 6 ∧ (∀ w ∈ ws, 1 ≤ w ∧ w ≤ 3) ∧
  Dq G x d ∧ QD S ws d ∧ (∀ i ∈ S, 0 ≤ i ∧ i ≤ 1000000000) ∧ Drawn a c H G (fun e => ∃ X : List Int, X.length ≤ 4 ∧ Sm (FL ++ (S ++ X)) 400000 8 e) Q
section
variable {P : Program} {w : World} {K : PySem.W.Frag} {mg : Str → Option Value} {base : Heap}
theorem sc__law_bad_question : FnScope ["_law_hand_here", "_law_widths", "_law_question", "_law_head", "_law_body_here", "_law_unlike", "_law_turn", "_law_kind", "_law_at", "_law_odd", "_law_name", "_law_more"] ["_law_hand_here", "_law_widths", "_law_question"] (defScope (topS 67)) := ⟨rfl, rfl, rfl, by decide +kernel, rfl, by decide +kernel, by decide +kernel⟩
theorem ok__law_bad_question {f : Addr} {fd : FuncData} (F : L2.Fun K "_law_bad_question" "_law_bad_question" (topS 67) f fd) (cT : Cal P w K mg base 2 "_law_take" (spDraw MO)) (cA : Cal P w K mg base 3 "_law_any_value" (spAny K)) (cN : Cal P w K mg base 3 "_law_no_value" (spNoVal K)) (cR : Cal P w K mg base 3 "_law_rid" (spRid K)) (cS : Cal P w K mg base 4 "_law_spoilt" (spSpoilt K)) (m_len : mg "len" = none) (m_range : mg "range" = none) (m_list : mg "list" = none) (m_min : mg "min" = none) (m_isinstance : mg "isinstance" = none) : FnOk P w K mg base CX0 5 f fd ["_law_hand_here", "_law_widths", "_law_question"] (spBad K) := by
  refine F.ok sc__law_bad_question (fun vs H Q E h => ?_) (fun cdv A outer s0 H vs Q E hr h => ?_)
  · obtain ⟨a, c, W, x, G, ws, S, d, rfl, _⟩ := h
    rfl
  · obtain ⟨a, c, W, x, G, ws, S, d, rfl, hh, sG, nG, hW, w6, w3, hx, hd, okS, k⟩ := h
    refine ⟨_, (pss_cons (ps_set (i := 3) sc__law_bad_question.nd rfl (.inl rfl) (pe_callTy call_list_of (by rfl) m_list (by decide +kernel) (pa_cons (pe_ix ix_seq (pv 2) pe_int (fun _ _ => rfl)) pa_nil)))
      (pss_cons (ps_set (i := 4) sc__law_bad_question.nd rfl (.inl rfl) (pe_callTy call_list_of (by rfl) m_list (by decide +kernel) (pa_cons (pe_ix ix_seq (pv 2) pe_int (fun _ _ => rfl)) pa_nil)))
      (pss_cons (ps_set (i := 5) sc__law_bad_question.nd rfl (.inl rfl) (pe_callTy call_list_of (by rfl) m_list (by decide +kernel) (pa_cons (pe_ix ix_seq (pv 2) pe_int (fun _ _ => rfl)) pa_nil)))
      (pss_cons (ps_for PassesOwn.never rfl (pi_range1 (by rfl) m_range (pa_cons (pe_op op_add pe_int (pe_c cT hr (by decide) rfl (pa_cons (pv 0) (pa_cons pe_int pa_nil)))) pa_nil)) (pg_name (i := 6) sc__law_bad_question.nd rfl (.inl rfl)) (pss_cons (ps_set (i := 7) sc__law_bad_question.nd rfl (.inl rfl) (pe_c cT hr (by decide) rfl (pa_cons (pv 0) (pa_cons pe_int pa_nil)))) (C8.pss_cut (ps_if (pt_cmpR op_lt (pv 7) pe_int (nomark _)) (pss_cons (ps_set (i := 8) sc__law_bad_question.nd rfl (.inl rfl) (pe_c cT hr (by decide) rfl (pa_cons (pv 0) (pa_cons (pe_callB (call_min2 rfl) (by rfl) m_min (by decide +kernel) (pa_cons (pe_callB call_len_seq (by rfl) m_len PySem.boot_len (pa_cons (pv 4) pa_nil)) (pa_cons (pe_callB call_len_seq (by rfl) m_len PySem.boot_len (pa_cons (pe_ix ix_seq (pv 2) pe_int (fun _ _ => rfl)) pa_nil)) pa_nil))) pa_nil)))) (pss_one (ps_asg (pe_c cS hr (by decide) rfl (pa_cons (pv 0) (pa_cons (pv 1) (pa_cons (pe_ix ix_seq (pe_ix ix_seq (pv 2) pe_int (fun _ _ => rfl)) (pv 8) (fun _ _ => rfl)) pa_nil)))) (pg_sub (pv 4) (pv 8) set_list)))) (pss_one (ps_if (pt_cmpR op_eq (pv 7) pe_int (nomark _)) (pss_one (ps_set (i := 4) sc__law_bad_question.nd rfl (.inl rfl) (pe_ix ix_list (pe_lst (pa_cons (pe_lst pa_nil) (pa_cons (pe_op op_rep (pv 4) pe_int) (pa_cons (pe_op op_rep (pv 4) pe_int) (pa_cons (pe_c cR hr (by decide) rfl (pa_cons (pv 0) pa_nil)) (pa_cons (pe_slice sl_list (pv 4) po_none (po_some pe_int)) pa_nil)))))) (pe_c cT hr (by decide) rfl (pa_cons (pv 0) (pa_cons pe_int pa_nil))) (fun _ _ => rfl)))) (pss_one (ps_if (pt_cmpR op_eq (pv 7) pe_int (nomark _)) (pss_one (ps_set (i := 3) sc__law_bad_question.nd rfl (.inl rfl) (pe_ifExp (pt_val (pe_callB call_isi (by rfl) m_isinstance (by decide +kernel) (pa_cons (pv 3) (pa_cons (pe_bltn (v := .ty "list") (by rfl) m_list (by decide +kernel) rfl) pa_nil)))) (pe_op op_cat (pv 3) (pe_lst (pa_cons (pe_ix ix_str pe_str (pe_c cT hr (by decide) rfl (pa_cons (pv 0) (pa_cons pe_int pa_nil))) (fun _ _ => rfl)) pa_nil))) (pv 3)))) (pss_one (ps_if (pt_cmpR op_eq (pv 7) pe_int (nomark _)) (pss_cons (ps_set (i := 9) sc__law_bad_question.nd rfl (.inl rfl) (pe_c cN hr (by decide) rfl (pa_cons (pv 0) pa_nil))) (pss_one (ps_set (i := 3) sc__law_bad_question.nd rfl (.inl rfl) (pe_ix ix_list (pe_lst (pa_cons (pe_c cR hr (by decide) rfl (pa_cons (pv 0) pa_nil)) (pa_cons (pe_lst (pa_cons (pv 9) pa_nil)) (pa_cons (pe_lst (pa_cons (pe_c cA hr (by decide) rfl (pa_cons (pv 0) pa_nil)) (pa_cons (pv 9) pa_nil))) pa_nil)))) (pe_c cT hr (by decide) rfl (pa_cons (pv 0) (pa_cons pe_int pa_nil))) (fun _ _ => rfl))))) (pss_one (ps_if (pt_cmpR op_eq (pv 7) pe_int (nomark _)) (pss_cons (ps_set (i := 10) sc__law_bad_question.nd rfl (.inl rfl) (pe_ix ix_str pe_str (pe_c cT hr (by decide) rfl (pa_cons (pv 0) (pa_cons pe_int pa_nil))) (fun _ _ => rfl))) (pss_cons (ps_set (i := 11) sc__law_bad_question.nd rfl (.inl rfl) (pe_lst (pa_cons (pe_tup (pa_cons (pv 10) (pa_cons pe_int pa_nil))) (pa_cons (pe_c cR hr (by decide) rfl (pa_cons (pv 0) pa_nil)) (pa_cons (pe_tup (pa_cons pe_int pa_nil)) (pa_cons (pe_tup (pa_cons pe_int (pa_cons pe_int (pa_cons pe_int pa_nil)))) (pa_cons (pe_lst (pa_cons (pe_c cN hr (by decide) rfl (pa_cons (pv 0) pa_nil)) (pa_cons pe_int pa_nil))) pa_nil))))))) (pss_cons (ps_set (i := 11) sc__law_bad_question.nd rfl (.inl rfl) (pe_lst (pa_cons (pe_ix ix_list (pv 11) (pe_c cT hr (by decide) rfl (pa_cons (pv 0) (pa_cons pe_int pa_nil))) (fun _ _ => rfl)) pa_nil))) (pss_one (ps_set (i := 5) sc__law_bad_question.nd rfl (.inl rfl) (pe_ifExp (pt_val (pe_callB call_isi (by rfl) m_isinstance (by decide +kernel) (pa_cons (pv 5) (pa_cons (pe_bltn (v := .ty "list") (by rfl) m_list (by decide +kernel) rfl) pa_nil)))) (pe_op op_cat (pv 5) (pv 11)) (pv 5))))))) (pss_one (ps_if (pt_cmpR op_eq (pv 7) pe_int (nomark _)) (pss_one (ps_set (i := 5) sc__law_bad_question.nd rfl (.inl rfl) (pe_ix ix_list (pe_lst (pa_cons (pe_c cR hr (by decide) rfl (pa_cons (pv 0) pa_nil)) (pa_cons (pe_op op_rep (pe_lst (pa_cons (pe_tup (pa_cons pe_int (pa_cons pe_int pa_nil))) pa_nil)) pe_int) (pa_cons (pe_op op_rep (pe_lst (pa_cons (pe_tup (pa_cons pe_int (pa_cons pe_int pa_nil))) pa_nil)) pe_int) pa_nil)))) (pe_c cT hr (by decide) rfl (pa_cons (pv 0) (pa_cons pe_int pa_nil))) (fun _ _ => rfl)))) (pss_one (ps_ret (pe_ix ix_list (pe_lst (pa_cons (pe_c cR hr (by decide) rfl (pa_cons (pv 0) pa_nil)) (pa_cons (pe_tup (pa_cons (pv 3) (pa_cons (pv 4) pa_nil))) (pa_cons (pe_tup (pa_cons (pv 3) (pa_cons (pv 4) (pa_cons (pv 5) (pa_cons pe_int pa_nil))))) (pa_cons (pe_lst pa_nil) pa_nil))))) (pe_c cT hr (by decide) rfl (pa_cons (pv 0) (pa_cons pe_int pa_nil))) (fun _ _ => rfl))))))))))))))) (pss_one (ps_if (PW.pt (pw_or (pt_not (pt_val (pe_callB call_isi (by rfl) m_isinstance (by decide +kernel) (pa_cons (pv 4) (pa_cons (pe_bltn (v := .ty "list") (by rfl) m_list (by decide +kernel) rfl) pa_nil))))) (pw_or1 (pt_not (pt_truth (pv 4) (by intro _; rfl)))))) (pss_one ps_break) pss_nil)))))
      (pss_one (ps_ret (pe_tup (pa_cons (pv 3) (pa_cons (pv 4) (pa_cons (pv 5) pa_nil)))))))))), ?_⟩
    have few : ∀ {n : Nat}, n ≤ 1000 → n ≤ sizeLine := fun h => Nat.le_of_lt (small1000 h)
    have x0 := Ext.refl (hand_some hh) sG nG
    obtain ⟨hs, ats, us, rfl, h3, a1, a8, u8, okH, okA, okU⟩ := hd
    cases hx with
    | @tup p xs _ hp hall =>
    match xs, hall with
    | [y0, y1, y2], .cons g0 (.cons g1 (.cons g2 .nil)) =>
    cases g0 with
    | @tup r0 hvs _ hr0 hs0 =>
    cases g1 with
    | @tup r1 avs _ hr1 hs1 =>
    cases g2 with
    | @tup r2 uvs _ hr2 hs2 =>
    have la := hs1.len
    refine ⟨_, rfl, rd_ix (.inr (SqT.of (sG _ _ hp))) (atI_nat (j := 0) rfl) ⟨r0, hvs, rfl, .inr (SqT.of (sG _ _ hr0)), fun L0 nL0 => ?_⟩⟩
    have h1 := hand_keep (o := HO.lst hvs) hh nL0
    have x1 := x0.mk_ (o := HO.lst hvs) nL0
    have q1 : (upd G L0 (.lst hvs)) L0 = some (.lst hvs) := upd_same
    generalize upd H L0 (.lst hvs) = H1 at h1 x1 ⊢
    generalize upd G L0 (.lst hvs) = G1 at x1 q1
    refine ⟨_, rfl, rd_ix (.inr (SqT.of (x1.sub _ _ (x1.up _ _ hp)))) (atI_nat (j := 1) rfl) ⟨r1, avs, rfl, .inr (SqT.of (x1.sub _ _ (x1.up _ _ hr1))), fun B nB => ?_⟩⟩
    obtain ⟨Ba, Bc⟩ := hand_apart h1 nB
    have gB := x1.gone nB
    have h2 := hand_keep (o := HO.lst avs) h1 nB
    have x2 := x1.mk0 (o := HO.lst avs) nB
    have nBH := x1.was nB Ba
    have hB : (upd H1 B (.lst avs)) B = some (.lst avs) := upd_same
    generalize upd H1 B (.lst avs) = H2 at h2 x2 hB ⊢
    refine ⟨_, rfl, rd_ix (.inr (SqT.of (x2.sub _ _ (x2.up _ _ hp)))) (atI_nat (j := 2) rfl) ⟨r2, uvs, rfl, .inr (SqT.of (x2.sub _ _ (x2.up _ _ hr2))), fun U nU => ?_⟩⟩
    have h3' := hand_keep (o := HO.lst uvs) h2 nU
    have x3 := x2.mk_ (o := HO.lst uvs) nU
    have f3 := same_upd (o := HO.lst uvs) (x2.gone nU)
    have q3 : (upd G1 U (.lst uvs)) U = some (.lst uvs) := upd_same
    have hB3 := same_upd (o := HO.lst uvs) nU _ _ hB
    have gB3 : (upd G1 U (.lst uvs)) B = none := by
      rw [upd_ne (ne_of_none hB nU)]
      exact gB
    generalize upd H2 U (.lst uvs) = H3 at h3' x3 hB3 ⊢
    generalize upd G1 U (.lst uvs) = G3 at x3 f3 q3 gB3
    try dsimp only [gName, tSeq, tAsg, tNext]
    have start : ∀ H4 : Hp, Hand MO H4 a c → Ext a H G H4 G3 → H4 B = some (.lst avs) → BqS a c H G S 0 (.ref L0) (.ref U) B H4 := fun H4 h4 x4 hB4 => by
      refine ⟨G3, avs, ats, .list hs, .list us, [], h4, x4, hB4, gB3, Ba, Bc, nBH, hs1.keep x3.up, .lst (f3 _ _ q1) (hs0.keep x3.up), .lst q3 (hs2.keep x3.up), by omega, a1, Nat.le_refl _, ?_, ?_, ?_⟩
      · exact .inr ⟨hs, rfl, by omega, fun e m => sm_term (okH e m) (fun i mi => List.mem_append_right _ (List.mem_append_left _ mi)) okS⟩
      · refine .inr ⟨us, rfl, by omega, fun e m => ?_⟩
        obtain ⟨y, z, rfl, t1, t2⟩ := okU e m
        refine (Sm.tuple (n := 2) (fun d md => ?_) (Nat.le_refl _) (by omega)).mono (fun _ m => m) (show (30 + 2) * 2 + 3 ≤ 100 by omega) (show 1 + 1 ≤ 2 by omega)
        rcases List.mem_cons.mp md with e | md
        · rw [e]; exact sm_term t1 (fun i mi => List.mem_append_right _ (List.mem_append_left _ mi)) okS
        · rw [List.mem_singleton.mp md]; exact sm_term t2 (fun i mi => List.mem_append_right _ (List.mem_append_left _ mi)) okS
      · intro e m
        obtain ⟨t, ts, rfl, t1, tl, tt⟩ := okA e m
        have l3 : ts.length ≤ 3 := by
          have e : ws[t]? = some (ws.getD t 0) := by
            rw [List.getD_eq_getElem?_getD, List.getElem?_eq_getElem t1]
            rfl
          have := (w3 _ (List.mem_of_getElem? e)).2
          omega
        have inner := Sm.tuple (n := 3) (fun d md => sm_term (L := FL ++ (S ++ [])) (tt d md) (fun i mi => List.mem_append_right _ (List.mem_append_left _ mi)) okS) l3 (by omega)
        refine (Sm.tuple (m := 99) (k := 2) (n := 2) (fun d md => ?_) (Nat.le_refl _) (by omega)).mono (fun _ m => m) (by omega) (by omega)
        rcases List.mem_cons.mp md with e | md
        · rw [e]
          refine (sm_int (by omega) fun _ _ => inFL _ ?_).mono (fun _ m => m) (by omega) (by omega)
          unfold FL
          simp only [List.mem_cons, List.not_mem_nil, or_false]
          omega
        · rw [List.mem_singleton.mp md]
          exact inner
    refine tk h3' x3 rfl (fun R h => h) (by omega) (by omega) fun v H4 v0 v1 h4 x4 sx4 => ?_
    refine ⟨_, _, rfl, rfl, ?_⟩
    obtain ⟨nv, rfl⟩ : ∃ n : Nat, v = (n : Int) := ⟨v.toNat, (Int.toNat_of_nonneg v0).symm⟩
    have ev : (1 : Int) + (nv : Int) = ((nv + 1 : Nat) : Int) := by omega
    refine ⟨((nv + 1 : Nat) : Int), by rw [← ev], by omega, by omega, ?_⟩
    rw [Int.toNat_natCast]
    have start4 := start H4 h4 x4 (sx4 _ _ Ba hB3)
    refine for_range (lo := 0) (n := nv + 1) (fun i σ H' => ∃ hv uv B v6 v7 v8 v9 v10 v11, σ = [some (.ref a), some (.ref W), some (.ref p), some hv, some (.ref B), some uv, v6, v7, v8, v9, v10, v11] ∧ BqS a c H G S i hv uv B H') ?_ ?_ ?_
    · exact ⟨_, _, B, _, _, _, _, _, _, rfl, start4⟩
    · rintro i σ H5 li ⟨hv, uv, B, v6, v7, v8, v9, v10, v11, rfl, st⟩
      have i2 : i < 2 := by omega
      try dsimp only [gName, tSeq, tAsg, tNext]
      obtain ⟨G5, ys, bs, hd, ud, X, h5, x5, hB, gB, Ba, Bc, nB, all, hdv, udv, n8, n1, lX, okh, oku, okb⟩ := st
      have ly := all.len
      have n72 : bs.length ≤ 72 := by
        match i, i2 with
        | 0, _ => omega
        | 1, _ => omega
      have grow : 8 * 9 ^ i * 9 = 8 * 9 ^ (i + 1) := by rw [Nat.pow_succ, Nat.mul_assoc]
      have n8' : bs.length ≤ 8 * 9 ^ (i + 1) := by omega
      refine tk h5 x5 rfl (fun R h => h) (by omega) (by omega) fun kd H6 k0 k1 h6 x6 sx6 => ?_
      have hB6 := sx6 _ _ Ba hB
      refine ⟨fun σ H' => ∃ hv bv uv v6 v7 v8 v9 v10 v11, σ = [some (.ref a), some (.ref W), some (.ref p), some hv, some bv, some uv, v6, v7, v8, v9, v10, v11] ∧ ((∃ B, bv = .ref B ∧ BqS a c H G S (i + 1) hv uv B H') ∨ EndS a c H G S (i + 1) hv bv uv H'), ?_, ?_⟩
      · have hp6 := x6.sub _ _ (x5.up _ _ hp)
        have hr16 := x6.sub _ _ (x5.up _ _ hr1)
        have n1y : 1 ≤ ys.length := by omega
        refine ⟨_, rfl, _, _, rfl, rfl, _, rfl, ite2 (fun z => ?_) (fun z => ?_)⟩
        · -- an atom spoilt
          refine tk (m := if (avs.length : Int) < (ys.length : Int) then (avs.length : Int) else (ys.length : Int)) h6 x6 rfl (fun R h => ⟨_, rfl, B, ys, rfl, .inl (SqL.of hB6), _, rfl, rd_ix (.inr (SqT.of hp6)) (atI_nat (j := 1) rfl) ⟨r1, avs, rfl, .inr (SqT.of hr16), _, _, rfl, h⟩⟩) (by split <;> omega) (by split <;> omega) fun n H7 n0 n1' h7 x7 sx7 => ?_
          have na : n < avs.length := by split at n1' <;> omega
          have nb : n < ys.length := by split at n1' <;> omega
          obtain ⟨m, rfl⟩ : ∃ m : Nat, n = (m : Int) := ⟨n.toNat, (Int.toNat_of_nonneg n0).symm⟩
          have em : avs[m]? = some avs[m] := List.getElem?_eq_getElem (by omega)
          obtain ⟨ad, ead, hyd⟩ := hs1.get em
          obtain ⟨t, ts, rfl, t1, tl, tt⟩ := okA ad (List.mem_of_getElem? ead)
          have l3 : ts.length ≤ 3 := by
            have e : ws[t]? = some (ws.getD t 0) := by
              rw [List.getD_eq_getElem?_getD, List.getElem?_eq_getElem t1]
              rfl
            have := (w3 _ (List.mem_of_getElem? e)).2
            omega
          have hB7 := sx7 _ _ Ba hB6
          have hp7 := x7.sub _ _ (x5.up _ _ hp)
          have hr17 := x7.sub _ _ (x5.up _ _ hr1)
          refine ⟨_, rfl, _, rfl, _, rfl, rd_ix (.inr (SqT.of hp7)) (atI_nat (j := 1) rfl) ⟨_, rfl, rd_ix (.inr (SqT.of hr17)) (atI_nat em) ⟨a, c, W, _, G5, ws, S, t, ts, rfl, h7, x7.sub, x7.off, x5.up _ _ hW, w6, hyd.keep x5.up, t1, l3, tt, okS, fun e ed H8 G8 h8 x8 he r => ?_⟩⟩⟩
          obtain ⟨X2, lX2, sm⟩ := r
          obtain ⟨hB8, gB8⟩ := x8.stays hB7 gB Ba
          refine ⟨_, rfl, _, rfl, B, ys, _, m, rfl, rfl, hB8, ixNat (by omega), ?_⟩
          refine ⟨hv, _, uv, _, _, _, _, _, _, rfl, .inl ⟨B, rfl, G8, ys.set m e, bs.set m ed, hd, ud, X ++ X2, hand_upd h8 Ba Bc, (x7.trans x8).put nB gB8 Ba, upd_same, gB8, Ba, Bc, nB, (all.keep x8.up).set m he, hdv.keep x8.up, udv.keep x8.up, by rw [List.length_set]; exact n8', by rw [List.length_set]; exact n1, by rw [List.length_append]; omega, okh.mono moreX (by omega), oku.mono moreX (by omega), fun b mb => ?_⟩⟩
          rcases List.mem_or_eq_of_mem_set mb with mb | mb
          · exact (okb b mb).mono moreX (Nat.le_refl _) (Nat.le_refl _)
          · rw [mb]
            exact sm.mono moreY (Nat.le_refl _) (Nat.le_refl _)
        refine ⟨_, rfl, rfl, _, rfl, ite2 (fun z2 => ?_) (fun z2 => ?_)⟩
        · -- another body
          refine ⟨few (Nat.zero_le _), fun l0 n0 => ?_⟩
          have u0 := same_upd (o := HO.lst []) (x6.gone n0)
          have hA := hand_keep (o := HO.lst []) h6 n0
          have xA := x6.mk_ (o := HO.lst []) n0
          have hBA := same_upd (o := HO.lst []) n0 _ _ hB6
          have gBA : (upd G5 l0 (.lst [])) B = none := by
            rw [upd_ne (ne_of_none hB6 n0)]
            exact gB
          have e0 : Dq (upd G5 l0 (.lst [])) (.ref l0) (.list []) := .lst upd_same .nil
          have all := all.keep u0
          have hdv := hdv.keep u0
          have udv := udv.keep u0
          generalize upd H6 l0 (.lst []) = HA at hA xA hBA ⊢
          generalize upd G5 l0 (.lst []) = GA at xA gBA e0 all hdv udv
          refine ⟨_, rfl, B, _, ys, rfl, rfl, hBA, by decide, by decide, by show ys.length * 3 ≤ sizeLine; rw [sizeLine_eq]; omega, fun l3 n3' => ?_⟩
          obtain ⟨a3, c3⟩ := hand_apart hA n3'
          have hC := hand_keep (o := HO.lst (List.replicate 3 ys).flatten) hA n3'
          have xC := xA.mk0 (o := HO.lst (List.replicate 3 ys).flatten) n3'
          have g3 := xA.gone n3'
          have w3' := xA.was n3' a3
          have hBC := same_upd (o := HO.lst (List.replicate 3 ys).flatten) n3' _ _ hBA
          have q3' : (upd HA l3 (.lst (List.replicate 3 ys).flatten)) l3 = some (.lst (List.replicate 3 ys).flatten) := upd_same
          refine ⟨_, rfl, B, _, ys, rfl, rfl, hBC, by decide, by decide, by show ys.length * 9 ≤ sizeLine; rw [sizeLine_eq]; omega, fun l9 n9 => ?_⟩
          have q3' := same_upd (o := HO.lst (List.replicate 9 ys).flatten) n9 _ _ q3'
          have hBC := same_upd (o := HO.lst (List.replicate 9 ys).flatten) n9 _ _ hBC
          obtain ⟨a9, c9⟩ := hand_apart hC n9
          have g9 := xC.gone n9
          have w9 := xC.was n9 a9
          have hC := hand_keep (o := HO.lst (List.replicate 9 ys).flatten) hC n9
          have xC := xC.mk0 (o := HO.lst (List.replicate 9 ys).flatten) n9
          have q9 : (upd (upd HA l3 (.lst (List.replicate 3 ys).flatten)) l9 (.lst (List.replicate 9 ys).flatten)) l9 = some (.lst (List.replicate 9 ys).flatten) := upd_same
          have e33 : (List.replicate (3 : Int).toNat ys).flatten = (List.replicate 3 ys).flatten := rfl
          have e99 : (List.replicate (9 : Int).toNat ys).flatten = (List.replicate 9 ys).flatten := rfl
          rw [e33, e99]
          rw [e33] at hBC q3'
          generalize upd (upd HA l3 (.lst (List.replicate 3 ys).flatten)) l9 (.lst (List.replicate 9 ys).flatten) = HC at hC xC hBC q3' q9 ⊢
          refine ⟨_, rfl, a, c, GA, rfl, hC, xC.sub, xC.off, fun y1 d1 HD GD hDh xD hd1 r1 => ?_⟩
          obtain ⟨hBD, gBD⟩ := xD.stays hBC gBA Ba
          obtain ⟨q3', g3⟩ := xD.stays q3' g3 a3
          obtain ⟨q9, g9⟩ := xD.stays q9 g9 a9
          have xx := xC.trans xD
          have all := all.keep xD.up
          have hdv := hdv.keep xD.up
          have udv := udv.keep xD.up
          have e0 := e0.keep xD.up
          refine ⟨_, rfl, 1, rfl, B, ys, rfl, SqL.of hBD, fun l1 n1' => ?_⟩
          obtain ⟨a1', c1'⟩ := hand_apart hDh n1'
          have g1' := xx.gone n1'
          have w1' := xx.was n1' a1'
          have hE := hand_keep (o := HO.lst (cutV ys none (some 1))) hDh n1'
          have xE := xx.mk0 (o := HO.lst (cutV ys none (some 1))) n1'
          have q1' : (upd HD l1 (.lst (cutV ys none (some 1)))) l1 = some (.lst (cutV ys none (some 1))) := upd_same
          have q3' := same_upd (o := HO.lst (cutV ys none (some 1))) n1' _ _ q3'
          have q9 := same_upd (o := HO.lst (cutV ys none (some 1))) n1' _ _ q9
          generalize upd HD l1 (.lst (cutV ys none (some 1))) = HE at hE xE q1' q3' q9 ⊢
          refine ⟨few (by show 5 ≤ 1000; omega), fun o no => ?_⟩
          have oa := (hand_apart hE no).1
          have hF := hand_keep (o := HO.lst [.ref l0, .ref l3, .ref l9, y1, .ref l1]) hE no
          have xF := xE.mk0 (o := HO.lst [.ref l0, .ref l3, .ref l9, y1, .ref l1]) no
          have ho : (upd HE o (.lst [.ref l0, .ref l3, .ref l9, y1, .ref l1])) o = some (.lst [.ref l0, .ref l3, .ref l9, y1, .ref l1]) := upd_same
          have q1' := same_upd (o := HO.lst [.ref l0, .ref l3, .ref l9, y1, .ref l1]) no _ _ q1'
          have q3' := same_upd (o := HO.lst [.ref l0, .ref l3, .ref l9, y1, .ref l1]) no _ _ q3'
          have q9 := same_upd (o := HO.lst [.ref l0, .ref l3, .ref l9, y1, .ref l1]) no _ _ q9
          refine tk hF xF rfl (fun R h => h) (by omega) (by omega) fun n HG n0 n1'' hG xG sG' => ?_
          have hoG := sG' _ _ oa ho
          have q1' := sG' _ _ a1' q1'
          have q3' := sG' _ _ a3 q3'
          have q9 := sG' _ _ a9 q9
          obtain ⟨m, rfl⟩ : ∃ m : Nat, n = (m : Int) := ⟨n.toNat, (Int.toNat_of_nonneg n0).symm⟩
          have cut1 : DqAll GD (cutV ys none (some 1)) ((bs.drop (HT.sIx ys.length 0 none)).take (HT.sIx ys.length ys.length (some 1) - HT.sIx ys.length 0 none)) := (all.drop _).take _
          have l1 : ((bs.drop (HT.sIx ys.length 0 none)).take (HT.sIx ys.length ys.length (some 1) - HT.sIx ys.length 0 none)).length = 1 := by
            have z : (cutV ys none (some 1)).length = 1 := by
              cases ys with
              | nil => simp at n1y
              | cons y0 yr =>
                have e : cutV (y0 :: yr) none (some 1) = [y0] := by
                  unfold cutV
                  have s0 : HT.sIx (y0 :: yr).length 0 none = 0 := rfl
                  have s1 : HT.sIx (y0 :: yr).length (y0 :: yr).length (some 1) = 1 := by
                    unfold HT.sIx
                    rw [List.length_cons]
                    simp
                  rw [s0, s1]
                  rfl
                rw [e]
                rfl
            rw [← cut1.len]
            exact z
          have pick : ∀ (B' : Addr) (ys' : List V) (bs' : List PyData), HG B' = some (.lst ys') → GD B' = none → B' ≠ a → B' ≠ c → H B' = none → DqAll GD ys' bs' → bs'.length ≤ 8 * 9 ^ (i + 1) → 1 ≤ bs'.length → (∀ b ∈ bs', b ∈ bs) → BqS a c H G S (i + 1) hv uv B' HG := fun B' ys' bs' q g na nc nb al l1 l2 sub =>
            ⟨GD, ys', bs', hd, ud, X, hG, xG, q, g, na, nc, nb, al, hdv, udv, l1, l2, by omega, okh.mono (fun _ m => m) (by omega), oku.mono (fun _ m => m) (by omega), fun b mb => okb b (sub b mb)⟩
          have stop : ∀ (bv : V) (bd : PyData), Dq GD bv bd → (Rid bd ∨ bd = .list []) → EndS a c H G S (i + 1) hv bv uv HG := fun bv bd hb r =>
            ⟨GD, hd, bd, ud, X, hG, xG, hdv, hb, udv, r, by omega, okh.mono (fun _ m => m) (by omega), oku.mono (fun _ m => m) (by omega)⟩
          have m5 : m = 0 ∨ m = 1 ∨ m = 2 ∨ m = 3 ∨ m = 4 := by omega
          rcases m5 with rfl | rfl | rfl | rfl | rfl
          · exact ⟨o, _, _, _, rfl, rfl, SqL.of hoG, atI_nat (j := 0) rfl, hv, _, uv, _, _, _, _, _, _, rfl, .inr (stop _ _ e0 (.inr rfl))⟩
          · exact ⟨o, _, _, _, rfl, rfl, SqL.of hoG, atI_nat (j := 1) rfl, hv, _, uv, _, _, _, _, _, _, rfl, .inl ⟨l3, rfl, pick l3 _ _ q3' g3 a3 c3 w3' (all.rep 3) (by rw [rep_len]; omega) (by rw [rep_len]; omega) fun b mb => rep_mem mb⟩⟩
          · exact ⟨o, _, _, _, rfl, rfl, SqL.of hoG, atI_nat (j := 2) rfl, hv, _, uv, _, _, _, _, _, _, rfl, .inl ⟨l9, rfl, pick l9 _ _ q9 g9 a9 c9 w9 (all.rep 9) (by rw [rep_len]; omega) (by rw [rep_len]; omega) fun b mb => rep_mem mb⟩⟩
          · exact ⟨o, _, _, _, rfl, rfl, SqL.of hoG, atI_nat (j := 3) rfl, hv, _, uv, _, _, _, _, _, _, rfl, .inr (stop _ _ hd1 (.inl r1))⟩
          · exact ⟨o, _, _, _, rfl, rfl, SqL.of hoG, atI_nat (j := 4) rfl, hv, _, uv, _, _, _, _, _, _, rfl, .inl ⟨_, rfl, pick _ _ _ q1' g1' a1' c1' w1' cut1 (by omega) (by omega) fun b mb => List.mem_of_mem_drop (List.mem_of_mem_take mb)⟩⟩
        have fin : ∀ (HZ GZ : Hp) (hv' uv' : V) (hd' ud' : PyData) (Y : List Int), Hand MO HZ a c → Ext a H G HZ GZ → HZ B = some (.lst ys) → GZ B = none → Same G5 GZ → Dq GZ hv' hd' → Dq GZ uv' ud' → Y.length ≤ 2 → HeadOk (FL ++ (S ++ (X ++ Y))) (i + 1) hd' → UnlOk (FL ++ (S ++ (X ++ Y))) (i + 1) ud' → BqS a c H G S (i + 1) hv' uv' B HZ := fun HZ GZ hv' uv' hd' ud' Y hZ xZ hBZ gBZ up dh du lY oh ou =>
          ⟨GZ, ys, bs, hd', ud', X ++ Y, hZ, xZ, hBZ, gBZ, Ba, Bc, nB, all.keep up, dh, du, n8', n1, by rw [List.length_append]; omega, oh, ou, fun b mb => (okb b mb).mono moreX (Nat.le_refl _) (Nat.le_refl _)⟩
        have okh' := okh.mono (M := FL ++ (S ++ (X ++ []))) moreX (Nat.le_succ i)
        have oku' := oku.mono (M := FL ++ (S ++ (X ++ []))) moreX (Nat.le_succ i)
        refine ⟨_, rfl, rfl, _, rfl, ite2 (fun z3 => ?_) (fun z3 => ?_)⟩
        · -- one name more in the head
          rcases id okh with r | ⟨es, e, le, ok⟩
          · refine ⟨_, rfl, hv, .ty "list", _, _, _, rfl, .ty _, .base (hdv.keep x6.sub).ty, kit_dList hd, _, rfl, ?_⟩
            rw [rid_list r]
            exact iteF ⟨_, rfl, hv, _, uv, _, _, _, _, _, _, rfl, .inl ⟨B, rfl, fin H6 G5 hv uv hd ud [] h6 x6 hB6 gB (Same.refl _) hdv udv (Nat.zero_le _) okh' oku'⟩⟩
          · subst e
            refine ⟨_, rfl, hv, .ty "list", _, _, _, rfl, .ty _, .base (hdv.keep x6.sub).ty, kit_dList _, _, rfl, iteT ?_⟩
            cases hdv with
            | @lst L xs _ hL hLa =>
            refine ⟨_, rfl, ?_⟩
            refine tkName h6 x6 rfl (fun R h => h) (by omega) (by omega) fun s H7 ms h7 x7 sx7 => ?_
            refine ⟨few (by show 1 ≤ 1000; omega), fun q nq => ?_⟩
            have h8 := hand_keep (o := HO.lst [.str s]) h7 nq
            have x8 := x7.mk0 (o := HO.lst [.str s]) nq
            have hB8 := same_upd (o := HO.lst [.str s]) nq _ _ (sx7 _ _ Ba hB6)
            have hL8 := x8.sub _ _ hL
            refine ⟨L, q, xs, _, rfl, rfl, hL8, upd_same, Nat.le_of_lt (small1000 (by have := hLa.len; show xs.length + 1 ≤ 1000; omega)), fun L2 nL2 => ?_⟩
            have f := same_upd (o := HO.lst (xs ++ [.str s])) (x8.gone nL2)
            have gB9 : (upd G5 L2 (.lst (xs ++ [.str s]))) B = none := by
              rw [upd_ne (ne_of_none hB8 nL2)]
              exact gB
            refine ⟨_, _, uv, _, _, _, _, _, _, rfl, .inl ⟨B, rfl, fin _ _ (.ref L2) uv (.list (es ++ [.str s])) ud [] (hand_keep h8 nL2) (x8.mk_ nL2) (same_upd nL2 _ _ hB8) gB9 f (.lst upd_same ((hLa.snoc (.str s)).keep f)) (udv.keep f) (Nat.zero_le _) (.inr ⟨_, rfl, by rw [List.length_append]; show es.length + 1 ≤ _; omega, fun x m => ?_⟩) oku'⟩⟩
            rcases List.mem_append.mp m with m | m
            · exact (ok x m).mono moreX (Nat.le_refl _) (Nat.le_refl _)
            · rw [List.mem_singleton.mp m]
              exact sm_str (eight_words s ms)
        refine ⟨_, rfl, rfl, _, rfl, ite2 (fun z4 => ?_) (fun z4 => ?_)⟩
        · -- another head
          refine ⟨_, rfl, a, c, G5, rfl, h6, x6.sub, x6.off, fun yo od H7 G7 h7 x7 ho nvo => ?_⟩
          obtain ⟨hB7, gB7⟩ := x7.stays hB6 gB Ba
          have xx := x6.trans x7
          refine ⟨_, rfl, a, c, G7, rfl, h7, x7.sub, x7.off, fun y1 d1 H8 G8 h8 x8 hd1 r1 => ?_⟩
          obtain ⟨hB8, gB8⟩ := x8.stays hB7 gB7 Ba
          have xx := xx.trans x8
          have ho := ho.keep x8.up
          refine ⟨_, rfl, few (by show 1 ≤ 1000; omega), fun l1 n1' => ?_⟩
          have u1 := same_upd (o := HO.lst [yo]) (xx.gone n1')
          have h9 := hand_keep (o := HO.lst [yo]) h8 n1'
          have xx := xx.mk_ (o := HO.lst [yo]) n1'
          have hB9 := same_upd (o := HO.lst [yo]) n1' _ _ hB8
          have gB9 : (upd G8 l1 (.lst [yo])) B = none := by
            rw [upd_ne (ne_of_none hB8 n1')]
            exact gB8
          have e1 : Dq (upd G8 l1 (.lst [yo])) (.ref l1) (.list [od]) := .lst upd_same (.cons (ho.keep u1) .nil)
          have hd1 := hd1.keep u1
          have ho := ho.keep u1
          have up9 := (x7.up.trans x8.up).trans u1
          generalize upd H8 l1 (.lst [yo]) = H9 at h9 xx hB9 ⊢
          generalize upd G8 l1 (.lst [yo]) = G9 at xx gB9 e1 hd1 ho up9
          refine ⟨_, rfl, a, c, G9, rfl, h9, xx.sub, xx.off, fun y2 d2 HA GA hA xA hd2 r2 => ?_⟩
          obtain ⟨hBA, gBA⟩ := xA.stays hB9 gB9 Ba
          have xx := xx.trans xA
          have ho := ho.keep xA.up
          refine ⟨_, rfl, few (by show 2 ≤ 1000; omega), fun l2 n2' => ?_⟩
          have u2 := same_upd (o := HO.lst [y2, yo]) (xx.gone n2')
          have hC := hand_keep (o := HO.lst [y2, yo]) hA n2'
          have xx := xx.mk_ (o := HO.lst [y2, yo]) n2'
          have hBC := same_upd (o := HO.lst [y2, yo]) n2' _ _ hBA
          have gBC : (upd GA l2 (.lst [y2, yo])) B = none := by
            rw [upd_ne (ne_of_none hBA n2')]
            exact gBA
          have e2 : Dq (upd GA l2 (.lst [y2, yo])) (.ref l2) (.list [d2, od]) := .lst upd_same (.cons (hd2.keep u2) (.cons (ho.keep u2) .nil))
          have hd1 := (hd1.keep xA.up).keep u2
          have e1 := (e1.keep xA.up).keep u2
          have upC := (up9.trans xA.up).trans u2
          generalize upd HA l2 (.lst [y2, yo]) = HC at hC xx hBC ⊢
          generalize upd GA l2 (.lst [y2, yo]) = GC at xx gBC e2 hd1 e1 upC
          refine ⟨few (by show 3 ≤ 1000; omega), fun o no => ?_⟩
          have oa := (hand_apart hC no).1
          have hD := hand_keep (o := HO.lst [y1, .ref l1, .ref l2]) hC no
          have xD := xx.mk0 (o := HO.lst [y1, .ref l1, .ref l2]) no
          have hBD := same_upd (o := HO.lst [y1, .ref l1, .ref l2]) no _ _ hBC
          have ho' : (upd HC o (.lst [y1, .ref l1, .ref l2])) o = some (.lst [y1, .ref l1, .ref l2]) := upd_same
          refine tk hD xD rfl (fun R h => h) (by omega) (by omega) fun n HE n0 n1'' hE xE sE => ?_
          have hoE := sE _ _ oa ho'
          have hBE := sE _ _ Ba hBD
          obtain ⟨m, rfl⟩ : ∃ m : Nat, n = (m : Int) := ⟨n.toNat, (Int.toNat_of_nonneg n0).symm⟩
          obtain ⟨iv, rfl, iv0, iv1⟩ := r2
          have smo : ∀ {L : List Int}, (∀ j ∈ FL, j ∈ L) → Sm L 30 1 od := fun f => sm_noVal nvo f
          have m3 : m = 0 ∨ m = 1 ∨ m = 2 := by omega
          rcases m3 with rfl | rfl | rfl
          · exact ⟨o, _, _, _, rfl, rfl, SqL.of hoE, atI_nat (j := 0) rfl, _, _, uv, _, _, _, _, _, _, rfl, .inl ⟨B, rfl, fin HE GC y1 uv d1 ud [] hE xE hBE gBC upC hd1 (udv.keep upC) (Nat.zero_le _) (.inl r1) oku'⟩⟩
          · refine ⟨o, _, _, _, rfl, rfl, SqL.of hoE, atI_nat (j := 1) rfl, _, _, uv, _, _, _, _, _, _, rfl, .inl ⟨B, rfl, fin HE GC _ uv _ ud [] hE xE hBE gBC upC e1 (udv.keep upC) (Nat.zero_le _) (.inr ⟨_, rfl, by show 1 ≤ _; omega, fun x m => ?_⟩) oku'⟩⟩
            rw [List.mem_singleton.mp m]
            exact smo inFL
          · refine ⟨o, _, _, _, rfl, rfl, SqL.of hoE, atI_nat (j := 2) rfl, _, _, uv, _, _, _, _, _, _, rfl, .inl ⟨B, rfl, fin HE GC _ uv _ ud [iv] hE xE hBE gBC upC e2 (udv.keep upC) (by show 1 ≤ 2; omega) (.inr ⟨_, rfl, by show 2 ≤ _; omega, fun x m => ?_⟩) (oku.mono moreX (Nat.le_succ i))⟩⟩
            rcases List.mem_cons.mp m with e | m
            · rw [e]
              exact sm_int (by omega) fun _ _ => last
            · rw [List.mem_singleton.mp m]
              exact smo inFL
        refine ⟨_, rfl, rfl, _, rfl, ite2 (fun z5 => ?_) (fun z5 => ?_)⟩
        · -- one pair more
          try dsimp only [gName, tSeq, tAsg, tNext]
          refine tkName h6 x6 rfl (fun R h => h) (by omega) (by omega) fun s H7 ms h7 x7 sx7 => ?_
          have hB7 := sx7 _ _ Ba hB6
          refine ⟨_, rfl, few (by show 2 ≤ 1000; omega), fun t1 n1' => ?_⟩
          have u1 := same_upd (o := HO.tup [.str s, .int 5]) (x7.gone n1')
          have h8 := hand_keep (o := HO.tup [.str s, .int 5]) h7 n1'
          have x8 := x7.mk_ (o := HO.tup [.str s, .int 5]) n1'
          have hB8 := same_upd (o := HO.tup [.str s, .int 5]) n1' _ _ hB7
          have gB8 : (upd G5 t1 (.tup [.str s, .int 5])) B = none := by
            rw [upd_ne (ne_of_none hB7 n1')]
            exact gB
          have e1 : Dq (upd G5 t1 (.tup [.str s, .int 5])) (.ref t1) (.tuple [.str s, .int 5]) := .tup upd_same (.cons (.str s) (.cons (.int 5) .nil))
          generalize upd H7 t1 (.tup [.str s, .int 5]) = H8 at h8 x8 hB8 ⊢
          generalize upd G5 t1 (.tup [.str s, .int 5]) = G8 at u1 x8 gB8 e1
          refine ⟨_, rfl, a, c, G8, rfl, h8, x8.sub, x8.off, fun y1 d1 H9 G9 h9 x9 hd1 r1 => ?_⟩
          obtain ⟨hB9, gB9⟩ := x9.stays hB8 gB8 Ba
          have xx := x8.trans x9
          have e1 := e1.keep x9.up
          have up := u1.trans x9.up
          refine ⟨few (by show 1 ≤ 1000; omega), fun t2 n2' => ?_⟩
          have u2 := same_upd (o := HO.tup [.int 1]) (xx.gone n2')
          have hA := hand_keep (o := HO.tup [.int 1]) h9 n2'
          have xx := xx.mk_ (o := HO.tup [.int 1]) n2'
          have hBA := same_upd (o := HO.tup [.int 1]) n2' _ _ hB9
          have gBA : (upd G9 t2 (.tup [.int 1])) B = none := by
            rw [upd_ne (ne_of_none hB9 n2')]
            exact gB9
          have e2 : Dq (upd G9 t2 (.tup [.int 1])) (.ref t2) (.tuple [.int 1]) := .tup upd_same (.cons (.int 1) .nil)
          have e1 := e1.keep u2
          have hd1 := hd1.keep u2
          have up := up.trans u2
          generalize upd H9 t2 (.tup [.int 1]) = HA at hA xx hBA ⊢
          generalize upd G9 t2 (.tup [.int 1]) = GA at xx gBA e2 e1 hd1 up
          refine ⟨few (by show 3 ≤ 1000; omega), fun t3 n3' => ?_⟩
          have u3 := same_upd (o := HO.tup [.int 1, .int 2, .int 3]) (xx.gone n3')
          have hA := hand_keep (o := HO.tup [.int 1, .int 2, .int 3]) hA n3'
          have xx := xx.mk_ (o := HO.tup [.int 1, .int 2, .int 3]) n3'
          have gBC : (upd GA t3 (.tup [.int 1, .int 2, .int 3])) B = none := by
            rw [upd_ne (ne_of_none hBA n3')]
            exact gBA
          have hBA := same_upd (o := HO.tup [.int 1, .int 2, .int 3]) n3' _ _ hBA
          have e3 : Dq (upd GA t3 (.tup [.int 1, .int 2, .int 3])) (.ref t3) (.tuple [.int 1, .int 2, .int 3]) := .tup upd_same (.cons (.int 1) (.cons (.int 2) (.cons (.int 3) .nil)))
          have e1 := e1.keep u3
          have e2 := e2.keep u3
          have hd1 := hd1.keep u3
          have up := up.trans u3
          generalize upd HA t3 (.tup [.int 1, .int 2, .int 3]) = HC at hA xx hBA ⊢
          generalize upd GA t3 (.tup [.int 1, .int 2, .int 3]) = GC at xx gBC e3 e2 e1 hd1 up
          refine ⟨_, rfl, a, c, GC, rfl, hA, xx.sub, xx.off, fun yo od HD GD hD xD ho nvo => ?_⟩
          obtain ⟨hBD, gBD⟩ := xD.stays hBA gBC Ba
          have xx := xx.trans xD
          have e1 := e1.keep xD.up
          have e2 := e2.keep xD.up
          have e3 := e3.keep xD.up
          have hd1 := hd1.keep xD.up
          have up := up.trans xD.up
          refine ⟨few (by show 2 ≤ 1000; omega), fun l4 n4 => ?_⟩
          have u4 := same_upd (o := HO.lst [yo, .int 1]) (xx.gone n4)
          have hD := hand_keep (o := HO.lst [yo, .int 1]) hD n4
          have xx := xx.mk_ (o := HO.lst [yo, .int 1]) n4
          have gBE : (upd GD l4 (.lst [yo, .int 1])) B = none := by
            rw [upd_ne (ne_of_none hBD n4)]
            exact gBD
          have hBD := same_upd (o := HO.lst [yo, .int 1]) n4 _ _ hBD
          have e4 : Dq (upd GD l4 (.lst [yo, .int 1])) (.ref l4) (.list [od, .int 1]) := .lst upd_same (.cons (ho.keep u4) (.cons (.int 1) .nil))
          have e1 := e1.keep u4
          have e2 := e2.keep u4
          have e3 := e3.keep u4
          have hd1 := hd1.keep u4
          have up := up.trans u4
          generalize upd HD l4 (.lst [yo, .int 1]) = HE at hD xx hBD ⊢
          generalize upd GD l4 (.lst [yo, .int 1]) = GE at xx gBE e4 e3 e2 e1 hd1 up
          have allM : DqAll GE [.ref t1, y1, .ref t2, .ref t3, .ref l4] [.tuple [.str s, .int 5], d1, .tuple [.int 1], .tuple [.int 1, .int 2, .int 3], .list [od, .int 1]] := .cons e1 (.cons hd1 (.cons e2 (.cons e3 (.cons e4 .nil))))
          refine ⟨few (by show 5 ≤ 1000; omega), fun o no => ?_⟩
          have oa := (hand_apart hD no).1
          have hF := hand_keep (o := HO.lst [.ref t1, y1, .ref t2, .ref t3, .ref l4]) hD no
          have xF := xx.mk0 (o := HO.lst [.ref t1, y1, .ref t2, .ref t3, .ref l4]) no
          have hBF := same_upd (o := HO.lst [.ref t1, y1, .ref t2, .ref t3, .ref l4]) no _ _ hBD
          have hoF : (upd HE o (.lst [.ref t1, y1, .ref t2, .ref t3, .ref l4])) o = some (.lst [.ref t1, y1, .ref t2, .ref t3, .ref l4]) := upd_same
          generalize upd HE o (.lst [.ref t1, y1, .ref t2, .ref t3, .ref l4]) = HF at hF xF hBF hoF ⊢
          refine ⟨_, rfl, ?_⟩
          refine tk hF xF rfl (fun R h => h) (by omega) (by omega) fun n HG n0 n1'' hG xG sG' => ?_
          have hoG := sG' _ _ oa hoF
          have hBG := sG' _ _ Ba hBF
          obtain ⟨m, rfl⟩ : ∃ m : Nat, n = (m : Int) := ⟨n.toNat, (Int.toNat_of_nonneg n0).symm⟩
          obtain ⟨xv, ex⟩ : ∃ x, [.ref t1, y1, .ref t2, .ref t3, .ref l4][m]? = some x := ⟨_, List.getElem?_eq_getElem (by show m < 5; omega)⟩
          obtain ⟨xd, ed, hxd⟩ := allM.get ex
          refine ⟨o, _, _, _, rfl, rfl, SqL.of hoG, atI_nat ex, few (by show 1 ≤ 1000; omega), fun q nq => ?_⟩
          have hI := hand_keep (o := HO.lst [xv]) hG nq
          have xI := xG.mk0 (o := HO.lst [xv]) nq
          have hBI := same_upd (o := HO.lst [xv]) nq _ _ hBG
          have hq : (upd HG q (.lst [xv])) q = some (.lst [xv]) := upd_same
          generalize upd HG q (.lst [xv]) = HI at hI xI hBI hq ⊢
          have udv := udv.keep up
          have hdv := hdv.keep up
          have i1 : ∀ {L : List Int}, (∀ j ∈ FL, j ∈ L) → ∀ k : Int, k ∈ FL → Sm L 30 1 (.int k) := fun f k mk => sm_int (by
            unfold FL at mk
            simp only [List.mem_cons, List.not_mem_nil, or_false] at mk
            omega) fun _ _ => f k mk
          have smX : Sm (FL ++ (S ++ (X ++ []))) 100 2 xd := by
            have md := List.mem_of_getElem? ed
            simp only [List.mem_cons, List.not_mem_nil, or_false] at md
            rcases md with rfl | rfl | rfl | rfl | rfl
            · refine (Sm.tuple (m := 30) (k := 1) (n := 2) (fun d m => ?_) (Nat.le_refl _) (by omega)).mono (fun _ m => m) (by omega) (by omega)
              simp only [List.mem_cons, List.not_mem_nil, or_false] at m
              rcases m with rfl | rfl
              · exact sm_str (eight_words s ms)
              · exact i1 inFL 5 (by decide)
            · exact (sm_rid r1 inFL).mono (fun _ m => m) (by omega) (by omega)
            · refine (Sm.tuple (m := 30) (k := 1) (n := 1) (fun d m => ?_) (Nat.le_refl _) (by omega)).mono (fun _ m => m) (by omega) (by omega)
              rw [List.mem_singleton.mp m]
              exact i1 inFL 1 (by decide)
            · refine (Sm.tuple (m := 30) (k := 1) (n := 3) (fun d m => ?_) (Nat.le_refl _) (by omega)).mono (fun _ m => m) (by omega) (by omega)
              simp only [List.mem_cons, List.not_mem_nil, or_false] at m
              rcases m with rfl | rfl | rfl
              · exact i1 inFL 1 (by decide)
              · exact i1 inFL 2 (by decide)
              · exact i1 inFL 3 (by decide)
            · refine (Sm.list (m := 30) (k := 1) (n := 2) (fun d m => ?_) (Nat.le_refl _) (by omega)).mono (fun _ m => m) (by omega) (by omega)
              rcases List.mem_cons.mp m with e | m
              · rw [e]; exact sm_noVal nvo inFL
              · rw [List.mem_singleton.mp m]; exact i1 inFL 1 (by decide)
          rcases id oku with r | ⟨es, e, le, ok⟩
          · refine ⟨_, rfl, uv, .ty "list", _, _, _, rfl, .ty _, .base (udv.keep xI.sub).ty, kit_dList ud, _, rfl, ?_⟩
            rw [rid_list r]
            exact iteF ⟨_, rfl, hv, _, uv, _, _, _, _, _, _, rfl, .inl ⟨B, rfl, fin HI GE hv uv hd ud [] hI xI hBI gBE up hdv udv (Nat.zero_le _) okh' oku'⟩⟩
          · subst e
            refine ⟨_, rfl, uv, .ty "list", _, _, _, rfl, .ty _, .base (udv.keep xI.sub).ty, kit_dList _, _, rfl, iteT ?_⟩
            cases udv with
            | @lst L xs _ hL hLa =>
            refine ⟨_, rfl, _, rfl, L, q, xs, _, rfl, rfl, xI.sub _ _ hL, hq, Nat.le_of_lt (small1000 (by have := hLa.len; show xs.length + 1 ≤ 1000; omega)), fun L2 nL2 => ?_⟩
            have f := same_upd (o := HO.lst (xs ++ [xv])) (xI.gone nL2)
            have gBJ : (upd GE L2 (.lst (xs ++ [xv]))) B = none := by
              rw [upd_ne (ne_of_none hBI nL2)]
              exact gBE
            refine ⟨hv, _, _, _, _, _, _, _, _, rfl, .inl ⟨B, rfl, fin _ _ hv (.ref L2) hd (.list (es ++ [xd])) [] (hand_keep hI nL2) (xI.mk_ nL2) (same_upd nL2 _ _ hBI) gBJ (up.trans f) (hdv.keep f) (.lst upd_same ((hLa.snoc hxd).keep f)) (Nat.zero_le _) okh' (.inr ⟨_, rfl, by rw [List.length_append]; show es.length + 1 ≤ _; omega, fun x m => ?_⟩)⟩⟩
            rcases List.mem_append.mp m with m | m
            · exact (ok x m).mono moreX (Nat.le_refl _) (Nat.le_refl _)
            · rw [List.mem_singleton.mp m]
              exact smX
        refine ⟨_, rfl, rfl, _, rfl, ite2 (fun z6 => ?_) (fun z6 => ?_)⟩
        · -- other pairs
          refine ⟨_, rfl, a, c, G5, rfl, h6, x6.sub, x6.off, fun y1 d1 HA GA hA xA hd1 r1 => ?_⟩
          obtain ⟨hBA, gBA⟩ := xA.stays hB6 gB Ba
          have xx := x6.trans xA
          have up := xA.up
          refine ⟨few (by show 2 ≤ 1000; omega), fun t9 nt9 => ?_⟩
          have ut9 := same_upd (o := HO.tup [.int 1, .int 2]) (xx.gone nt9)
          have hA := hand_keep (o := HO.tup [.int 1, .int 2]) hA nt9
          have xx := xx.mk_ (o := HO.tup [.int 1, .int 2]) nt9
          have gBA : (upd GA t9 (.tup [.int 1, .int 2])) B = none := by
            rw [upd_ne (ne_of_none hBA nt9)]
            exact gBA
          have hBA := same_upd (o := HO.tup [.int 1, .int 2]) nt9 _ _ hBA
          have et9 : Dq (upd GA t9 (.tup [.int 1, .int 2])) (.ref t9) (.tuple [.int 1, .int 2]) := .tup upd_same (.cons (.int 1) (.cons (.int 2) .nil))
          have hd1 := hd1.keep ut9
          have up := up.trans ut9
          generalize upd HA t9 (.tup [.int 1, .int 2]) = HA at hA xx hBA ⊢
          generalize upd GA t9 (.tup [.int 1, .int 2]) = GA at xx gBA et9 hd1 up
          refine ⟨few (by show 1 ≤ 1000; omega), fun m9 nm9 => ?_⟩
          have hA := hand_keep (o := HO.lst [.ref t9]) hA nm9
          have xx := xx.mk0 (o := HO.lst [.ref t9]) nm9
          have hBA := same_upd (o := HO.lst [.ref t9]) nm9 _ _ hBA
          have qm9 : (upd HA m9 (.lst [.ref t9])) m9 = some (.lst [.ref t9]) := upd_same
          generalize upd HA m9 (.lst [.ref t9]) = HA at hA xx hBA qm9 ⊢
          refine ⟨m9, _, [.ref t9], rfl, rfl, qm9, by decide, by decide, few (by show 1 * 9 ≤ 1000; omega), fun L9 nL9 => ?_⟩
          have e33 : (List.replicate (9 : Int).toNat [V.ref t9]).flatten = (List.replicate 9 [V.ref t9]).flatten := rfl
          rw [e33]
          have uL9 := same_upd (o := HO.lst (List.replicate 9 [V.ref t9]).flatten) (xx.gone nL9)
          have hA := hand_keep (o := HO.lst (List.replicate 9 [V.ref t9]).flatten) hA nL9
          have xx := xx.mk_ (o := HO.lst (List.replicate 9 [V.ref t9]).flatten) nL9
          have gBA : (upd GA L9 (.lst (List.replicate 9 [V.ref t9]).flatten)) B = none := by
            rw [upd_ne (ne_of_none hBA nL9)]
            exact gBA
          have hBA := same_upd (o := HO.lst (List.replicate 9 [V.ref t9]).flatten) nL9 _ _ hBA
          have eL9 : Dq (upd GA L9 (.lst (List.replicate 9 [V.ref t9]).flatten)) (.ref L9) (.list (List.replicate 9 [PyData.tuple [.int 1, .int 2]]).flatten) := .lst upd_same (DqAll.rep (.cons (et9.keep uL9) .nil) 9)
          have hd1 := hd1.keep uL9
          have up := up.trans uL9
          generalize upd HA L9 (.lst (List.replicate 9 [V.ref t9]).flatten) = HA at hA xx hBA ⊢
          generalize upd GA L9 (.lst (List.replicate 9 [V.ref t9]).flatten) = GA at xx gBA eL9 hd1 up
          refine ⟨few (by show 2 ≤ 1000; omega), fun t8 nt8 => ?_⟩
          have ut8 := same_upd (o := HO.tup [.int 1, .int 2]) (xx.gone nt8)
          have hA := hand_keep (o := HO.tup [.int 1, .int 2]) hA nt8
          have xx := xx.mk_ (o := HO.tup [.int 1, .int 2]) nt8
          have gBA : (upd GA t8 (.tup [.int 1, .int 2])) B = none := by
            rw [upd_ne (ne_of_none hBA nt8)]
            exact gBA
          have hBA := same_upd (o := HO.tup [.int 1, .int 2]) nt8 _ _ hBA
          have et8 : Dq (upd GA t8 (.tup [.int 1, .int 2])) (.ref t8) (.tuple [.int 1, .int 2]) := .tup upd_same (.cons (.int 1) (.cons (.int 2) .nil))
          have hd1 := hd1.keep ut8
          have up := up.trans ut8
          have eL9 := eL9.keep ut8
          generalize upd HA t8 (.tup [.int 1, .int 2]) = HA at hA xx hBA ⊢
          generalize upd GA t8 (.tup [.int 1, .int 2]) = GA at xx gBA et8 hd1 up eL9
          refine ⟨few (by show 1 ≤ 1000; omega), fun m8 nm8 => ?_⟩
          have hA := hand_keep (o := HO.lst [.ref t8]) hA nm8
          have xx := xx.mk0 (o := HO.lst [.ref t8]) nm8
          have hBA := same_upd (o := HO.lst [.ref t8]) nm8 _ _ hBA
          have qm8 : (upd HA m8 (.lst [.ref t8])) m8 = some (.lst [.ref t8]) := upd_same
          generalize upd HA m8 (.lst [.ref t8]) = HA at hA xx hBA qm8 ⊢
          refine ⟨m8, _, [.ref t8], rfl, rfl, qm8, by decide, by decide, few (by show 1 * 8 ≤ 1000; omega), fun L8 nL8 => ?_⟩
          have e33 : (List.replicate (8 : Int).toNat [V.ref t8]).flatten = (List.replicate 8 [V.ref t8]).flatten := rfl
          rw [e33]
          have uL8 := same_upd (o := HO.lst (List.replicate 8 [V.ref t8]).flatten) (xx.gone nL8)
          have hA := hand_keep (o := HO.lst (List.replicate 8 [V.ref t8]).flatten) hA nL8
          have xx := xx.mk_ (o := HO.lst (List.replicate 8 [V.ref t8]).flatten) nL8
          have gBA : (upd GA L8 (.lst (List.replicate 8 [V.ref t8]).flatten)) B = none := by
            rw [upd_ne (ne_of_none hBA nL8)]
            exact gBA
          have hBA := same_upd (o := HO.lst (List.replicate 8 [V.ref t8]).flatten) nL8 _ _ hBA
          have eL8 : Dq (upd GA L8 (.lst (List.replicate 8 [V.ref t8]).flatten)) (.ref L8) (.list (List.replicate 8 [PyData.tuple [.int 1, .int 2]]).flatten) := .lst upd_same (DqAll.rep (.cons (et8.keep uL8) .nil) 8)
          have hd1 := hd1.keep uL8
          have up := up.trans uL8
          have eL9 := eL9.keep uL8
          generalize upd HA L8 (.lst (List.replicate 8 [V.ref t8]).flatten) = HA at hA xx hBA ⊢
          generalize upd GA L8 (.lst (List.replicate 8 [V.ref t8]).flatten) = GA at xx gBA eL8 hd1 up eL9
          refine ⟨few (by show 3 ≤ 1000; omega), fun o no => ?_⟩
          have oa := (hand_apart hA no).1
          have hF := hand_keep (o := HO.lst [y1, .ref L9, .ref L8]) hA no
          have xF := xx.mk0 (o := HO.lst [y1, .ref L9, .ref L8]) no
          have hBF := same_upd (o := HO.lst [y1, .ref L9, .ref L8]) no _ _ hBA
          have hoF : (upd HA o (.lst [y1, .ref L9, .ref L8])) o = some (.lst [y1, .ref L9, .ref L8]) := upd_same
          refine tk hF xF rfl (fun R h => h) (by omega) (by omega) fun n HG n0 n1'' hG xG sG' => ?_
          have hoG := sG' _ _ oa hoF
          have hBG := sG' _ _ Ba hBF
          obtain ⟨m, rfl⟩ : ∃ m : Nat, n = (m : Int) := ⟨n.toNat, (Int.toNat_of_nonneg n0).symm⟩
          have pairs : ∀ e ∈ [PyData.tuple [.int 1, .int 2]], Sm (FL ++ (S ++ (X ++ []))) 100 2 e := fun e me => by
            rw [List.mem_singleton.mp me]
            refine (Sm.tuple (m := 30) (k := 1) (n := 2) (fun d m => ?_) (Nat.le_refl _) (by omega)).mono (fun _ m => m) (by omega) (by omega)
            rcases List.mem_cons.mp m with e | m
            · rw [e]; exact sm_int (by decide) fun _ _ => inFL 1 (by decide)
            · rw [List.mem_singleton.mp m]; exact sm_int (by decide) fun _ _ => inFL 2 (by decide)
          have m3 : m = 0 ∨ m = 1 ∨ m = 2 := by omega
          rcases m3 with rfl | rfl | rfl
          · exact ⟨o, _, _, _, rfl, rfl, SqL.of hoG, atI_nat (j := 0) rfl, hv, _, _, _, _, _, _, _, _, rfl, .inl ⟨B, rfl, fin HG GA hv y1 hd d1 [] hG xG hBG gBA up (hdv.keep up) hd1 (Nat.zero_le _) okh' (.inl r1)⟩⟩
          · exact ⟨o, _, _, _, rfl, rfl, SqL.of hoG, atI_nat (j := 1) rfl, hv, _, _, _, _, _, _, _, _, rfl, .inl ⟨B, rfl, fin HG GA hv _ hd _ [] hG xG hBG gBA up (hdv.keep up) eL9 (Nat.zero_le _) okh' (.inr ⟨_, rfl, by rw [rep_len]; show 9 * 1 ≤ _; omega, fun x m => pairs x (rep_mem m)⟩)⟩⟩
          · exact ⟨o, _, _, _, rfl, rfl, SqL.of hoG, atI_nat (j := 2) rfl, hv, _, _, _, _, _, _, _, _, rfl, .inl ⟨B, rfl, fin HG GA hv _ hd _ [] hG xG hBG gBA up (hdv.keep up) eL8 (Nat.zero_le _) okh' (.inr ⟨_, rfl, by rw [rep_len]; show 8 * 1 ≤ _; omega, fun x m => pairs x (rep_mem m)⟩)⟩⟩
        -- another thing altogether
        have x7 := x6.ice nB hB6 gB Ba
        have f7 := same_upd (o := HO.lst ys) gB
        have eB : Dq (upd G5 B (.lst ys)) (.ref B) (.list bs) := .lst upd_same (all.keep f7)
        have hdv := hdv.keep f7
        have udv := udv.keep f7
        generalize upd G5 B (.lst ys) = G7 at x7 eB hdv udv
        refine ⟨_, rfl, a, c, G7, rfl, h6, x7.sub, x7.off, fun y1 d1 HA GA hA xA hd1 r1 => ?_⟩
        have xx := x7.trans xA
        have eB := eB.keep xA.up
        have hdv := hdv.keep xA.up
        have udv := udv.keep xA.up
        refine ⟨_, rfl, _, rfl, few (by show 2 ≤ 1000; omega), fun t1 nt1 => ?_⟩
        have u1 := same_upd (o := HO.tup [hv, .ref B]) (xx.gone nt1)
        have hA := hand_keep (o := HO.tup [hv, .ref B]) hA nt1
        have xx := xx.mk_ (o := HO.tup [hv, .ref B]) nt1
        have e1 : Dq (upd GA t1 (.tup [hv, .ref B])) (.ref t1) (.tuple [hd, .list bs]) := .tup upd_same (.cons (hdv.keep u1) (.cons (eB.keep u1) .nil))
        have eB := eB.keep u1
        have hdv := hdv.keep u1
        have udv := udv.keep u1
        have hd1 := hd1.keep u1
        generalize upd HA t1 (.tup [hv, .ref B]) = HA at hA xx ⊢
        generalize upd GA t1 (.tup [hv, .ref B]) = GA at xx e1 eB hdv udv hd1
        refine ⟨_, rfl, _, rfl, _, rfl, few (by show 4 ≤ 1000; omega), fun t2 nt2 => ?_⟩
        have u2 := same_upd (o := HO.tup [hv, .ref B, uv, .int 1]) (xx.gone nt2)
        have hA := hand_keep (o := HO.tup [hv, .ref B, uv, .int 1]) hA nt2
        have xx := xx.mk_ (o := HO.tup [hv, .ref B, uv, .int 1]) nt2
        have e2 : Dq (upd GA t2 (.tup [hv, .ref B, uv, .int 1])) (.ref t2) (.tuple [hd, .list bs, ud, .int 1]) := .tup upd_same (.cons (hdv.keep u2) (.cons (eB.keep u2) (.cons (udv.keep u2) (.cons (.int 1) .nil))))
        have e1 := e1.keep u2
        have hd1 := hd1.keep u2
        generalize upd HA t2 (.tup [hv, .ref B, uv, .int 1]) = HA at hA xx ⊢
        generalize upd GA t2 (.tup [hv, .ref B, uv, .int 1]) = GA at xx e2 e1 hd1
        refine ⟨few (Nat.zero_le _), fun l3 nl3 => ?_⟩
        have u3 := same_upd (o := HO.lst []) (xx.gone nl3)
        have hA := hand_keep (o := HO.lst []) hA nl3
        have xx := xx.mk_ (o := HO.lst []) nl3
        have e3 : Dq (upd GA l3 (.lst [])) (.ref l3) (.list []) := .lst upd_same .nil
        have e1 := e1.keep u3
        have e2 := e2.keep u3
        have hd1 := hd1.keep u3
        generalize upd HA l3 (.lst []) = HA at hA xx ⊢
        generalize upd GA l3 (.lst []) = GA at xx e3 e2 e1 hd1
        have allZ : DqAll GA [y1, .ref t1, .ref t2, .ref l3] [d1, .tuple [hd, .list bs], .tuple [hd, .list bs, ud, .int 1], .list []] := .cons hd1 (.cons e1 (.cons e2 (.cons e3 .nil)))
        refine ⟨few (by show 4 ≤ 1000; omega), fun o no => ?_⟩
        have oa := (hand_apart hA no).1
        have hF := hand_keep (o := HO.lst [y1, .ref t1, .ref t2, .ref l3]) hA no
        have xF := xx.mk0 (o := HO.lst [y1, .ref t1, .ref t2, .ref l3]) no
        have hoF : (upd HA o (.lst [y1, .ref t1, .ref t2, .ref l3])) o = some (.lst [y1, .ref t1, .ref t2, .ref l3]) := upd_same
        refine tk hF xF rfl (fun R h => h) (by omega) (by omega) fun n HG n0 n1'' hG xG sG' => ?_
        have hoG := sG' _ _ oa hoF
        obtain ⟨m, rfl⟩ : ∃ m : Nat, n = (m : Int) := ⟨n.toNat, (Int.toNat_of_nonneg n0).symm⟩
        obtain ⟨xv, ex⟩ : ∃ x, [y1, .ref t1, .ref t2, .ref l3][m]? = some x := ⟨_, List.getElem?_eq_getElem (by show m < 4; omega)⟩
        obtain ⟨xd, ed, hxd⟩ := allZ.get ex
        refine ⟨o, _, _, _, rfl, rfl, SqL.of hoG, atI_nat ex, k xv xd HG GA hG xG hxd ⟨X, by omega, ?_⟩⟩
        have md := List.mem_of_getElem? ed
        simp only [List.mem_cons, List.not_mem_nil, or_false] at md
        rcases md with rfl | rfl | rfl | rfl
        · exact (sm_rid r1 inFL).mono (fun _ m => m) (by omega) (by omega)
        · exact sm_three (sm_head okh inFL (by omega)) (sm_body okb n8 (by omega)) (sm_unl oku inFL (by omega)) (.inr (.inr rfl)) inFL
        · exact sm_three (sm_head okh inFL (by omega)) (sm_body okb n8 (by omega)) (sm_unl oku inFL (by omega)) (.inr (.inl rfl)) inFL
        · exact ⟨by decide +kernel, by decide +kernel, by decide +kernel, by decide +kernel, by rw [inL, inLs]⟩
      · rintro σ H7 ⟨hv, bv, uv, v6, v7, v8, v9, v10, v11, rfl, ⟨B, rfl, st⟩ | st⟩
        · obtain ⟨G7, ys, bs, hd, ud, X, h7, x7, hB7, gB7, Ba, Bc, nB, all, hdv, udv, n8, n1, lX, okh, oku, okb⟩ := id st
          have ne : ys.isEmpty = false := by
            cases ys with
            | nil => have := all.len; rw [List.length_nil] at this; omega
            | cons _ _ => rfl
          refine ⟨_, rfl, _, .ty "list", _, _, true, rfl, .ty _, .base (.lst hB7), kit_ty (by decide +kernel), _, rfl, iteF ?_⟩
          refine ⟨_, rfl, true, .inl ⟨_, SqL.of hB7, by rw [ne]; rfl⟩, iteF ?_⟩
          exact ⟨hv, uv, B, _, _, _, _, _, _, rfl, st⟩
        · obtain ⟨G7, hd, bd, ud, X, h7, x7, hh7, hb7, hu7, okb, lX, okh, oku⟩ := id st
          have stop := end_fin (σ := [some (.ref a), some (.ref W), some (.ref p), some hv, some bv, some uv, v6, v7, v8, v9, v10, v11]) st (by omega) rfl rfl rfl k
          refine ⟨_, rfl, bv, .ty "list", _, _, _, rfl, .ty _, .base (hb7.keep x7.sub).ty, kit_dList bd, _, rfl, ?_⟩
          rcases okb with r | rfl
          · have nl : decide (tyD bd = "list") = false := by
              unfold Rid at r
              simp only [List.mem_cons, List.not_mem_nil, or_false] at r
              rcases r with rfl | rfl | rfl | rfl | rfl | rfl <;> decide +kernel
            rw [nl]
            exact iteT (iteT stop)
          · cases hb7 with
            | @lst b0 zs _ hz hza =>
            cases hza
            refine iteF ⟨_, rfl, false, .inl ⟨[], SqL.of (x7.sub _ _ hz), rfl⟩, iteT stop⟩
    · rintro σ H5 ⟨hv, uv, B, v6, v7, v8, v9, v10, v11, rfl, st⟩
      exact bad_fin st (by omega) rfl rfl rfl k
end
end My
set_option Elab.async false
set_option linter.all false
set_option maxRecDepth 100000
set_option maxHeartbeats 4000000
namespace My
open PySem PySem.Spec PyProof.Rows L2
/-! ### the same thing in tuples is as large, as deep, with the same leaves -/
mutual
theorem deep_leaf : ∀ d : PyData, leafD (deepD d) = leafD d
  | .none => by rw [deepD]
  | .bool _ => by rw [deepD]
  | .int _ => by rw [deepD]
  | .str _ => by rw [deepD]
  | .dict _ => by rw [deepD]
  | .list ds => by rw [deepD, leafD, leafD, deeps_leaf ds]
  | .tuple ds => by rw [deepD, leafD, leafD, deeps_leaf ds]
theorem deeps_leaf : ∀ ds : List PyData, leafDs (deepDs ds) = leafDs ds
  | [] => by rw [deepDs]
  | d :: ds => by rw [deepDs, leafDs, leafDs, deep_leaf d, deeps_leaf ds]
end
mutual
theorem deep_sz : ∀ d : PyData, szD (deepD d) = szD d
  | .none => by rw [deepD]
  | .bool _ => by rw [deepD]
  | .int _ => by rw [deepD]
  | .str _ => by rw [deepD]
  | .dict _ => by rw [deepD]
  | .list ds => by rw [deepD, szD, szD, deeps_sz ds]
  | .tuple ds => by rw [deepD, szD, szD, deeps_sz ds]
theorem deeps_sz : ∀ ds : List PyData, szDs (deepDs ds) = szDs ds
  | [] => by rw [deepDs]
  | d :: ds => by rw [deepDs, szDs, szDs, deep_sz d, deeps_sz ds]
end
mutual
theorem deep_dep : ∀ d : PyData, dep (deepD d) = dep d
  | .none => by rw [deepD]
  | .bool _ => by rw [deepD]
  | .int _ => by rw [deepD]
  | .str _ => by rw [deepD]
  | .dict _ => by rw [deepD]
  | .list ds => by rw [deepD, dep, dep, deeps_dep ds]
  | .tuple ds => by rw [deepD, dep, dep, deeps_dep ds]
theorem deeps_dep : ∀ ds : List PyData, depAll (deepDs ds) = depAll ds
  | [] => by rw [deepDs]
  | d :: ds => by rw [deepDs, depAll, depAll, deep_dep d, deeps_dep ds]
end
mutual
theorem deep_few : ∀ d : PyData, fewD (deepD d) = fewD d
  | .none => by rw [deepD]
  | .bool _ => by rw [deepD]
  | .int _ => by rw [deepD]
  | .str _ => by rw [deepD]
  | .dict _ => by rw [deepD]
  | .list ds => by rw [deepD, fewD, fewD, deeps_few ds, deepDs_map, List.length_map]
  | .tuple ds => by rw [deepD, fewD, fewD, deeps_few ds, deepDs_map, List.length_map]
theorem deeps_few : ∀ ds : List PyData, fewDs (deepDs ds) = fewDs ds
  | [] => by rw [deepDs]
  | d :: ds => by rw [deepDs, fewDs, fewDs, deep_few d, deeps_few ds]
end
mutual
theorem deep_inL (L : List Int) : ∀ d : PyData, inL L (deepD d) = inL L d
  | .none => by rw [deepD]
  | .bool _ => by rw [deepD]
  | .int _ => by rw [deepD]
  | .str _ => by rw [deepD]
  | .dict _ => by rw [deepD]
  | .list ds => by rw [deepD, inL, inL, deeps_inL L ds]
  | .tuple ds => by rw [deepD, inL, inL, deeps_inL L ds]
theorem deeps_inL (L : List Int) : ∀ ds : List PyData, inLs L (deepDs ds) = inLs L ds
  | [] => by rw [deepDs]
  | d :: ds => by rw [deepDs, inLs, inLs, deep_inL L d, deeps_inL L ds]
end
/-- that a thing can be shown -/
structure Sh (d : PyData) : Prop where
  leaf : leafD d = true
  few : fewD d = true
  dp : dep d ≤ 9
  sz : szD d ≤ 16000000
theorem Sh.deep {d e : PyData} (h : Sh d) (q : deepD e = deepD d) : Sh e :=
  ⟨by rw [← deep_leaf, q, deep_leaf]; exact h.leaf, by rw [← deep_few, q, deep_few]; exact h.few, by rw [← deep_dep, q, deep_dep]; exact h.dp, by rw [← deep_sz, q, deep_sz]; exact h.sz⟩
theorem deep_deep : ∀ d : PyData, deepD (deepD d) = deepD d
  | .none => by rw [deepD, deepD]
  | .bool _ => by rw [deepD, deepD]
  | .int _ => by rw [deepD, deepD]
  | .str _ => by rw [deepD, deepD]
  | .dict _ => by rw [deepD, deepD]
  | .list ds => by rw [deepD, deepD]; congr 1; exact go ds
  | .tuple ds => by rw [deepD, deepD]; congr 1; exact go ds
where
  go : ∀ ds : List PyData, deepDs (deepDs ds) = deepDs ds
    | [] => by rw [deepDs, deepDs]
    | d :: ds => by rw [deepDs, deepDs, deep_deep d, go ds]
theorem Sh.self {d : PyData} (h : Sh d) : Sh (deepD d) := h.deep (deep_deep d)
theorem rd_repr {H : Hp} {v : V} {d : PyData} {R : VK} (h : Sh d) (hv : Dq H v d) (q : R (.str d.shown) H) : rReprQ [v] H R :=
  ⟨v, d, rfl, hv, leaf_showable d h.leaf, by have := depth_le d h.leaf; have := h.dp; omega, by have := shown_le d h.leaf; have := h.sz; rw [sizeLine_eq]; omega, q⟩
theorem Sm.sh {L : List Int} {m k : Nat} {d : PyData} (h : Sm L m k d) (hm : m ≤ 16000000) (hk : k ≤ 9) : Sh d := ⟨h.leaf, h.few, Nat.le_trans h.dp hk, Nat.le_trans h.sz hm⟩
theorem sh_words {l : List PyData} (h : ∀ d ∈ l, leafD d = true ∧ fewD d = true ∧ dep d = 0 ∧ szD d ≤ 20) (n : l.length ≤ 3) : Sh (.list l) where
  leaf := by rw [leafD]; exact leafDs_of fun d m => (h d m).1
  few := by rw [fewD, decide_eq_true (show l.length ≤ 1000 by omega), fewDs_of fun d m => (h d m).2.1]; rfl
  dp := by
    rw [dep]
    have := depAll_le (k := 0) fun d m => Nat.le_of_eq (h d m).2.2.1
    omega
  sz := by
    rw [szD]
    have := szDs_le fun d m => (h d m).2.2.2
    have : (20 + 2) * l.length ≤ 22 * 3 := Nat.mul_le_mul_left _ n
    omega
theorem firstW_lt {α β : Type} {f : α → Option β} : ∀ {xs : List α} {i : Nat} {b : β} {j : Nat}, firstW f i xs = some (b, j) → j < i + xs.length ∧ ∃ x ∈ xs, f x = some b
  | x :: r, i, b, j, h => by
    rw [firstW] at h
    cases e : f x with
    | some w =>
      rw [e] at h
      cases h
      exact ⟨by rw [List.length_cons]; omega, x, List.mem_cons_self .., e⟩
    | none =>
      rw [e] at h
      obtain ⟨l, y, m, z⟩ := firstW_lt (xs := r) h
      exact ⟨by rw [List.length_cons]; omega, y, List.mem_cons_of_mem _ m, z⟩
theorem word_in {ws : List Int} {d : PyData} {w : Str} (h : wordD "atom" "term" termD ws d = some w) : w ∈ wordsD := by
  unfold wordD at h
  cases e : placeD ws d with
  | some x =>
    rw [e] at h
    dsimp only at h
    unfold placeD at e
    split at e
    · cases e
      rw [if_pos rfl] at h
      cases h
      decide +kernel
    · split at e
      · cases e
        rw [if_neg (by decide)] at h
        cases h
        decide +kernel
      · split at e
        · cases e
          rw [if_neg (by decide)] at h
          cases h
          decide +kernel
        · cases e
  | none =>
    rw [e] at h
    dsimp only at h
    split at h
    · cases h
    · cases h
      decide +kernel
theorem err_small {ws : List Int} {d : PyData} {w : Str} {i : Int} (few : fewD d = true) (h : qErr ws d = some (w, i)) : w ∈ wordsD ∧ 0 ≤ i ∧ i ≤ 1000 := by
  have l0 := (few_items (few_item few 0)).1
  have l1 := (few_items (few_item few 1)).1
  have l2 := (few_items (few_item few 2)).1
  unfold qErr at h
  cases hl : lenIn 3 3 d with
  | false =>
    rw [hl] at h
    cases h
    exact ⟨by decide +kernel, by omega, by omega⟩
  | true =>
    rw [hl] at h
    have h : (match bodyR ws (itemD d 1) with
      | some e => some e
      | none => match headR (namesD (itemD d 1)) (itemD d 0) with
        | some i => some (("head" : Str), i)
        | none => (pairsR (namesD (itemD d 1)) (itemD d 2)).map fun i => (("unlike" : Str), i)) = some (w, i) := h
    cases hb : bodyR ws (itemD d 1) with
    | some e =>
      rw [hb] at h
      cases h
      unfold bodyR at hb
      split at hb
      · obtain ⟨u, eu, ew⟩ := Option.map_eq_some_iff.mp hb
        obtain ⟨w', j⟩ := u
        cases ew
        obtain ⟨lt, x, _, ex⟩ := firstW_lt eu
        exact ⟨word_in ex, by omega, by omega⟩
      · cases hb
        exact ⟨by decide +kernel, by omega, by omega⟩
    | none =>
      rw [hb] at h
      dsimp only at h
      cases hh : headR (namesD (itemD d 1)) (itemD d 0) with
      | some j =>
        rw [hh] at h
        cases h
        refine ⟨by decide +kernel, ?_⟩
        unfold headR at hh
        split at hh
        · unfold placeI at hh
          obtain ⟨u, eu, ew⟩ := Option.map_eq_some_iff.mp hh
          obtain ⟨w', j⟩ := u
          have := (firstW_lt eu).1
          dsimp only at ew
          omega
        · cases hh
          omega
      | none =>
        rw [hh] at h
        dsimp only at h
        obtain ⟨j, ej, ew⟩ := Option.map_eq_some_iff.mp h
        cases ew
        refine ⟨by decide +kernel, ?_⟩
        unfold pairsR at ej
        split at ej
        · unfold placeI at ej
          obtain ⟨u, eu, ew⟩ := Option.map_eq_some_iff.mp ej
          obtain ⟨w', j⟩ := u
          have := (firstW_lt eu).1
          dsimp only at ew
          omega
        · cases ej
          omega
theorem leaf_w {w : Str} (h : w ∈ wordsD) : leafD (.str w) = true ∧ fewD (.str w) = true ∧ dep (.str w) = 0 ∧ szD (.str w) ≤ 20 := ⟨by rw [leafD]; exact decide_eq_true h, by rw [fewD], by rw [dep], by rw [szD]; omega⟩
theorem leaf_i {i : Int} (h0 : 0 ≤ i) (h : i ≤ 1000) : leafD (.int i) = true ∧ fewD (.int i) = true ∧ dep (.int i) = 0 ∧ szD (.int i) ≤ 20 := ⟨by rw [leafD]; exact decide_eq_true (by omega), by rw [fewD], by rw [dep], by rw [szD]; omega⟩
theorem sh_res {ws : List Int} {d : PyData} (hw : wRes ws = none) (h : Sh d) : Sh (resQ ws d) := by
  rw [← due_good hw]
  unfold dueD
  cases e : qErr ws d with
  | none => exact h.self
  | some u =>
    obtain ⟨w, i⟩ := u
    obtain ⟨h1, h2, h3⟩ := err_small h.few e
    refine sh_words (fun x m => ?_) (by show 2 ≤ 3; omega)
    rcases List.mem_cons.mp m with z | m
    · rw [z]; exact leaf_w h1
    · rw [List.mem_singleton.mp m]; exact leaf_i h2 h3
theorem u_ok {ws : List Int} {d r : PyData} (h : uRes ws d = .ok r) : ∃ ds, seqOf d = some ds ∧ ds.length ≤ 6 ∧ (∀ q ∈ ds, qErr ws q = none) ∧ r = .tuple (ds.map qGood) ∧ r = deepD d := by
  unfold uRes at h
  cases hl : lenIn 0 6 d with
  | false => rw [hl] at h; cases h
  | true =>
    rw [hl] at h
    obtain ⟨ds, e, z1, z2⟩ := seq_len hl
    rw [itemsD_some e] at h
    have h : (match firstW (qErr ws) 0 ds with
      | some ((w, i), _) => URes.bq w i
      | none => match firstW (lenW (headLen ((ds.map qGood).getD 0 .none))) 0 (ds.map qGood) with
        | some (_, i) => .bu "heads" i
        | none => .ok (.tuple (ds.map qGood))) = .ok r := h
    cases h1 : firstW (qErr ws) 0 ds with
    | some u => rw [h1] at h; cases h
    | none =>
      rw [h1] at h
      dsimp only at h
      cases h2 : firstW (lenW (headLen ((ds.map qGood).getD 0 .none))) 0 (ds.map qGood) with
      | some u => rw [h2] at h; cases h
      | none =>
        rw [h2] at h
        cases h
        have good : ∀ q ∈ ds, qErr ws q = none := fun q m => firstW_none h1 q m
        refine ⟨ds, e, by omega, good, rfl, ?_⟩
        rw [deep_seq e, map_eq fun q m => (good_deep (good q m)).symm]
theorem sh_resU {ws : List Int} {d : PyData} (hw : wRes ws = none) (h : Sh d) : Sh (resU ws d) := by
  unfold resU
  rw [hw]
  dsimp only
  have li := (few_items h.few)
  cases e : uRes ws d with
  | ok r =>
    obtain ⟨_, _, _, _, _, e2⟩ := u_ok e
    show Sh r
    rw [e2]
    exact h.self
  | bq w i =>
    have z : w ∈ wordsD ∧ 0 ≤ i ∧ i ≤ 1000 := by
      unfold uRes at e
      split at e
      · cases e
      · split at e
        · rename_i w' i' j heq
          cases e
          obtain ⟨_, x, mx, ex⟩ := firstW_lt heq
          exact err_small (li.2 x mx) ex
        · split at e <;> cases e
    refine sh_words (fun x m => ?_) (by show 2 ≤ 3; omega)
    rcases List.mem_cons.mp m with y | m
    · rw [y]; exact leaf_w z.1
    · rw [List.mem_singleton.mp m]; exact leaf_i z.2.1 z.2.2
  | bu w i =>
    have z : w ∈ wordsD ∧ 0 ≤ i ∧ i ≤ 1000 := by
      unfold uRes at e
      split at e
      · cases e
        exact ⟨by decide +kernel, by omega, by omega⟩
      · split at e
        · cases e
        · split at e
          · rename_i j heq
            cases e
            have l := (firstW_lt heq).1
            rw [List.length_map] at l
            exact ⟨by decide +kernel, by omega, by omega⟩
          · cases e
    refine sh_words (fun x m => ?_) (by show 3 ≤ 3; omega)
    simp only [List.mem_cons, List.not_mem_nil, or_false] at m
    rcases m with rfl | rfl | rfl
    · exact leaf_w z.1
    · exact leaf_i z.2.1 z.2.2
    · exact leaf_w (by decide +kernel)
end My
set_option Elab.async false
set_option linter.all false
set_option maxRecDepth 100000
set_option maxHeartbeats 4000000
namespace My
open PySem PySem.Spec PyProof.Rows L2
/-! ### unions of questions drawn, spoilt or not -/
def SpQ (d : PyData) : Prop := ∃ X : List Int, X.length ≤ 6 ∧ Sm (FL ++ X) 400000 8 d
theorem SpQ.deep {d e : PyData} (h : SpQ d) (q : deepD e = deepD d) : SpQ e := by
  obtain ⟨X, l, h⟩ := h
  exact ⟨X, l, by rw [← deep_leaf, q, deep_leaf]; exact h.leaf, by rw [← deep_few, q, deep_few]; exact h.few, by rw [← deep_dep, q, deep_dep]; exact h.dp, by rw [← deep_sz, q, deep_sz]; exact h.sz, by rw [← deep_inL, q, deep_inL]; exact h.vals⟩
theorem qd_sp {S ws : List Int} {d : PyData} (v : Vals2 S) (w6 : ws.length ≤ 6) (w3 : ∀ w ∈ ws, 1 ≤ w ∧ w ≤ 3) (h : QD S ws d) : SpQ d := by
  obtain ⟨hs, ats, us, rfl, h3, a1, a8, u8, okH, okA, okU⟩ := h
  have inS : ∀ i ∈ S, i ∈ FL ++ S := fun i m => List.mem_append_right _ m
  refine ⟨S, by rw [v.1]; omega, ?_⟩
  have sh : Sm (FL ++ S) 99 2 (.tuple hs) := Sm.tuple (n := 3) (fun d m => sm_term (okH d m) inS v.2) h3 (by omega)
  have sa : Sm (FL ++ S) 1659 4 (.tuple ats) := by
    refine Sm.tuple (m := 205) (k := 3) (n := 8) (fun x m => ?_) a8 (by omega)
    obtain ⟨t, ts, rfl, t1, tl, tt⟩ := okA x m
    have l3 : ts.length ≤ 3 := by
      have e : ws[t]? = some (ws.getD t 0) := by
        rw [List.getD_eq_getElem?_getD, List.getElem?_eq_getElem t1]
        rfl
      have := (w3 _ (List.mem_of_getElem? e)).2
      omega
    have inner := Sm.tuple (n := 3) (fun d md => sm_term (tt d md) inS v.2) l3 (by omega)
    refine Sm.tuple (m := 99) (k := 2) (n := 2) (fun d md => ?_) (Nat.le_refl _) (by omega)
    rcases List.mem_cons.mp md with e | md
    · rw [e]
      refine (sm_int (by omega) fun _ _ => inFL _ ?_).mono (fun _ m => m) (by omega) (by omega)
      unfold FL
      simp only [List.mem_cons, List.not_mem_nil, or_false]
      omega
    · rw [List.mem_singleton.mp md]
      exact inner
  have su : Sm (FL ++ S) 555 3 (.tuple us) := by
    refine Sm.tuple (m := 67) (k := 2) (n := 8) (fun x m => ?_) u8 (by omega)
    obtain ⟨y, z, rfl, t1, t2⟩ := okU x m
    refine Sm.tuple (m := 30) (k := 1) (n := 2) (fun d md => ?_) (Nat.le_refl _) (by omega)
    rcases List.mem_cons.mp md with e | md
    · rw [e]; exact sm_term t1 inS v.2
    · rw [List.mem_singleton.mp md]; exact sm_term t2 inS v.2
  refine (Sm.tuple (m := 1659) (k := 4) (n := 3) (fun d md => ?_) (Nat.le_refl _) (by omega)).mono (fun _ m => m) (by omega) (by omega)
  simp only [List.mem_cons, List.not_mem_nil, or_false] at md
  rcases md with rfl | rfl | rfl
  · exact sh.mono (fun _ m => m) (by omega) (by omega)
  · exact sa
  · exact su.mono (fun _ m => m) (by omega) (by omega)
theorem inL_item {L : List Int} {d : PyData} {ds : List PyData} (h : inL L d = true) (e : seqOf d = some ds) : ∀ x ∈ ds, inL L x = true := fun x m => by
  cases d with
  | list es =>
    cases Option.some.inj e
    rw [inL] at h
    exact inLs_mem h m
  | tuple es =>
    cases Option.some.inj e
    rw [inL] at h
    exact inLs_mem h m
  | _ => cases e
theorem inL_term {L : List Int} {t : PyData} {k : Int} (h : inL L t = true) (ht : termD t = true) (e : vOf t = .int k) : k ∈ L := by
  cases t with
  | int i =>
    cases e
    rw [inL] at h
    have z : (decide (0 ≤ k) && decide (k ≤ 1000000000)) = true := by
      unfold termD at ht
      have e : nameD (.int k) = false := rfl
      rw [e, Bool.false_or] at ht
      exact ht
    rw [z, Bool.not_true, Bool.false_or] at h
    exact of_decide_eq_true h
  | _ => cases e
theorem vals_in {L ws : List Int} {d : PyData} (h : inL L d = true) (hq : qErr ws d = none) {k : Int} (m : V.int k ∈ (qnOf d).all) : k ∈ L := by
  obtain ⟨a, b, c, e, i0, i1, i2, hb, hh, hp⟩ := q_parts hq
  have ia := inL_item h e a (by simp)
  have ib := inL_item h e b (by simp)
  have ic := inL_item h e c (by simp)
  unfold qnOf Qn.all at m
  rw [i0, i1, i2] at m
  rcases List.mem_append.mp m with m | m
  · rcases List.mem_append.mp m with m | m
    · obtain ⟨ds, ed, _, tt⟩ := head_parts hh
      rw [itemsD_some ed] at m
      obtain ⟨t, mt, et⟩ := List.mem_map.mp m
      exact inL_term (inL_item ia ed t mt) (told_term (tt t mt)) et
    · obtain ⟨n1, n8, ok⟩ := body_ok hb
      obtain ⟨l, ml, mv⟩ := List.mem_flatten.mp m
      obtain ⟨x, mx, rfl⟩ := List.mem_map.mp ml
      obtain ⟨y, my, rfl⟩ := List.mem_map.mp (show x ∈ (itemsD b).map _ from mx)
      obtain ⟨t, r, rs, j, es, e0, e1, er, eu, _, _, _, terms⟩ := ok y my
      obtain ⟨z, mz, ez⟩ := List.mem_map.mp (show V.int k ∈ (itemsD (itemD y 1)).map vOf from mv)
      rw [e1, itemsD_some er] at mz
      have eb : seqOf b = some (itemsD b) := by
        cases q : seqOf b with
        | some ds => rw [itemsD_some q]
        | none =>
          unfold itemsD at my
          rw [q] at my
          cases my
      exact inL_term (inL_item (inL_item (inL_item ib eb y my) es r (by simp)) er z mz) (terms z mz) ez
  · obtain ⟨ds, ed, _, tt⟩ := pairs_parts hp
    obtain ⟨l, ml, mv⟩ := List.mem_flatten.mp m
    obtain ⟨x, mx, rfl⟩ := List.mem_map.mp ml
    obtain ⟨y, my, rfl⟩ := List.mem_map.mp (show x ∈ (itemsD c).map _ from mx)
    rw [itemsD_some ed] at my
    obtain ⟨s, t, es, t1, t2⟩ := tt y my
    have j0 : itemD y 0 = s := by unfold itemD; rw [itemsD_some es]; rfl
    have j1 : itemD y 1 = t := by unfold itemD; rw [itemsD_some es]; rfl
    have iy := inL_item ic ed y my
    rcases List.mem_cons.mp mv with z | mv
    · rw [j0] at z
      exact inL_term (inL_item iy es s (by simp)) (told_term t1) z.symm
    · have z := List.mem_singleton.mp mv
      rw [j1] at z
      exact inL_term (inL_item iy es t (by simp)) (told_term t2) z.symm
theorem few_union {ws : List Int} : ∀ {ds : List PyData}, (∀ d ∈ ds, SpQ d) → (∀ d ∈ ds, qErr ws d = none) → ∃ Xs : List Int, Xs.length ≤ 6 * ds.length ∧ ∀ k, V.int k ∈ ((ds.map qnOf).map Qn.all).flatten → k ∈ FL ++ Xs
  | [], _, _ => ⟨[], Nat.zero_le _, fun k m => nomatch m⟩
  | d :: ds, h, q => by
    obtain ⟨Xs, l, hx⟩ := few_union (ds := ds) (fun x m => h x (List.mem_cons_of_mem _ m)) fun x m => q x (List.mem_cons_of_mem _ m)
    obtain ⟨X, l6, sm⟩ := h d (List.mem_cons_self ..)
    refine ⟨X ++ Xs, by rw [List.length_append, List.length_cons]; omega, fun k m => ?_⟩
    rw [List.map_cons, List.map_cons, List.flatten_cons] at m
    rcases List.mem_append.mp m with m | m
    · rcases List.mem_append.mp (vals_in sm.vals (q d (List.mem_cons_self ..)) m) with z | z
      · exact List.mem_append_left _ z
      · exact List.mem_append_right _ (List.mem_append_left _ z)
    · rcases List.mem_append.mp (hx k m) with z | z
      · exact List.mem_append_left _ z
      · exact List.mem_append_right _ (List.mem_append_right _ z)
theorem few64_union {ws : List Int} {ds : List PyData} (h : ∀ d ∈ ds, SpQ d) (q : ∀ d ∈ ds, qErr ws d = none) (n6 : ds.length ≤ 6) : Few64 ((ds.map qnOf).map Qn.all).flatten := by
  obtain ⟨Xs, l, hx⟩ := few_union h q
  intro ns nd m
  have z := nodup_le ((FL ++ Xs).map V.int) ns nd fun k mk => List.mem_map.mpr ⟨k, hx k (m k mk), rfl⟩
  rw [List.length_map, List.length_append] at z
  have e : FL.length = 9 := rfl
  omega
/-! ### widths -/
theorem w_ok {ws : List Int} (n1 : 1 ≤ ws.length) (n6 : ws.length ≤ 6) (w3 : ∀ w ∈ ws, 1 ≤ w ∧ w ≤ 3) : wRes ws = none := by
  unfold wRes
  rw [if_pos ⟨n1, n6⟩]
  have : firstW wBad 0 ws = none := by
    cases e : firstW wBad 0 ws with
    | none => rfl
    | some u =>
      obtain ⟨b, j⟩ := u
      obtain ⟨_, x, mx, ex⟩ := firstW_lt e
      unfold wBad at ex
      rw [if_pos (w3 x mx)] at ex
      cases ex
  rw [this]
  rfl
theorem w_four {ws : List Int} (n1 : 1 ≤ ws.length) (n6 : ws.length ≤ 6) (w3 : ∀ w ∈ ws, 1 ≤ w ∧ w ≤ 3) : wRes (ws ++ [4]) = some (if ws.length < 6 then (ws.length : Int) else 0) := by
  have go : ∀ (xs : List Int) (i : Nat), (∀ w ∈ xs, 1 ≤ w ∧ w ≤ 3) → firstW wBad i (xs ++ [4]) = some ((), i + xs.length) := by
    intro xs
    induction xs with
    | nil => intro i _; rfl
    | cons x r ih =>
      intro i h
      rw [List.cons_append, firstW]
      have e : wBad x = none := by unfold wBad; rw [if_pos (h x (List.mem_cons_self ..))]
      rw [e]
      dsimp only
      rw [ih (i + 1) fun w m => h w (List.mem_cons_of_mem _ m), List.length_cons]
      congr 2
      omega
  unfold wRes
  have l : (ws ++ [4]).length = ws.length + 1 := by rw [List.length_append]; rfl
  by_cases z : ws.length < 6
  · rw [if_pos (by omega), go ws 0 w3, if_pos z]
    simp
  · rw [if_neg (by omega), if_neg z]
theorem spq_sh {d : PyData} (h : SpQ d) : Sh d := by
  obtain ⟨X, _, sm⟩ := h
  exact sm.sh (by omega) (by omega)
theorem spq_list {ds : List PyData} (h : ∀ d ∈ ds, SpQ d) (n : ds.length ≤ 14) : Sh (.list ds) where
  leaf := by rw [leafD]; exact leafDs_of fun d m => (spq_sh (h d m)).leaf
  few := by rw [fewD, decide_eq_true (show ds.length ≤ 1000 by omega), fewDs_of fun d m => (spq_sh (h d m)).few]; rfl
  dp := by
    rw [dep]
    have := depAll_le (k := 8) fun d m => by obtain ⟨X, _, sm⟩ := h d m; exact sm.dp
    omega
  sz := by
    rw [szD]
    have := szDs_le (n := 400000) fun d m => by obtain ⟨X, _, sm⟩ := h d m; exact sm.sz
    have : (400000 + 2) * ds.length ≤ (400000 + 2) * 14 := Nat.mul_le_mul_left _ n
    omega
end My
set_option Elab.async false
set_option linter.all false
set_option maxRecDepth 100000
set_option maxHeartbeats 4000000
namespace My
open PySem PySem.Spec PyProof.Rows L2
/-! ### results outlive a draw -/
section
variable {a : Addr} {H H' : Hp} {l : List V}
mutual
theorem dq_oldN (old : ∀ b o, b ≠ a → H b = some o → H' b = some o) (ha : H a = some (.lst l)) : ∀ (d : PyData) (v : V), noL d = true → Dq H v d → Dq H' v d
  | .none, _, _, .non => .non
  | .bool b, _, _, .bl _ => .bl b
  | .int i, _, _, .int _ => .int i
  | .str x, _, _, .str _ => .str x
  | .list ds, _, t, _ => by rw [noL] at t; cases t
  | .tuple ds, _, t, .tup h al => by
    rw [noL] at t
    exact .tup (old _ _ (fun z => by rw [z, ha] at h; cases h) h) (dqAll_oldN old ha ds _ t al)
  | .dict _, _, _, .dct h => .dct (old _ _ (fun z => by rw [z, ha] at h; cases h) h)
theorem dqAll_oldN (old : ∀ b o, b ≠ a → H b = some o → H' b = some o) (ha : H a = some (.lst l)) : ∀ (ds : List PyData) (vs : List V), noLs ds = true → DqAll H vs ds → DqAll H' vs ds
  | [], _, _, .nil => .nil
  | d :: ds, _, t, .cons h al => by
    rw [noLs, Bool.and_eq_true] at t
    exact .cons (dq_oldN old ha d _ t.1 h) (dqAll_oldN old ha ds _ t.2 al)
end
end
/-- no list in it, or a list that begins with a text -/
def Apart2 (d : PyData) : Prop := noL d = true ∨ ∃ w r, d = .list (.str w :: r) ∧ noLs r = true
theorem dq_draw {a c : Addr} {H H' : Hp} {d : PyData} {v : V} (hh : Hand MO H a c) (old : ∀ b o, b ≠ a → H b = some o → H' b = some o) (ok : Apart2 d) (h : Dq H v d) : Dq H' v d := by
  obtain ⟨cs, l, e1, e2, hl, _⟩ := hh.ex
  rcases ok with ok | ⟨w, r, rfl, ok⟩
  · exact dq_oldN old e1 d v ok h
  · cases h with
    | @lst p xs _ hp hall =>
    match xs, hall with
    | x :: xr, .cons h1 h2 =>
    cases h1
    have pa : p ≠ a := fun z => by
      obtain ⟨i, r, t, rfl, _⟩ := hl
      rw [z, e1] at hp
      cases hp
    exact .lst (old _ _ pa hp) (.cons (.str w) (dqAll_oldN old e1 r xr ok h2))
theorem res_apart {ws : List Int} {d : PyData} (hw : wRes ws = none) : Apart2 (resQ ws d) := by
  unfold resQ
  rw [hw]
  cases e : qErr ws d with
  | some u =>
    obtain ⟨w, i⟩ := u
    exact .inr ⟨w, [.int i], rfl, rfl⟩
  | none => exact .inl (good_noL e)
theorem resU_apart {ws : List Int} {d : PyData} (hw : wRes ws = none) : Apart2 (resU ws d) := by
  unfold resU
  rw [hw]
  dsimp only
  cases e : uRes ws d with
  | bq w i => exact .inr ⟨w, [.int i], rfl, rfl⟩
  | bu w i => exact .inr ⟨w, [.int i, .str "union"], rfl, rfl⟩
  | ok r =>
    obtain ⟨ds, _, _, good, rfl, _⟩ := u_ok e
    refine .inl ?_
    show noL (.tuple (ds.map qGood)) = true
    rw [noL]
    refine noLs_of fun x m => ?_
    obtain ⟨q, mq, rfl⟩ := List.mem_map.mp m
    exact good_noL (good q mq)
/-- questions among the data, as the promises want them -/
theorem good_refs {K : PySem.W.Frag} {H : Hp} {ws : List Int} (hw : wRes ws = none) : ∀ {ds : List PyData} {vs : List V}, (∀ q ∈ ds, qErr ws q = none) → DqAll H vs (ds.map qGood) → Paired (QRef K H) vs (ds.map qnOf)
  | [], _, _, .nil => .nil
  | d :: ds, _, h, .cons h1 h2 => by
    obtain ⟨p, e, hq, _⟩ := good_at (K := K) (h d (List.mem_cons_self ..)) hw h1
    exact .cons ⟨p, e, hq⟩ (good_refs hw (fun q m => h q (List.mem_cons_of_mem _ m)) h2)
theorem good_flat {ws : List Int} {H : Hp} (hw : wRes ws = none) : ∀ {ds : List PyData} {vs : List V}, (∀ q ∈ ds, qErr ws q = none) → DqAll H vs (ds.map qGood) → ((ds.map qnOf).map Qn.all).flatten.length ≤ 43 * ds.length ∧ (∀ q ∈ ds.map qnOf, q.all.length ≤ 1000) ∧ ∀ v ∈ ((ds.map qnOf).map Qn.all).flatten, TermV v
  | [], _, _, .nil => ⟨Nat.le_refl _, (fun q m => nomatch m), (fun v m => nomatch m)⟩
  | d :: ds, _, h, .cons h1 h2 => by
    obtain ⟨p, e, hq, _, n43, kind⟩ := good_at (K := []) (h d (List.mem_cons_self ..)) hw h1
    obtain ⟨l1, l2, l3⟩ := good_flat hw (fun q m => h q (List.mem_cons_of_mem _ m)) h2
    refine ⟨?_, fun q m => ?_, fun v m => ?_⟩
    · rw [List.map_cons, List.map_cons, List.flatten_cons, List.length_append, List.length_cons]
      omega
    · rw [List.map_cons] at m
      rcases List.mem_cons.mp m with z | m
      · rw [z]; omega
      · exact l2 q m
    · rw [List.map_cons, List.map_cons, List.flatten_cons] at m
      rcases List.mem_append.mp m with m | m
      · exact kind v m
      · exact l3 v m
/-- a thing whose items are questions drawn -/
def UnOk (d : PyData) : Prop := Sh d ∧ ∀ ds, seqOf d = some ds → ∀ q ∈ ds, SpQ q
theorem UnOk.deep {d e : PyData} (h : UnOk d) (q : deepD e = deepD d) : UnOk e := by
  refine ⟨h.1.deep q, fun es ee x m => ?_⟩
  have z := deep_seq ee
  rw [q] at z
  cases ed : seqOf d with
  | none =>
    rw [deep_flat ed] at z
    rw [z] at ed
    cases ed
  | some ds =>
    rw [deep_seq ed] at z
    have z : ds.map deepD = es.map deepD := PyData.tuple.inj z
    have mx : deepD x ∈ ds.map deepD := by rw [z]; exact List.mem_map.mpr ⟨x, m, rfl⟩
    obtain ⟨y, my, ey⟩ := List.mem_map.mp mx
    exact (h.2 ds ed y my).deep ey.symm
theorem unOk_list {ds : List PyData} (h : ∀ d ∈ ds, SpQ d) (n : ds.length ≤ 14) : UnOk (.list ds) := ⟨spq_list h n, fun es e => by cases Option.some.inj e; exact h⟩
theorem unOk_rid {d : PyData} (h : Rid d) : UnOk d := by
  refine ⟨(sm_rid (L := FL) h fun _ m => m).sh (by omega) (by omega), fun ds e => ?_⟩
  unfold Rid at h
  simp only [List.mem_cons, List.not_mem_nil, or_false] at h
  rcases h with rfl | rfl | rfl | rfl | rfl | rfl <;> cases e
theorem sh_ints {ns : List Int} (n64 : ns.length < 64) (h : ∀ k ∈ ns, 0 ≤ k ∧ k ≤ 1000000000) : Sh (.tuple (ns.map PyData.int)) := by
  have z : ∀ d ∈ ns.map PyData.int, Sm (FL ++ ns) 30 1 d := fun d m => by
    obtain ⟨k, mk, rfl⟩ := List.mem_map.mp m
    have := h k mk
    exact sm_int (by omega) fun _ _ => List.mem_append_right _ mk
  exact (Sm.tuple z (n := 64) (by rw [List.length_map]; omega) (by omega)).sh (by omega) (by omega)
theorem Hand.same {H H' : Hp} {a c : Addr} (h : Hand MO H a c) (s : Same H H') : Hand MO H' a c := by
  obtain ⟨cs, l, e1, e2, r⟩ := h.ex
  exact ⟨cs, l, s _ _ e1, s _ _ e2, r⟩
end My
set_option Elab.async false
set_option linter.all false
set_option maxRecDepth 100000
set_option maxHeartbeats 4000000
namespace My
open PySem PySem.Spec PyProof.Rows L2

/-- for x in a list that stays as it is -/
theorem forL {K : PySem.W.Frag} {te : TE} {b : Addr} {xs : List V} {g : TG} {tb : TS} {D : Ends} {σ : L2.St} {H : Hp} (hv : ∀ R : VK, R (.ref b) H → te σ H R) (Pv : Nat → L2.St → Hp → Prop) (h0 : Pv 0 σ H) (hG : ∀ i σ H', i ≤ xs.length → Pv i σ H' → SqL K H' b xs)
    (hl : ∀ i x σ H', xs[i]? = some x → Pv i σ H' → g x σ H' fun σ2 H2 => tb { D with nx := Pv (i + 1), ct := Pv (i + 1), bk := D.nx } σ2 H2) (hd : ∀ σ H', Pv xs.length σ H' → D.nx σ H') : tFor (iSeq K te) g tb D σ H := by
  refine .inl (hv _ ⟨b, rfl, ⟨_, hG 0 σ H (Nat.zero_le _) h0⟩, for_it (walk_list (K := K) (a := b) (xs := xs)) Pv h0 (fun i σ H' hi p => hG i σ H' hi p) (fun i x σ H' H2 hi p y => ?_) hd⟩)
  obtain ⟨rfl, ex⟩ := y
  exact hl i x σ H2 ex p
def spLaw (K : PySem.W.Frag) : Sp := fun vs H Q _ => ∃ (s : Addr) (ns : List Int), vs = [.ref s] ∧ SqL K H s (ns.map V.int) ∧ ns.length ≤ 63 ∧ ∀ H', Q (.bl true) H'
section
variable {P : Program} {w : World} {K : PySem.W.Frag} {mg : Str → Option Value} {base : Heap}
theorem sc_law : FnScope ["_law_script", "_law_hand_here", "_law_widths", "_law_length", "_law_union", "_law_turn", "_law_bad", "_law_question", "_law_thing", "_law_other", "_law_spoilt_here", "_law_due", "_law_name", "_law_kept"] ["_law_script"] (defScope (topS 69)) := ⟨rfl, rfl, rfl, by decide +kernel, rfl, by decide +kernel, by decide +kernel⟩
theorem ok_law {f : Addr} {fd : FuncData} (F : L2.Fun K "law" "law" (topS 69) f fd) (sys : SysOk K) (cH : Cal P w K mg base 1 "_law_hand" (spHand MO K)) (cMW : Cal P w K mg base 3 "_law_many_widths" (spWidths K)) (cT : Cal P w K mg base 2 "_law_take" (spDraw MO)) (cLQ : Cal P w K mg base 4 "_law_large_question" (spLarge K)) (cBQ : Cal P w K mg base 5 "_law_bad_question" (spBad K)) (cLo : Cal P w K mg base 12 "_law_loose" (spLoose K 9)) (cQD : Cal P w K mg base 11 "_law_question_due" (spQDue K)) (cCQ : Cal P w K mg base 8 "_law_checked_question" (spChkQ K)) (cLi : Cal P w K mg base 3 "_law_lists" (spLists K)) (cRi : Cal P w K mg base 3 "_law_rid" (spRid K)) (cUD : Cal P w K mg base 12 "_law_union_due" (spUDue K)) (cCU : Cal P w K mg base 9 "_law_checked_union" (spChkU K)) (cUV : Cal P w K mg base 2 "union_values" (spUVals K)) (cLV : Cal P w K mg base 1 "_law_union_values" (spLUVals K)) (cHL : Cal P w K mg base 1 "head_length" (spHeadLen K)) (cAV : Cal P w K mg base 3 "_law_any_value" (spAny K)) (cNV : Cal P w K mg base 3 "_law_no_value" (spNoVal K)) (cLN : Cal P w K mg base 1 "_law_is_name" (spLName K)) (cTr : Cal P w K mg base 1 "_law_truth" (spLTruth K)) (cIN : Cal P w K mg base 1 "is_name" (spName K)) (cIT : Cal P w K mg base 3 "is_term" (spTerm K)) (cIV : Cal P w K mg base 2 "_law_is_value" (spLVal K)) (cSP : CalG P w K mg base 4 "_law_same_parts" (spSame K)) (m_list : mg "list" = none) (m_tuple : mg "tuple" = none) (m_len : mg "len" = none) (m_range : mg "range" = none) (m_repr : mg "repr" = none) (m_isinstance : mg "isinstance" = none) : FnG P w K mg base 13 f fd ["_law_script"] (spLaw K) := by
  refine fnG_of F sc_law (fun vs H Q E h => ?_) (fun cdv A outer s0 H vs Q free hr h => ?_)
  · obtain ⟨s, ns, rfl, _⟩ := h
    rfl
  · obtain ⟨s, ns, rfl, hs, h63, k⟩ := h
    refine ⟨_, (pss_cons (ps_set (i := 1) sc_law.nd rfl (.inl rfl) (pe_c cH hr (by decide) rfl (pa_cons (pv 0) pa_nil)))
      (pss_cons (ps_set (i := 2) sc_law.nd rfl (.inl rfl) (pe_c cMW hr (by decide) rfl (pa_cons (pv 1) pa_nil)))
      (pss_cons (ps_set (i := 3) sc_law.nd rfl (.inl rfl) (pe_c cT hr (by decide) rfl (pa_cons (pv 1) (pa_cons pe_int pa_nil))))
      (pss_cons (ps_set (i := 4) sc_law.nd rfl (.inl rfl) (pe_lst pa_nil))
      (pss_cons (ps_for PassesOwn.never rfl (pi_range1 (by rfl) m_range (pa_cons (pe_ix ix_tup (pe_tup (pa_cons pe_int (pa_cons pe_int (pa_cons pe_int (pa_cons pe_int (pa_cons pe_int (pa_cons pe_int pa_nil))))))) (pe_c cT hr (by decide) rfl (pa_cons (pv 1) (pa_cons pe_int pa_nil))) (fun _ _ => rfl)) pa_nil)) (pg_name (i := 5) sc_law.nd rfl (.inl rfl)) (pss_cons (ps_set (i := 9) sc_law.nd rfl (.inl rfl) (pe_ifExp (pt_cmpR op_eq (pe_c cT hr (by decide) rfl (pa_cons (pv 1) (pa_cons pe_int pa_nil))) pe_int (nomark _)) (pe_c cT hr (by decide) rfl (pa_cons (pv 1) (pa_cons pe_int pa_nil))) (pv 3))) (pss_one (ps_expr (pe_bm PySem.F.plainAttrs_list PySem.F.slot_list_append PySem.F.type_list_append mt_append (pv 4) (pa_cons (pe_c cLQ hr (by decide) rfl (pa_cons (pv 1) (pa_cons (pv 2) (pa_cons (pv 9) pa_nil)))) pa_nil))))))
      (pss_cons (ps_set (i := 6) sc_law.nd rfl (.inl rfl) (pe_callTy call_list_of (by rfl) m_list (by decide +kernel) (pa_cons (pv 4) pa_nil)))
      (pss_cons (ps_for PassesOwn.never rfl (pi_seq (pe_op op_cat (pe_lst (pa_cons (pe_c cLQ hr (by decide) rfl (pa_cons (pv 1) (pa_cons (pv 2) (pa_cons (pv 3) pa_nil)))) pa_nil)) (pe_slice sl_list (pv 4) po_none (po_some pe_int)))) (pg_name (i := 7) sc_law.nd rfl (.inl rfl)) (pss_cons (ps_set (i := 10) sc_law.nd rfl (.inl rfl) (pe_c cBQ hr (by decide) rfl (pa_cons (pv 1) (pa_cons (pv 2) (pa_cons (pv 7) pa_nil))))) (pss_cons (ps_for PassesOwn.never rfl (pi_seq (pe_lst (pa_cons (pv 7) (pa_cons (pv 10) pa_nil)))) (pg_name (i := 8) sc_law.nd rfl (.inl rfl)) (pss_cons (ps_set (i := 8) sc_law.nd rfl (.inl rfl) (pe_c cLo hr (by decide) rfl (pa_cons (pv 1) (pa_cons (pv 8) pa_nil)))) (pss_cons (ps_set (i := 13) sc_law.nd rfl (.inl rfl) (pe_callB (call_reprQ free (by have := hr.un; show (A.deeper _).units + 150 < _; omega) sys) (by rfl) m_repr (by decide +kernel) (pa_cons (pv 8) pa_nil))) (pss_cons (ps_set (i := 11) sc_law.nd rfl (.inl rfl) (pe_c cQD hr (by decide) rfl (pa_cons (pv 2) (pa_cons (pv 8) pa_nil)))) (pss_cons (ps_if (PW.pt (pw_or (pt_cmpR op_ne (pe_callB (call_reprQ free (by have := hr.un; show (A.deeper _).units + 150 < _; omega) sys) (by rfl) m_repr (by decide +kernel) (pa_cons (pe_c cCQ hr (by decide) rfl (pa_cons (pe_c cLi hr (by decide) rfl (pa_cons (pv 1) (pa_cons (pv 2) pa_nil))) (pa_cons (pv 8) pa_nil))) pa_nil)) (pe_callB (call_reprQ free (by have := hr.un; show (A.deeper _).units + 150 < _; omega) sys) (by rfl) m_repr (by decide +kernel) (pa_cons (pv 11) pa_nil)) (nomark _)) (pw_or1 (pt_cmpR op_ne (pe_callB (call_reprQ free (by have := hr.un; show (A.deeper _).units + 150 < _; omega) sys) (by rfl) m_repr (by decide +kernel) (pa_cons (pv 8) pa_nil)) (pv 13) (nomark _))))) (pss_one (ps_ret pe_bl)) pss_nil) (pss_one (ps_if (PW.pt (pw_and (pt_val (pe_callB call_isi (by rfl) m_isinstance (by decide +kernel) (pa_cons (pv 11) (pa_cons (pe_bltn (v := .ty "tuple") (by rfl) m_tuple (by decide +kernel) rfl) pa_nil)))) (pw_and1 (pt_not (pt_val (pe_cG cSP free hr (by decide) rfl (pa_cons (pv 11) pa_nil))))))) (pss_one (ps_ret pe_bl)) pss_nil))))))) (pss_one (ps_if (pt_truth (pv 6) (by intro _; rfl)) (pss_one (ps_asg (pv 10) (pg_sub (pv 6) (pe_c cT hr (by decide) rfl (pa_cons (pv 1) (pa_cons (pe_callB call_len_seq (by rfl) m_len PySem.boot_len (pa_cons (pv 6) pa_nil)) pa_nil))) set_list))) pss_nil)))))
      (pss_cons (ps_for PassesOwn.never rfl (pi_seq (pe_lst (pa_cons (pv 4) (pa_cons (pv 6) (pa_cons (pe_op op_cat (pv 4) (pv 6)) (pa_cons (pe_lst pa_nil) (pa_cons (pe_c cRi hr (by decide) rfl (pa_cons (pv 1) pa_nil)) (pa_cons (pe_slice sl_list (pv 4) po_none (po_some pe_int)) pa_nil)))))))) (pg_name (i := 8) sc_law.nd rfl (.inl rfl)) (pss_cons (ps_set (i := 8) sc_law.nd rfl (.inl rfl) (pe_c cLo hr (by decide) rfl (pa_cons (pv 1) (pa_cons (pv 8) pa_nil)))) (pss_cons (ps_set (i := 11) sc_law.nd rfl (.inl rfl) (pe_c cUD hr (by decide) rfl (pa_cons (pv 2) (pa_cons (pv 8) pa_nil)))) (pss_cons (ps_if (pt_cmpR op_ne (pe_callB (call_reprQ free (by have := hr.un; show (A.deeper _).units + 150 < _; omega) sys) (by rfl) m_repr (by decide +kernel) (pa_cons (pe_c cCU hr (by decide) rfl (pa_cons (pe_c cLi hr (by decide) rfl (pa_cons (pv 1) (pa_cons (pv 2) pa_nil))) (pa_cons (pv 8) pa_nil))) pa_nil)) (pe_callB (call_reprQ free (by have := hr.un; show (A.deeper _).units + 150 < _; omega) sys) (by rfl) m_repr (by decide +kernel) (pa_cons (pv 11) pa_nil)) (nomark _)) (pss_one (ps_ret pe_bl)) pss_nil) (pss_one (ps_if (pt_val (pe_callB call_isi (by rfl) m_isinstance (by decide +kernel) (pa_cons (pv 11) (pa_cons (pe_bltn (v := .ty "tuple") (by rfl) m_tuple (by decide +kernel) rfl) pa_nil)))) (pss_cons (ps_if (pt_cmpR op_ne (pe_callB (call_reprQ free (by have := hr.un; show (A.deeper _).units + 150 < _; omega) sys) (by rfl) m_repr (by decide +kernel) (pa_cons (pe_c cUV hr (by decide) rfl (pa_cons (pv 11) pa_nil)) pa_nil)) (pe_callB (call_reprQ free (by have := hr.un; show (A.deeper _).units + 150 < _; omega) sys) (by rfl) m_repr (by decide +kernel) (pa_cons (pe_callTy call_tuple_of (by rfl) m_tuple (by decide +kernel) (pa_cons (pe_c cLV hr (by decide) rfl (pa_cons (pv 11) pa_nil)) pa_nil)) pa_nil)) (nomark _)) (pss_one (ps_ret pe_bl)) pss_nil) (pss_one (ps_if (pt_cmpR op_ne (pe_callB (call_reprQ free (by have := hr.un; show (A.deeper _).units + 150 < _; omega) sys) (by rfl) m_repr (by decide +kernel) (pa_cons (pe_c cHL hr (by decide) rfl (pa_cons (pv 11) pa_nil)) pa_nil)) (pe_callB (call_reprQ free (by have := hr.un; show (A.deeper _).units + 150 < _; omega) sys) (by rfl) m_repr (by decide +kernel) (pa_cons (pe_ifExp (pt_truth (pv 11) (by intro _; rfl)) (pe_callB call_len_seq (by rfl) m_len PySem.boot_len (pa_cons (pe_ix ix_seq (pe_ix ix_seq (pv 11) pe_int (fun _ _ => rfl)) pe_int (fun _ _ => rfl)) pa_nil)) pe_non) pa_nil)) (nomark _)) (pss_one (ps_ret pe_bl)) pss_nil))) pss_nil))))))
      (pss_cons (ps_if (pt_cmpR op_ne (pe_callB (call_reprQ free (by have := hr.un; show (A.deeper _).units + 150 < _; omega) sys) (by rfl) m_repr (by decide +kernel) (pa_cons (pe_c cCU hr (by decide) rfl (pa_cons (pe_op op_cat (pv 2) (pe_lst (pa_cons pe_int pa_nil))) (pa_cons pe_int pa_nil))) pa_nil)) (pe_callB (call_reprQ free (by have := hr.un; show (A.deeper _).units + 150 < _; omega) sys) (by rfl) m_repr (by decide +kernel) (pa_cons (pe_lst (pa_cons (pe_ifExp (pt_cmpR op_lt (pe_callB call_len_seq (by rfl) m_len PySem.boot_len (pa_cons (pv 2) pa_nil)) pe_int (nomark _)) (pe_callB call_len_seq (by rfl) m_len PySem.boot_len (pa_cons (pv 2) pa_nil)) pe_int) pa_nil)) pa_nil)) (nomark _)) (pss_one (ps_ret pe_bl)) pss_nil)
      (pss_cons (ps_for PassesOwn.never rfl (pi_seq (pe_lst (pa_cons pe_str (pa_cons pe_str (pa_cons pe_str (pa_cons pe_str (pa_cons pe_str (pa_cons pe_str (pa_cons (pe_c cAV hr (by decide) rfl (pa_cons (pv 1) pa_nil)) (pa_cons (pe_c cNV hr (by decide) rfl (pa_cons (pv 1) pa_nil)) (pa_cons (pe_ix ix_str pe_str (pe_c cT hr (by decide) rfl (pa_cons (pv 1) (pa_cons pe_int pa_nil))) (fun _ _ => rfl)) (pa_cons (pe_lst (pa_cons pe_str pa_nil)) (pa_cons pe_non pa_nil))))))))))))) (pg_name (i := 8) sc_law.nd rfl (.inl rfl)) (pss_cons (ps_set (i := 12) sc_law.nd rfl (.inl rfl) (pe_c cLN hr (by decide) rfl (pa_cons (pv 8) pa_nil))) (pss_one (ps_if (PW.pt (pw_or (pt_not (pt_val (pe_c cTr hr (by decide) rfl (pa_cons (pe_c cIN hr (by decide) rfl (pa_cons (pv 8) pa_nil)) (pa_cons (pv 12) pa_nil))))) (pw_or1 (pt_not (pt_val (pe_c cTr hr (by decide) rfl (pa_cons (pe_c cIT hr (by decide) rfl (pa_cons (pv 8) pa_nil)) (pa_cons (pe_or (pv 12) (pe_one (pe_c cIV hr (by decide) rfl (pa_cons (pv 8) pa_nil)))) pa_nil)))))))) (pss_one (ps_ret pe_bl)) pss_nil))))
      (pss_one (ps_ret pe_bl)))))))))))), ?_⟩
    refine ⟨_, rfl, s, ns, rfl, hs, h63, fun a c H1 s1 na nc h1 => ?_⟩
    have few : ∀ {n : Nat}, n ≤ 1000 → n ≤ sizeLine := fun h => Nat.le_of_lt (small1000 h)
    try dsimp only [gName, tSeq, tAsg, tNext]
    refine ⟨_, rfl, a, c, H, rfl, h1, s1, na, fun W ws H2 G2 h2 x2 gW w1 w6 w3 => ?_⟩
    have wok := w_ok w1 w6 w3
    have wne : ws ≠ [] := fun z => by rw [z] at w1; simp at w1
    have lW : (ws.map V.int).length = ws.length := List.length_map ..
    try dsimp only [gName, tSeq, tAsg, tNext]
    refine tk h2 x2 rfl (fun R h => h) (by omega) (by omega) fun n H3 n0 n1 h3 x3 sx3 => ?_
    obtain ⟨n, rfl⟩ : ∃ m : Nat, n = (m : Int) := ⟨n.toNat, (Int.toNat_of_nonneg n0).symm⟩
    refine ⟨Nat.zero_le _, fun U nU => ?_⟩
    obtain ⟨Ua, Uc⟩ := hand_apart h3 nU
    have gU2 := x3.gone nU
    have nUH := x3.was nU Ua
    have h4 := hand_keep (o := HO.lst []) h3 nU
    have x4 := x3.mk0 (o := HO.lst []) nU
    have hU4 : (upd H3 U (.lst [])) U = some (.lst []) := upd_same
    generalize upd H3 U (.lst []) = H4 at h4 x4 hU4 ⊢
    try dsimp only [gName, tSeq, tAsg, tNext]
    refine ⟨few (by show 6 ≤ 1000; omega), fun p np => ?_⟩
    have pa := (hand_apart h4 np).1
    have h5 := hand_keep (o := HO.tup [V.int 0, V.int 1, V.int 2, V.int 3, V.int 6, V.int 7]) h4 np
    have x5 := x4.mk0 (o := HO.tup [V.int 0, V.int 1, V.int 2, V.int 3, V.int 6, V.int 7]) np
    have hU5 := same_upd (o := HO.tup [V.int 0, V.int 1, V.int 2, V.int 3, V.int 6, V.int 7]) np _ _ hU4
    have hp5 : (upd H4 p (.tup [V.int 0, V.int 1, V.int 2, V.int 3, V.int 6, V.int 7])) p = some (.tup [V.int 0, V.int 1, V.int 2, V.int 3, V.int 6, V.int 7]) := upd_same
    generalize upd H4 p (.tup [V.int 0, V.int 1, V.int 2, V.int 3, V.int 6, V.int 7]) = H5 at h5 x5 hU5 hp5 ⊢
    refine tk h5 x5 rfl (fun R h => h) (by omega) (by omega) fun v H6 v0 v1 h6 x6 sx6 => ?_
    have hU6 := sx6 _ _ Ua hU5
    have hp6 := sx6 _ _ pa hp5
    obtain ⟨nv, rfl⟩ : ∃ m : Nat, v = (m : Int) := ⟨v.toNat, (Int.toNat_of_nonneg v0).symm⟩
    obtain ⟨m, em, m7⟩ : ∃ m : Nat, [V.int 0, V.int 1, V.int 2, V.int 3, V.int 6, V.int 7][nv]? = some (V.int (m : Nat)) ∧ m ≤ 7 := by
      have n6 : nv = 0 ∨ nv = 1 ∨ nv = 2 ∨ nv = 3 ∨ nv = 4 ∨ nv = 5 := by omega
      rcases n6 with rfl | rfl | rfl | rfl | rfl | rfl
      · exact ⟨0, rfl, by omega⟩
      · exact ⟨1, rfl, by omega⟩
      · exact ⟨2, rfl, by omega⟩
      · exact ⟨3, rfl, by omega⟩
      · exact ⟨6, rfl, by omega⟩
      · exact ⟨7, rfl, by omega⟩
    refine ⟨p, _, _, _, rfl, rfl, SqT.of hp6, atI_nat em, (m : Int), rfl, by omega, by omega, ?_⟩
    rw [Int.toNat_natCast]
    refine for_range (lo := 0) (n := m) (fun i σ H' => ∃ v5 v6 v7 v8 v9 v10 v11 v12 v13, σ = [some (.ref s), some (.ref a), some (.ref W), some (.int (n : Nat)), some (.ref U), v5, v6, v7, v8, v9, v10, v11, v12, v13] ∧ ∃ G' us ds, Hand MO H' a c ∧ Ext a H1 H H' G' ∧ Same G2 G' ∧ H' U = some (.lst us) ∧ G' U = none ∧ DqAll G' us ds ∧ ds.length = i ∧ ∀ d ∈ ds, ∃ S, Vals2 S ∧ QD S ws d) ?_ ?_ ?_
    · exact ⟨_, _, _, _, _, _, _, _, _, rfl, G2, [], [], h6, x6, Same.refl _, hU6, gU2, .nil, rfl, fun d m => nomatch m⟩
    · rintro i σ H5 li ⟨v5, v6, v7, v8, v9, v10, v11, v12, v13, rfl, G5, us, ds, h5, x5, up5, hU5, gU, all, len, okd⟩
      have gW5 := up5 _ _ gW
      try dsimp only [gName, tSeq, tAsg, tNext]
      refine tk h5 x5 rfl (fun R h => h) (by omega) (by omega) fun z H6 z0 z1 h6 x6 sx6 => ?_
      have hU6 := sx6 _ _ Ua hU5
      refine ⟨rfl, _, rfl, ite2 (fun e => ?_) (fun e => ?_)⟩
      · refine tk h6 x6 rfl (fun R h => h) (by omega) (by omega) fun o H6 o0 o1 h6 x6 sx6 => ?_
        have hU6 := sx6 _ _ Ua hU6
        obtain ⟨o, rfl⟩ : ∃ m : Nat, o = (m : Int) := ⟨o.toNat, (Int.toNat_of_nonneg o0).symm⟩
        have o3 : o ≤ 3 := by omega
        · refine ⟨_, rfl, .inl ⟨rfl, _, SqL.of hU6⟩, _, rfl, _, rfl, _, rfl, a, c, W, G5, ws, o, rfl, h6, x6.sub, x6.off, gW5, wne, w6, w3, o3, fun y yd H7 G7 h7 x7 hy hyd => ?_⟩
          obtain ⟨hU7, gU7⟩ := x7.stays hU6 gU Ua
          refine ⟨U, _, _, rfl, rfl, hU7, small1000 (by rw [all.len, len]; omega), _, _, _, _, _, _, _, _, _, rfl, G7, us ++ [y], ds ++ [yd], hand_upd h7 Ua Uc, (x6.trans x7).put nUH gU7 Ua, up5.trans x7.up, upd_same, gU7, (all.keep x7.up).snoc hy, by rw [List.length_append, len]; rfl, fun e m => ?_⟩
          rcases List.mem_append.mp m with m | m
          · exact okd e m
          · rw [List.mem_singleton.mp m]; exact hyd
      · refine ⟨_, rfl, ?_⟩
        have o3 : n ≤ 3 := by omega
        · refine ⟨_, rfl, .inl ⟨rfl, _, SqL.of hU6⟩, _, rfl, _, rfl, _, rfl, a, c, W, G5, ws, n, rfl, h6, x6.sub, x6.off, gW5, wne, w6, w3, o3, fun y yd H7 G7 h7 x7 hy hyd => ?_⟩
          obtain ⟨hU7, gU7⟩ := x7.stays hU6 gU Ua
          refine ⟨U, _, _, rfl, rfl, hU7, small1000 (by rw [all.len, len]; omega), _, _, _, _, _, _, _, _, _, rfl, G7, us ++ [y], ds ++ [yd], hand_upd h7 Ua Uc, (x6.trans x7).put nUH gU7 Ua, up5.trans x7.up, upd_same, gU7, (all.keep x7.up).snoc hy, by rw [List.length_append, len]; rfl, fun e m => ?_⟩
          rcases List.mem_append.mp m with m | m
          · exact okd e m
          · rw [List.mem_singleton.mp m]; exact hyd
    · rintro σ H5 ⟨v5, v6, v7, v8, v9, v10, v11, v12, v13, rfl, G5, us, ds, h5, x5, up5, hU5, gU, all, len, okd⟩
      have lu := all.len
      -- bad = list(union)
      try dsimp only [gName, tSeq, tAsg, tNext]
      refine ⟨_, rfl, U, us, rfl, .inl (SqL.of hU5), fun Bd nBd => ?_⟩
      obtain ⟨Ba, Bc⟩ := hand_apart h5 nBd
      have gB5 := x5.gone nBd
      have nBH := x5.was nBd Ba
      have h6 := hand_keep (o := HO.lst us) h5 nBd
      have x6 := x5.mk0 (o := HO.lst us) nBd
      have hU6 := same_upd (o := HO.lst us) nBd _ _ hU5
      have hB6 : (upd H5 Bd (.lst us)) Bd = some (.lst us) := upd_same
      have UB : U ≠ Bd := fun z => by rw [← z, hU5] at nBd; cases nBd
      generalize upd H5 Bd (.lst us) = H6 at h6 x6 hU6 hB6 ⊢
      have x7 := x6.ice nUH hU6 gU Ua
      have f7 := same_upd (o := HO.lst us) gU
      have gU7 : (upd G5 U (.lst us)) U = some (.lst us) := upd_same
      have gB7 : (upd G5 U (.lst us)) Bd = none := by
        rw [upd_ne (Ne.symm UB)]
        exact gB5
      have all := all.keep f7
      have up7 := up5.trans f7
      generalize upd G5 U (.lst us) = G7 at x7 gU7 gB7 all up7
      have spd : ∀ d ∈ ds, SpQ d := fun d m => by
        obtain ⟨S, v2, q⟩ := okd d m
        exact qd_sp v2 w6 w3 q
      try dsimp only [gName, tSeq, tAsg, tNext]
      refine .inl ?_
      refine ⟨_, rfl, _, rfl, _, rfl, a, c, W, G7, ws, n, rfl, h6, x7.sub, x7.off, up7 _ _ gW, wne, w6, w3, by omega, fun q0 d0 H8 G8 h8 x8 hq0 hd0 => ?_⟩
      obtain ⟨hB8, gB8⟩ := x8.stays hB6 gB7 Ba
      have xx := x7.trans x8
      have gU8 := x8.up _ _ gU7
      have all := all.keep x8.up
      have up8 := up7.trans x8.up
      refine ⟨few (by show 1 ≤ 1000; omega), fun l1 nl1 => ?_⟩
      have h9 := hand_keep (o := HO.lst [q0]) h8 nl1
      have x9 := xx.mk0 (o := HO.lst [q0]) nl1
      have hB9 := same_upd (o := HO.lst [q0]) nl1 _ _ hB8
      have ql1 : (upd H8 l1 (.lst [q0])) l1 = some (.lst [q0]) := upd_same
      generalize upd H8 l1 (.lst [q0]) = H9 at h9 x9 hB9 ql1 ⊢
      have cuts := cutV_length us none (some 3)
      refine ⟨_, rfl, 3, rfl, U, us, rfl, SqL.of (x9.sub _ _ gU8), fun l2 nl2 => ?_⟩
      have hA := hand_keep (o := HO.lst (cutV us none (some 3))) h9 nl2
      have xA := x9.mk0 (o := HO.lst (cutV us none (some 3))) nl2
      have hBA := same_upd (o := HO.lst (cutV us none (some 3))) nl2 _ _ hB9
      have ql1 := same_upd (o := HO.lst (cutV us none (some 3))) nl2 _ _ ql1
      have ql2 : (upd H9 l2 (.lst (cutV us none (some 3)))) l2 = some (.lst (cutV us none (some 3))) := upd_same
      generalize upd H9 l2 (.lst (cutV us none (some 3))) = HA at hA xA hBA ql1 ql2 ⊢
      refine ⟨l1, l2, _, _, rfl, rfl, ql1, ql2, Nat.le_of_lt (small1000 (by show 1 + (cutV us none (some 3)).length ≤ 1000; omega)), fun Lq nLq => ?_⟩
      have fL := same_upd (o := HO.lst ([q0] ++ cutV us none (some 3))) (xA.gone nLq)
      have hC := hand_keep (o := HO.lst ([q0] ++ cutV us none (some 3))) hA nLq
      have xC := xA.mk_ (o := HO.lst ([q0] ++ cutV us none (some 3))) nLq
      have hBC := same_upd (o := HO.lst ([q0] ++ cutV us none (some 3))) nLq _ _ hBA
      have gBC : (upd G8 Lq (.lst ([q0] ++ cutV us none (some 3)))) Bd = none := by
        rw [upd_ne (ne_of_none hBA nLq)]
        exact gB8
      have gLq : (upd G8 Lq (.lst ([q0] ++ cutV us none (some 3)))) Lq = some (.lst ([q0] ++ cutV us none (some 3))) := upd_same
      have dcut : DqAll G8 (cutV us none (some 3)) ((ds.drop (HT.sIx us.length 0 none)).take (HT.sIx us.length us.length (some 3) - HT.sIx us.length 0 none)) := (all.drop _).take _
      have allL : DqAll G8 ([q0] ++ cutV us none (some 3)) ([d0] ++ (ds.drop (HT.sIx us.length 0 none)).take (HT.sIx us.length us.length (some 3) - HT.sIx us.length 0 none)) := (DqAll.cons hq0 .nil).app dcut
      have allL := allL.keep fL
      have okL : ∀ d ∈ [d0] ++ (ds.drop (HT.sIx us.length 0 none)).take (HT.sIx us.length us.length (some 3) - HT.sIx us.length 0 none), ∃ S, Vals2 S ∧ QD S ws d := fun d m => by
        rcases List.mem_append.mp m with m | m
        · rw [List.mem_singleton.mp m]; exact hd0
        · exact okd d (List.mem_of_mem_drop (List.mem_of_mem_take m))
      generalize [d0] ++ (ds.drop (HT.sIx us.length 0 none)).take (HT.sIx us.length us.length (some 3) - HT.sIx us.length 0 none) = dl at allL okL
      generalize [q0] ++ cutV us none (some 3) = xl at hC xC hBC gBC gLq allL fL ⊢
      have all := all.keep fL
      have gUC := fL _ _ gU8
      have upC := up8.trans fL
      generalize upd HA Lq (.lst xl) = HC at hC xC hBC ⊢
      generalize upd G8 Lq (.lst xl) = GC at xC gBC gLq allL fL all gUC upC
      refine ⟨Lq, rfl, ⟨_, SqL.of (xC.sub _ _ gLq)⟩, for_it (walk_list (K := K) (a := Lq) (xs := xl)) (fun i σ H' => ∃ v5 v7 v8 v9 v10 v11 v12 v13, σ = [some (.ref s), some (.ref a), some (.ref W), some (.int (n : Nat)), some (.ref U), v5, some (.ref Bd), v7, v8, v9, v10, v11, v12, v13] ∧ ∃ G' bs bds, Hand MO H' a c ∧ Ext a H1 H H' G' ∧ Same GC G' ∧ H' Bd = some (.lst bs) ∧ G' Bd = none ∧ DqAll G' bs bds ∧ bds.length = ds.length ∧ ∀ d ∈ bds, SpQ d) ?_ ?_ ?_ ?_⟩
      · exact ⟨_, _, _, _, _, _, _, _, rfl, GC, us, ds, hC, xC, Same.refl _, hBC, gBC, all, rfl, spd⟩
      · rintro i σ H' hi ⟨v5, v7, v8, v9, v10, v11, v12, v13, rfl, G', bs, bds, hh, x', up', _⟩
        exact SqL.of (x'.sub _ _ (up' _ _ gLq))
      · rintro i x σ H' H2' hi ⟨v5, v7, v8, v9, v10, v11, v12, v13, rfl, GD, bs, bds, hD, xD, upD, hBD, gBD, allB, lenB, okB⟩ y
        obtain ⟨rfl, ex⟩ := y
        obtain ⟨qd, eqd, hqx⟩ := allL.get ex
        have hqx := hqx.keep upD
        obtain ⟨S, v2, hQD⟩ := okL qd (List.mem_of_getElem? eqd)
        have spx : SpQ qd := qd_sp v2 w6 w3 hQD
        try dsimp only [gName, tSeq, tAsg, tNext]
        refine ⟨_, rfl, _, rfl, _, rfl, a, c, W, x, GD, ws, S, qd, rfl, hD, xD.sub, xD.off, upD _ _ (upC _ _ gW), w6, w3, hqx, hQD, v2.2, fun e ed HE GE hE xE he r => ?_⟩
        obtain ⟨X, lX, sm⟩ := r
        have spe : SpQ ed := ⟨S ++ X, by rw [List.length_append, v2.1]; omega, sm⟩
        obtain ⟨hBE, gBE⟩ := xE.stays hBD gBD Ba
        have xx := xD.trans xE
        have hqx := hqx.keep xE.up
        try dsimp only [gName, tSeq, tAsg, tNext]
        refine .inl ?_
        refine ⟨_, rfl, _, rfl, few (by show 2 ≤ 1000; omega), fun T nT => ?_⟩
        have fT := same_upd (o := HO.lst [x, e]) (xx.gone nT)
        have hF := hand_keep (o := HO.lst [x, e]) hE nT
        have xF := xx.mk_ (o := HO.lst [x, e]) nT
        have hBF := same_upd (o := HO.lst [x, e]) nT _ _ hBE
        have gBF : (upd GE T (.lst [x, e])) Bd = none := by
          rw [upd_ne (ne_of_none hBE nT)]
          exact gBE
        have gT : (upd GE T (.lst [x, e])) T = some (.lst [x, e]) := upd_same
        have allT : DqAll GE [x, e] [qd, ed] := .cons hqx (.cons he .nil)
        have allT := allT.keep fT
        have upF := (upD.trans xE.up).trans fT
        have allB := (allB.keep xE.up).keep fT
        have he := he.keep fT
        generalize upd HE T (.lst [x, e]) = HF at hF xF hBF ⊢
        generalize upd GE T (.lst [x, e]) = GF at xF gBF gT allT upF allB he
        refine ⟨T, rfl, ⟨_, SqL.of (xF.sub _ _ gT)⟩, for_it (walk_list (K := K) (a := T) (xs := [x, e])) (fun i σ H' => ∃ v5 v8 v9 v11 v12 v13, σ = [some (.ref s), some (.ref a), some (.ref W), some (.int (n : Nat)), some (.ref U), v5, some (.ref Bd), some x, v8, v9, some e, v11, v12, v13] ∧ ∃ G', Hand MO H' a c ∧ Ext a H1 H H' G' ∧ Same GF G' ∧ H' Bd = some (.lst bs) ∧ G' Bd = none) ?_ ?_ ?_ ?_⟩
        · exact ⟨_, _, _, _, _, _, rfl, GF, hF, xF, Same.refl _, hBF, gBF⟩
        · rintro j σ H' hj ⟨v5, v8, v9, v11, v12, v13, rfl, G', hh, x', up', _⟩
          exact SqL.of (x'.sub _ _ (up' _ _ gT))
        · rintro j t σ H' H2' hj ⟨v5, v8, v9, v11, v12, v13, rfl, GG, hG, xG, upG, hBG, gBG⟩ y
          obtain ⟨rfl, et⟩ := y
          obtain ⟨td, etd, ht⟩ := allT.get et
          have ht := ht.keep upG
          have spt : SpQ td := by
            have m := List.mem_of_getElem? etd
            simp only [List.mem_cons, List.not_mem_nil, or_false] at m
            rcases m with rfl | rfl
            · exact spx
            · exact spe
          have sht := spq_sh spt
          have d8 : dep td ≤ 8 := by
            obtain ⟨X, _, sm⟩ := spt
            exact sm.dp
          try dsimp only [gName, tSeq, tAsg, tNext]
          refine ⟨_, rfl, _, rfl, a, c, t, GG, td, rfl, hG, xG.sub, xG.off, ht, sht.few, sht.dp, fun y yd HI GI hI xI hy eqd => ?_⟩
          obtain ⟨hBI, gBI⟩ := xI.stays hBG gBG Ba
          have xx := xG.trans xI
          have shy := sht.deep eqd
          have d8y : dep yd ≤ 8 := by rw [← deep_dep, eqd, deep_dep]; exact d8
          have gWI := xI.up _ _ (upG _ _ (upF _ _ (upC _ _ gW)))
          have hyI := hy.keep xx.sub
          try dsimp only [gName, tSeq, tAsg, tNext]
          refine ⟨_, rfl, ?_⟩
          try dsimp only [tNil, tCons, tCB]
          refine rd_repr shy hyI ?_
          try dsimp only [gName, tSeq, tAsg, tNext]
          refine ⟨_, rfl, _, rfl, .ref W, y, ws, yd, rfl, ⟨W, rfl, .inl (xx.sub _ _ gWI)⟩, wok, hyI, shy.few, d8y, fun dv HJ sJ hdv => ?_⟩
          rw [due_good wok] at hdv
          have shd := sh_res wok shy
          have apd : Apart2 (resQ ws yd) := res_apart wok
          have hJ := hI.same sJ
          have xJ := xx.pure sJ
          have hBJ := sJ _ _ hBI
          try dsimp only [gName, tSeq, tAsg, tNext]
          refine ⟨_, rfl, _, rfl, a, c, W, GI, ws, rfl, hJ, xJ.sub, xJ.off, gWI, fun lv HK GK hK xK hlv => ?_⟩
          obtain ⟨hBK, gBK⟩ := xK.stays hBJ gBI Ba
          have dvK := dq_draw hJ xK.old apd hdv
          have xxK := xJ.trans xK
          have hyK := (hy.keep xK.up).keep xK.sub
          refine ⟨_, rfl, lv, y, ws, yd, rfl, hlv.keep xK.sub, by omega, hyK, shy.few, fun rv HL sL hrv => ?_⟩
          try dsimp only [tNil, tCons, tCB]
          refine rd_repr shd hrv ?_
          refine ⟨_, rfl, ?_⟩
          try dsimp only [tNil, tCons, tCB]
          refine rd_repr shd (dvK.keep sL) ?_
          refine ⟨rfl, _, rfl, iteNS rfl ?_⟩
          refine ⟨_, rfl, ?_⟩
          try dsimp only [tNil, tCons, tCB]
          refine rd_repr shy (hyK.keep sL) ?_
          refine ⟨_, rfl, rfl, _, rfl, iteNS rfl ?_⟩
          have dvL := dvK.keep sL
          have nxt : ∀ HM : Hp, Same HL HM → ∃ G', Hand MO HM a c ∧ Ext a H1 H HM G' ∧ Same GF G' ∧ HM Bd = some (.lst bs) ∧ G' Bd = none := fun HM sM =>
            ⟨GK, (hK.same sL).same sM, (xxK.pure sL).pure sM, (upG.trans xI.up).trans xK.up, sM _ _ (sL _ _ hBK), gBK⟩
          refine ⟨_, rfl, dv, .ty "tuple", _, _, _, rfl, .ty _, .base dvL.ty, kit_dTuple _, _, rfl, ?_⟩
          cases eq : qErr ws yd with
          | some u =>
            obtain ⟨w', i'⟩ := u
            have er : resQ ws yd = .list [.str w', .int i'] := by unfold resQ; rw [wok, eq]
            rw [er]
            exact iteF ⟨_, _, _, _, _, _, rfl, nxt HL (Same.refl _)⟩
          | none =>
            have er : resQ ws yd = qGood yd := by unfold resQ; rw [wok, eq]
            rw [er] at dvL ⊢
            refine iteT ?_
            obtain ⟨p', ep, hq, okq, n43, kind⟩ := good_at (K := K) eq wok dvL
            subst ep
            refine ⟨_, rfl, p', qnOf yd, rfl, hq, okq, n43, kind, fun HM sM => ⟨_, rfl, iteF ⟨_, _, _, _, _, _, rfl, nxt HM sM⟩⟩⟩
        · rintro σ H' ⟨v5, v8, v9, v11, v12, v13, rfl, GG, hG, xG, upG, hBG, gBG⟩
          have allBG := allB.keep upG
          have heG := he.keep upG
          have upCG := (upF.trans upG)
          refine ⟨_, rfl, !bs.isEmpty, .inl ⟨_, SqL.of hBG, rfl⟩, ?_⟩
          cases hb : (!bs.isEmpty) with
          | false =>
            exact iteF ⟨_, _, _, _, _, _, _, _, rfl, GG, bs, bds, hG, xG, upCG, hBG, gBG, allBG, lenB, okB⟩
          | true =>
            have l0 : 0 < bs.length := by
              cases bs with
              | nil => cases hb
              | cons _ _ => exact Nat.succ_pos _
            have lb := allB.len
            refine iteT ⟨_, rfl, _, rfl, ?_⟩
            refine tk hG xG rfl (fun R h => ⟨_, rfl, Bd, _, rfl, .inl (SqL.of hBG), h⟩) (by omega) (by omega) fun z HH z0 z1 hH xH sH => ?_
            obtain ⟨zn, rfl⟩ : ∃ m : Nat, z = (m : Int) := ⟨z.toNat, (Int.toNat_of_nonneg z0).symm⟩
            have hBH := sH _ _ Ba hBG
            refine ⟨Bd, bs, _, zn, rfl, rfl, hBH, ixNat (by omega), ?_⟩
            refine ⟨_, _, _, _, _, _, _, _, rfl, GG, bs.set zn e, bds.set zn ed, hand_upd hH Ba Bc, xH.put nBH gBG Ba, upCG, upd_same, gBG, allBG.set zn heG, by rw [List.length_set]; exact lenB, fun d m => ?_⟩
            rcases List.mem_or_eq_of_mem_set m with m | m
            · exact okB d m
            · rw [m]; exact spe
      · rintro σ H' ⟨v5, v7, v8, v9, v10, v11, v12, v13, rfl, GD, bs, bds, hD, xD, upD, hBD, gBD, allB, lenB, okB⟩
        have xI := xD.ice nBH hBD gBD Ba
        have fI := same_upd (o := HO.lst bs) gBD
        have gBI : (upd GD Bd (.lst bs)) Bd = some (.lst bs) := upd_same
        have allB := allB.keep fI
        have upI := upD.trans fI
        have allU := all.keep upI
        have gUI := upI _ _ gUC
        have gWI := upI _ _ (upC _ _ gW)
        generalize upd GD Bd (.lst bs) = GI at xI gBI allB upI allU gUI gWI
        have lb := allB.len
        have luu := allU.len
        have d7 : ds.length ≤ 7 := by omega
        try dsimp only [gName, tSeq, tAsg, tNext]
        refine .inl ?_
        refine ⟨_, rfl, _, rfl, _, rfl, _, rfl, U, Bd, us, bs, rfl, rfl, xI.sub _ _ gUI, hBD, Nat.le_of_lt (small1000 (by omega)), fun l3 nl3 => ?_⟩
        have f3 := same_upd (o := HO.lst (us ++ bs)) (xI.gone nl3)
        have hA := hand_keep (o := HO.lst (us ++ bs)) hD nl3
        have xA := xI.mk_ (o := HO.lst (us ++ bs)) nl3
        have e3 : Dq (upd GI l3 (.lst (us ++ bs))) (.ref l3) (.list (ds ++ bds)) := .lst upd_same ((allU.app allB).keep f3)
        have e1 : Dq (upd GI l3 (.lst (us ++ bs))) (.ref U) (.list ds) := .lst (f3 _ _ gUI) (allU.keep f3)
        have e2 : Dq (upd GI l3 (.lst (us ++ bs))) (.ref Bd) (.list bds) := .lst (f3 _ _ gBI) (allB.keep f3)
        have gWI := f3 _ _ gWI
        have gUI := f3 _ _ gUI
        have allU := allU.keep f3
        generalize upd H' l3 (.lst (us ++ bs)) = HA at hA xA ⊢
        generalize upd GI l3 (.lst (us ++ bs)) = GA at xA e3 e1 e2 gWI gUI allU
        refine ⟨few (Nat.zero_le _), fun l4 nl4 => ?_⟩
        have f4 := same_upd (o := HO.lst []) (xA.gone nl4)
        have hA := hand_keep (o := HO.lst []) hA nl4
        have xA := xA.mk_ (o := HO.lst []) nl4
        have e4 : Dq (upd GA l4 (.lst [])) (.ref l4) (.list []) := .lst upd_same .nil
        have e1 := e1.keep f4
        have e2 := e2.keep f4
        have e3 := e3.keep f4
        have gWI := f4 _ _ gWI
        have gUI := f4 _ _ gUI
        have allU := allU.keep f4
        generalize upd HA l4 (.lst []) = HA at hA xA ⊢
        generalize upd GA l4 (.lst []) = GA at xA e4 e3 e1 e2 gWI gUI allU
        refine ⟨_, rfl, a, c, GA, rfl, hA, xA.sub, xA.off, fun y5 d5 HB GB hB xB e5 r5 => ?_⟩
        have xA := xA.trans xB
        have e1 := e1.keep xB.up
        have e2 := e2.keep xB.up
        have e3 := e3.keep xB.up
        have e4 := e4.keep xB.up
        have gWI := xB.up _ _ gWI
        have gUI := xB.up _ _ gUI
        have allU := allU.keep xB.up
        refine ⟨_, rfl, 1, rfl, U, us, rfl, SqL.of (xA.sub _ _ gUI), fun l6 nl6 => ?_⟩
        have f6 := same_upd (o := HO.lst (cutV us none (some 1))) (xA.gone nl6)
        have hA := hand_keep (o := HO.lst (cutV us none (some 1))) hB nl6
        have xA := xA.mk_ (o := HO.lst (cutV us none (some 1))) nl6
        have e6 : Dq (upd GB l6 (.lst (cutV us none (some 1)))) (.ref l6) (.list ((ds.drop (HT.sIx us.length 0 none)).take (HT.sIx us.length us.length (some 1) - HT.sIx us.length 0 none))) := .lst upd_same (((allU.drop _).take _).keep f6)
        have e1 := e1.keep f6
        have e2 := e2.keep f6
        have e3 := e3.keep f6
        have e4 := e4.keep f6
        have e5 := e5.keep f6
        have gWI := f6 _ _ gWI
        generalize upd HB l6 (.lst (cutV us none (some 1))) = HA at hA xA ⊢
        generalize upd GB l6 (.lst (cutV us none (some 1))) = GA at xA e6 e5 e4 e3 e1 e2 gWI
        have u6 : UnOk (.list ((ds.drop (HT.sIx us.length 0 none)).take (HT.sIx us.length us.length (some 1) - HT.sIx us.length 0 none))) := unOk_list (fun d m => spd d (List.mem_of_mem_drop (List.mem_of_mem_take m))) (by rw [List.length_take, List.length_drop]; omega)
        generalize (ds.drop (HT.sIx us.length 0 none)).take (HT.sIx us.length us.length (some 1) - HT.sIx us.length 0 none) = d6 at e6 u6
        refine ⟨few (by show 6 ≤ 1000; omega), fun T nT => ?_⟩
        have fT := same_upd (o := HO.lst [.ref U, .ref Bd, .ref l3, .ref l4, y5, .ref l6]) (xA.gone nT)
        have hF := hand_keep (o := HO.lst [.ref U, .ref Bd, .ref l3, .ref l4, y5, .ref l6]) hA nT
        have xF := xA.mk_ (o := HO.lst [.ref U, .ref Bd, .ref l3, .ref l4, y5, .ref l6]) nT
        have gT : (upd GA T (.lst [.ref U, .ref Bd, .ref l3, .ref l4, y5, .ref l6])) T = some (.lst [.ref U, .ref Bd, .ref l3, .ref l4, y5, .ref l6]) := upd_same
        have allT : DqAll GA [.ref U, .ref Bd, .ref l3, .ref l4, y5, .ref l6] [.list ds, .list bds, .list (ds ++ bds), .list [], d5, .list d6] := .cons e1 (.cons e2 (.cons e3 (.cons e4 (.cons e5 (.cons e6 .nil)))))
        have allT := allT.keep fT
        have gWF := fT _ _ gWI
        have okT : ∀ d ∈ [PyData.list ds, .list bds, .list (ds ++ bds), .list [], d5, .list d6], UnOk d := fun d m => by
          simp only [List.mem_cons, List.not_mem_nil, or_false] at m
          rcases m with rfl | rfl | rfl | rfl | rfl | rfl
          · exact unOk_list spd (by omega)
          · exact unOk_list okB (by omega)
          · refine unOk_list (fun x mx => ?_) (by rw [List.length_append]; omega)
            rcases List.mem_append.mp mx with mx | mx
            · exact spd x mx
            · exact okB x mx
          · exact unOk_list (fun x mx => nomatch mx) (Nat.zero_le _)
          · exact unOk_rid r5
          · exact u6
        generalize [PyData.list ds, .list bds, .list (ds ++ bds), .list [], d5, .list d6] = dT at allT okT
        generalize [V.ref U, .ref Bd, .ref l3, .ref l4, y5, .ref l6] = xT at hF xF gT allT fT gWF ⊢
        generalize upd HA T (.lst xT) = HF at hF xF ⊢
        generalize upd GA T (.lst xT) = GF at xF gT allT fT gWF
        refine ⟨T, rfl, ⟨_, SqL.of (xF.sub _ _ gT)⟩, for_it (walk_list (K := K) (a := T) (xs := xT)) (fun i σ H' => ∃ v5 v7 v8 v9 v10 v11 v12 v13, σ = [some (.ref s), some (.ref a), some (.ref W), some (.int (n : Nat)), some (.ref U), v5, some (.ref Bd), v7, v8, v9, v10, v11, v12, v13] ∧ ∃ G', Hand MO H' a c ∧ Ext a H1 H H' G' ∧ Same GF G') ?_ ?_ ?_ ?_⟩
        · exact ⟨_, _, _, _, _, _, _, _, rfl, GF, hF, xF, Same.refl _⟩
        · rintro j σ H' hj ⟨v5, v7, v8, v9, v10, v11, v12, v13, rfl, G', hh, x', up'⟩
          exact SqL.of (x'.sub _ _ (up' _ _ gT))
        · rintro j t σ H' H2' hj ⟨v5, v7, v8, v9, v10, v11, v12, v13, rfl, GG, hG, xG, upG⟩ y
          obtain ⟨rfl, et⟩ := y
          obtain ⟨td, etd, ht⟩ := allT.get et
          have ht := ht.keep upG
          have unt := okT td (List.mem_of_getElem? etd)
          try dsimp only [gName, tSeq, tAsg, tNext]
          refine ⟨_, rfl, _, rfl, a, c, t, GG, td, rfl, hG, xG.sub, xG.off, ht, unt.1.few, unt.1.dp, fun y yd HI GI hI xI hy eqd => ?_⟩
          have xx := xG.trans xI
          have uny := unt.deep eqd
          have shy := uny.1
          have gWI := xI.up _ _ (upG _ _ gWF)
          have hyI := hy.keep xx.sub
          try dsimp only [gName, tSeq, tAsg, tNext]
          refine ⟨_, rfl, _, rfl, .ref W, y, ws, yd, rfl, ⟨W, rfl, .inl (xx.sub _ _ gWI)⟩, wok, hyI, shy.few, shy.dp, fun dv HJ sJ hdv => ?_⟩
          have shd := sh_resU wok shy
          have apd : Apart2 (resU ws yd) := resU_apart wok
          have hJ := hI.same sJ
          have xJ := xx.pure sJ
          try dsimp only [gName, tSeq, tAsg, tNext]
          refine ⟨_, rfl, _, rfl, a, c, W, GI, ws, rfl, hJ, xJ.sub, xJ.off, gWI, fun lv HK GK hK xK hlv => ?_⟩
          have dvK := dq_draw hJ xK.old apd hdv
          have xxK := xJ.trans xK
          have hyK := (hy.keep xK.up).keep xK.sub
          refine ⟨_, rfl, lv, y, ws, yd, rfl, hlv.keep xK.sub, by omega, hyK, shy.few, fun rv HL sL hrv => ?_⟩
          try dsimp only [tNil, tCons, tCB]
          refine rd_repr shd hrv ?_
          refine ⟨_, rfl, ?_⟩
          try dsimp only [tNil, tCons, tCB]
          refine rd_repr shd (dvK.keep sL) ?_
          refine ⟨rfl, _, rfl, iteNS rfl ?_⟩
          have dvL := dvK.keep sL
          have nxt : ∀ HM : Hp, Same HL HM → ∃ G', Hand MO HM a c ∧ Ext a H1 H HM G' ∧ Same GF G' := fun HM sM =>
            ⟨GK, (hK.same sL).same sM, (xxK.pure sL).pure sM, (upG.trans xI.up).trans xK.up⟩
          refine ⟨_, rfl, dv, .ty "tuple", _, _, _, rfl, .ty _, .base dvL.ty, kit_dTuple _, _, rfl, ?_⟩
          have eR : resU ws yd = outU (uRes ws yd) := by unfold resU; rw [wok]
          rw [eR] at dvL ⊢
          cases eu : uRes ws yd with
          | bq w' i' =>
            exact iteF ⟨_, _, _, _, _, _, _, _, rfl, nxt HL (Same.refl _)⟩
          | bu w' i' =>
            exact iteF ⟨_, _, _, _, _, _, _, _, rfl, nxt HL (Same.refl _)⟩
          | ok r =>
            rw [eu] at dvL
            obtain ⟨es, ees, n6, good, rfl, _⟩ := u_ok eu
            refine iteT ?_
            have spe : ∀ d ∈ es, SpQ d := uny.2 es ees
            have dvL : Dq HL dv (.tuple (es.map qGood)) := dvL
            cases dvL with
            | @tup pu vs _ hpu hvs =>
            have lv' := hvs.len
            rw [List.length_map] at lv'
            have refs := good_refs (K := K) wok good hvs
            obtain ⟨l258, q1000, kind⟩ := good_flat wok good hvs
            have few64 := few64_union spe good n6
            refine ⟨_, rfl, pu, vs, es.map qnOf, rfl, SqT.of hpu, refs, q1000, few64, kind, fun ks r1 HM own sM hr1 => ?_⟩
            have rng : ∀ k ∈ ks, 0 ≤ k ∧ k ≤ 1000000000 := fun k m => by
              rcases kind _ ((own.2 k).mp m) with ⟨c', e, c0, c1⟩ | z
              · have e := V.int.inj e
                omega
              · cases z
            have shk := sh_ints (values_len own few64) rng
            try dsimp only [tNil, tCons, tCB]
            refine rd_repr shk (.tup hr1 dqAll_ints) ?_
            refine ⟨_, rfl, pu, vs, es.map qnOf, rfl, SqT.of (sM _ _ hpu), (paired_imp (fun _ _ z => z.keep sM) refs), q1000, by omega, few64, kind, fun ks2 r2 HN own2 sN hr2 => ?_⟩
            have ek := values_one own2 own
            subst ek
            refine ⟨r2, _, rfl, .inl ⟨SqL.of hr2, fun t2 nt2 => ?_⟩⟩
            have st2 := same_upd (o := HO.tup (ks2.map V.int)) nt2
            try dsimp only [tNil, tCons, tCB]
            refine rd_repr shk (.tup upd_same dqAll_ints) ?_
            refine ⟨rfl, _, rfl, iteNS rfl ?_⟩
            have sO := (sM.trans sN).trans st2
            generalize upd HN t2 (.tup (ks2.map V.int)) = HO' at sO ⊢
            have hpO := sO _ _ hpu
            have hvO := hvs.keep sO
            have shr : Sh (.tuple (es.map qGood)) := by
              rw [eR, eu] at shd
              exact shd
            have forms : ∀ q ∈ es.map qGood, ∃ h b u, q = .tuple [.tuple h, b, u] := fun q m => by
              obtain ⟨t', _, rfl⟩ := List.mem_map.mp m
              exact qGood_form t'
            refine ⟨_, rfl, .ref pu, es.map qGood, rfl, .tup hpO hvO, forms, ?_⟩
            have sh0 : Sh .none := ⟨by decide +kernel, by decide +kernel, by decide +kernel, by decide +kernel⟩
            cases hes : es.map qGood with
            | nil =>
              rw [hes] at hvO
              cases hvO
              try dsimp only [tNil, tCons, tCB]
              refine rd_repr sh0 .non ?_
              refine ⟨_, rfl, false, .inr (.inl ⟨[], SqT.of hpO, rfl⟩), iteF ?_⟩
              try dsimp only [tNil, tCons, tCB, tC]
              refine rd_repr sh0 .non ?_
              exact ⟨rfl, _, rfl, iteNS rfl ⟨_, _, _, _, _, _, _, _, rfl, nxt _ sO⟩⟩
            | cons q qr =>
              rw [hes] at hvO shr forms
              obtain ⟨h', b', c', eform⟩ := forms q (List.mem_cons_self ..)
              have l1000 : h'.length ≤ 1000 := by
                have fq := (few_items shr.few).2 q (by show q ∈ q :: qr; exact List.mem_cons_self ..)
                have f0 := (few_items (few_item fq 0)).1
                rw [eform] at f0
                exact f0
              subst eform
              cases hvO with
              | @cons v0 vr _ _ g0 gr =>
              cases g0 with
              | @tup p1 zs _ hp1 hpa =>
              match zs, hpa with
              | z0 :: _, .cons hz _ =>
              cases hz with
              | @tup r9 us9 _ hr9 hra9 =>
              have hl : headLen (.tuple [.tuple h', b', c']) = h'.length := rfl
              have shi : Sh (.int ((headLen (.tuple [.tuple h', b', c']) : Nat) : Int)) := by
                rw [hl]
                obtain ⟨i1, i2, i3, i4⟩ := leaf_i (i := (h'.length : Int)) (by omega) (by omega)
                exact ⟨i1, i2, by omega, by omega⟩
              try dsimp only [tNil, tCons, tCB]
              refine rd_repr shi (.int _) ?_
              refine ⟨_, rfl, true, .inr (.inl ⟨_, SqT.of hpO, rfl⟩), iteT ?_⟩
              refine ⟨_, rfl, rd_ix (.inr (SqT.of hpO)) (atI_nat (j := 0) rfl) (rd_ix (.inr (SqT.of hp1)) (atI_nat (j := 0) rfl) ⟨r9, us9, rfl, .inr (SqT.of hr9), ?_⟩)⟩
              rw [hra9.len]
              try dsimp only [tNil, tCons, tCB]
              refine rd_repr (d := .int ((h'.length : Nat) : Int)) shi (.int _) ?_
              exact ⟨rfl, _, rfl, iteNS rfl ⟨_, _, _, _, _, _, _, _, rfl, nxt _ sO⟩⟩
        · rintro σ H' ⟨v5, v7, v8, v9, v10, v11, v12, v13, rfl, GG, hG, xG, upG⟩
          have gWG := upG _ _ gWF
          have hWG := xG.sub _ _ gWG
          -- widths that are wrong
          refine ⟨_, rfl, few (by show 1 ≤ 1000; omega), fun q nq => ?_⟩
          have sq := same_upd (o := HO.lst [.int 4]) nq
          have hq : (upd H' q (.lst [.int 4])) q = some (.lst [.int 4]) := upd_same
          generalize upd H' q (.lst [.int 4]) = HI at sq hq ⊢
          refine ⟨W, q, _, _, rfl, rfl, sq _ _ hWG, hq, Nat.le_of_lt (small1000 (by rw [lW]; show ws.length + 1 ≤ 1000; omega)), fun l nl => ?_⟩
          have sl := same_upd (o := HO.lst (ws.map V.int ++ [.int 4])) nl
          have e4 : ws.map V.int ++ [.int 4] = (ws ++ [4]).map V.int := by rw [List.map_append]; rfl
          have hl : (upd HI l (.lst (ws.map V.int ++ [.int 4]))) l = some (.lst ((ws ++ [4]).map V.int)) := by rw [upd_same, e4]
          generalize upd HI l (.lst (ws.map V.int ++ [.int 4])) = HJ at sl hl ⊢
          refine ⟨.ref l, .int 3, ws ++ [4], .int 3, rfl, ⟨l, rfl, .inl hl⟩, by rw [List.length_append]; show ws.length + 1 ≤ 1000; omega, .int 3, by decide +kernel, fun rv HK sK hrv => ?_⟩
          have er : resU (ws ++ [4]) (.int 3) = .list [.int (if ws.length < 6 then (ws.length : Int) else 0)] := by
            unfold resU
            rw [w_four w1 w6 w3]
          rw [er] at hrv
          have shw : Sh (.list [.int (if ws.length < 6 then (ws.length : Int) else 0)]) := by
            refine sh_words (fun x m => ?_) (by show 1 ≤ 3; omega)
            rw [List.mem_singleton.mp m]
            exact leaf_i (by split <;> omega) (by split <;> omega)
          try dsimp only [tNil, tCons, tCB]
          refine rd_repr shw hrv ?_
          have sH := (sq.trans sl).trans sK
          have hWK := sH _ _ hWG
          refine ⟨_, rfl, W, _, rfl, .inl (SqL.of hWK), _, _, rfl, rfl, _, rfl, ?_⟩
          rw [lW]
          have last : ∀ z : Int, z = (if ws.length < 6 then (ws.length : Int) else 0) → ∀ (HM : Hp) (o : Addr), HK o = none → HM = upd HK o (.lst [.int z]) → Dq HM (.ref o) (.list [.int (if ws.length < 6 then (ws.length : Int) else 0)]) := fun z ez HM o no eH => by
            rw [eH, ← ez]
            exact .lst upd_same (.cons (.int z) .nil)
          have xK := xG.pure sH
          have hK := hG.same sH
          have fin : ∀ HM : Hp, Same HK HM → Hand MO HM a c ∧ Ext a H1 H HM GG := fun HM sM => ⟨hK.same sM, xK.pure sM⟩
          refine ite2 (fun z => ?_) (fun z => ?_)
          · have z := of_decide_eq_true z
            refine ⟨_, rfl, W, _, rfl, .inl (SqL.of hWK), ?_⟩
            rw [lW]
            refine ⟨few (by show 1 ≤ 1000; omega), fun o no => ?_⟩
            try dsimp only [tNil, tCons, tCB]
            refine rd_repr shw (last _ (by rw [if_pos (by omega)]) _ o no rfl) ?_
            refine ⟨rfl, _, rfl, iteNS rfl ?_⟩
            obtain ⟨hM, xM⟩ := fin _ (same_upd no)
            try dsimp only [gName, tSeq, tAsg, tNext]
            refine .inl ?_
            refine ⟨_, rfl, a, c, GG, rfl, hM, xM.sub, xM.off, fun y7 d7 HA GA hA xA e7 r7 => ?_⟩
            refine ⟨_, rfl, a, c, GA, rfl, hA, xA.sub, xA.off, fun y8 d8 HB GB hB xB e8 r8 => ?_⟩
            refine tkName hB ((xM.trans xA).trans xB) rfl (fun R h => h) (by omega) (by omega) fun sl HC ms hC xC sC => ?_
            refine ⟨few (by show 1 ≤ 1000; omega), fun l9 nl9 => ?_⟩
            have f9 := same_upd (o := HO.lst [.str "a"]) (xC.gone nl9)
            have hD := hand_keep (o := HO.lst [.str "a"]) hC nl9
            have xD := xC.mk_ (o := HO.lst [.str "a"]) nl9
            have e9 : Dq (upd GB l9 (.lst [.str "a"])) (.ref l9) (.list [.str "a"]) := .lst upd_same (.cons (.str _) .nil)
            have e7 := (e7.keep xB.up).keep f9
            have e8 := e8.keep f9
            generalize upd HC l9 (.lst [.str "a"]) = HD at hD xD ⊢
            generalize upd GB l9 (.lst [.str "a"]) = GD' at xD e9 e7 e8
            refine ⟨few (by show 11 ≤ 1000; omega), fun T2 nT2 => ?_⟩
            have f2 := same_upd (o := HO.lst [V.str "a", .str "h", .str "i", .str "A", .str "", .str "ab", y7, y8, .str sl, .ref l9, .non]) (xD.gone nT2)
            have hE := hand_keep (o := HO.lst [V.str "a", .str "h", .str "i", .str "A", .str "", .str "ab", y7, y8, .str sl, .ref l9, .non]) hD nT2
            have xE := xD.mk_ (o := HO.lst [V.str "a", .str "h", .str "i", .str "A", .str "", .str "ab", y7, y8, .str sl, .ref l9, .non]) nT2
            have gT2 : (upd GD' T2 (.lst [V.str "a", .str "h", .str "i", .str "A", .str "", .str "ab", y7, y8, .str sl, .ref l9, .non])) T2 = some (.lst [V.str "a", .str "h", .str "i", .str "A", .str "", .str "ab", y7, y8, .str sl, .ref l9, .non]) := upd_same
            have allZ : DqAll GD' [V.str "a", .str "h", .str "i", .str "A", .str "", .str "ab", y7, y8, .str sl, .ref l9, .non] [PyData.str "a", .str "h", .str "i", .str "A", .str "", .str "ab", d7, d8, .str sl, .list [.str "a"], .none] := .cons (.str _) (.cons (.str _) (.cons (.str _) (.cons (.str _) (.cons (.str _) (.cons (.str _) (.cons e7 (.cons e8 (.cons (.str _) (.cons e9 (.cons .non .nil))))))))))
            have allZ := allZ.keep f2
            generalize [PyData.str "a", .str "h", .str "i", .str "A", .str "", .str "ab", d7, d8, .str sl, .list [.str "a"], .none] = dz at allZ
            generalize [V.str "a", .str "h", .str "i", .str "A", .str "", .str "ab", y7, y8, .str sl, .ref l9, .non] = xz at hE xE gT2 allZ f2 ⊢
            generalize upd HD T2 (.lst xz) = HE at hE xE ⊢
            generalize upd GD' T2 (.lst xz) = GE at xE gT2 allZ f2
            refine ⟨T2, rfl, ⟨_, SqL.of (xE.sub _ _ gT2)⟩, for_it (walk_list (K := K) (a := T2) (xs := xz)) (fun i σ H' => ∃ v5 v7 v8 v9 v10 v11 v12 v13, σ = [some (.ref s), some (.ref a), some (.ref W), some (.int (n : Nat)), some (.ref U), v5, some (.ref Bd), v7, v8, v9, v10, v11, v12, v13] ∧ Same GE H') ?_ ?_ ?_ ?_⟩
            · exact ⟨_, _, _, _, _, _, _, _, rfl, xE.sub⟩
            · rintro j σ H' hj ⟨v5, v7, v8, v9, v10, v11, v12, v13, rfl, up⟩
              exact SqL.of (up _ _ gT2)
            · rintro j t σ H' H2' hj ⟨v5, v7, v8, v9, v10, v11, v12, v13, rfl, up⟩ y
              obtain ⟨rfl, et⟩ := y
              obtain ⟨td, etd, ht⟩ := allZ.get et
              have ht := ht.keep up
              try dsimp only [gName, tSeq, tAsg, tNext]
              refine ⟨_, rfl, t, td, rfl, ht, fun HZ sZ => ?_⟩
              have ht := ht.keep sZ
              have en : decide (nameV t = nameD td) = true := decide_eq_true ht.name
              refine ⟨_, rfl, t, _, rfl, ht.ty, _, rfl, nameV t, nameD td, rfl, _, rfl, ?_⟩
              rw [en]
              refine iteF ⟨_, rfl, t, td, rfl, ht, ?_⟩
              refine ⟨_, rfl, nameD td, rfl, ?_⟩
              cases hn : nameD td with
              | true =>
                have e1 : termD td = true := by unfold termD; rw [hn]; rfl
                refine iteT ⟨termD td, true, rfl, _, rfl, ?_⟩
                rw [e1]
                exact iteF ⟨_, _, _, _, _, _, _, _, rfl, up.trans sZ⟩
              | false =>
                have e1 : termD td = valueD td := by unfold termD; rw [hn, Bool.false_or]
                refine iteF ⟨_, rfl, t, td, rfl, ht, termD td, valueD td, rfl, _, rfl, ?_⟩
                rw [decide_eq_true e1]
                exact iteF ⟨_, _, _, _, _, _, _, _, rfl, up.trans sZ⟩
            · rintro σ H' ⟨v5, v7, v8, v9, v10, v11, v12, v13, rfl, up⟩
              exact k H'
          · have z : ¬ (ws.length : Int) < 6 := fun y => z (decide_eq_true y)
            refine ⟨few (by show 1 ≤ 1000; omega), fun o no => ?_⟩
            try dsimp only [tNil, tCons, tCB]
            refine rd_repr shw (last _ (by rw [if_neg (by omega)]) _ o no rfl) ?_
            refine ⟨rfl, _, rfl, iteNS rfl ?_⟩
            obtain ⟨hM, xM⟩ := fin _ (same_upd no)
            try dsimp only [gName, tSeq, tAsg, tNext]
            refine .inl ?_
            refine ⟨_, rfl, a, c, GG, rfl, hM, xM.sub, xM.off, fun y7 d7 HA GA hA xA e7 r7 => ?_⟩
            refine ⟨_, rfl, a, c, GA, rfl, hA, xA.sub, xA.off, fun y8 d8 HB GB hB xB e8 r8 => ?_⟩
            refine tkName hB ((xM.trans xA).trans xB) rfl (fun R h => h) (by omega) (by omega) fun sl HC ms hC xC sC => ?_
            refine ⟨few (by show 1 ≤ 1000; omega), fun l9 nl9 => ?_⟩
            have f9 := same_upd (o := HO.lst [.str "a"]) (xC.gone nl9)
            have hD := hand_keep (o := HO.lst [.str "a"]) hC nl9
            have xD := xC.mk_ (o := HO.lst [.str "a"]) nl9
            have e9 : Dq (upd GB l9 (.lst [.str "a"])) (.ref l9) (.list [.str "a"]) := .lst upd_same (.cons (.str _) .nil)
            have e7 := (e7.keep xB.up).keep f9
            have e8 := e8.keep f9
            generalize upd HC l9 (.lst [.str "a"]) = HD at hD xD ⊢
            generalize upd GB l9 (.lst [.str "a"]) = GD' at xD e9 e7 e8
            refine ⟨few (by show 11 ≤ 1000; omega), fun T2 nT2 => ?_⟩
            have f2 := same_upd (o := HO.lst [V.str "a", .str "h", .str "i", .str "A", .str "", .str "ab", y7, y8, .str sl, .ref l9, .non]) (xD.gone nT2)
            have hE := hand_keep (o := HO.lst [V.str "a", .str "h", .str "i", .str "A", .str "", .str "ab", y7, y8, .str sl, .ref l9, .non]) hD nT2
            have xE := xD.mk_ (o := HO.lst [V.str "a", .str "h", .str "i", .str "A", .str "", .str "ab", y7, y8, .str sl, .ref l9, .non]) nT2
            have gT2 : (upd GD' T2 (.lst [V.str "a", .str "h", .str "i", .str "A", .str "", .str "ab", y7, y8, .str sl, .ref l9, .non])) T2 = some (.lst [V.str "a", .str "h", .str "i", .str "A", .str "", .str "ab", y7, y8, .str sl, .ref l9, .non]) := upd_same
            have allZ : DqAll GD' [V.str "a", .str "h", .str "i", .str "A", .str "", .str "ab", y7, y8, .str sl, .ref l9, .non] [PyData.str "a", .str "h", .str "i", .str "A", .str "", .str "ab", d7, d8, .str sl, .list [.str "a"], .none] := .cons (.str _) (.cons (.str _) (.cons (.str _) (.cons (.str _) (.cons (.str _) (.cons (.str _) (.cons e7 (.cons e8 (.cons (.str _) (.cons e9 (.cons .non .nil))))))))))
            have allZ := allZ.keep f2
            generalize [PyData.str "a", .str "h", .str "i", .str "A", .str "", .str "ab", d7, d8, .str sl, .list [.str "a"], .none] = dz at allZ
            generalize [V.str "a", .str "h", .str "i", .str "A", .str "", .str "ab", y7, y8, .str sl, .ref l9, .non] = xz at hE xE gT2 allZ f2 ⊢
            generalize upd HD T2 (.lst xz) = HE at hE xE ⊢
            generalize upd GD' T2 (.lst xz) = GE at xE gT2 allZ f2
            refine ⟨T2, rfl, ⟨_, SqL.of (xE.sub _ _ gT2)⟩, for_it (walk_list (K := K) (a := T2) (xs := xz)) (fun i σ H' => ∃ v5 v7 v8 v9 v10 v11 v12 v13, σ = [some (.ref s), some (.ref a), some (.ref W), some (.int (n : Nat)), some (.ref U), v5, some (.ref Bd), v7, v8, v9, v10, v11, v12, v13] ∧ Same GE H') ?_ ?_ ?_ ?_⟩
            · exact ⟨_, _, _, _, _, _, _, _, rfl, xE.sub⟩
            · rintro j σ H' hj ⟨v5, v7, v8, v9, v10, v11, v12, v13, rfl, up⟩
              exact SqL.of (up _ _ gT2)
            · rintro j t σ H' H2' hj ⟨v5, v7, v8, v9, v10, v11, v12, v13, rfl, up⟩ y
              obtain ⟨rfl, et⟩ := y
              obtain ⟨td, etd, ht⟩ := allZ.get et
              have ht := ht.keep up
              try dsimp only [gName, tSeq, tAsg, tNext]
              refine ⟨_, rfl, t, td, rfl, ht, fun HZ sZ => ?_⟩
              have ht := ht.keep sZ
              have en : decide (nameV t = nameD td) = true := decide_eq_true ht.name
              refine ⟨_, rfl, t, _, rfl, ht.ty, _, rfl, nameV t, nameD td, rfl, _, rfl, ?_⟩
              rw [en]
              refine iteF ⟨_, rfl, t, td, rfl, ht, ?_⟩
              refine ⟨_, rfl, nameD td, rfl, ?_⟩
              cases hn : nameD td with
              | true =>
                have e1 : termD td = true := by unfold termD; rw [hn]; rfl
                refine iteT ⟨termD td, true, rfl, _, rfl, ?_⟩
                rw [e1]
                exact iteF ⟨_, _, _, _, _, _, _, _, rfl, up.trans sZ⟩
              | false =>
                have e1 : termD td = valueD td := by unfold termD; rw [hn, Bool.false_or]
                refine iteF ⟨_, rfl, t, td, rfl, ht, termD td, valueD td, rfl, _, rfl, ?_⟩
                rw [decide_eq_true e1]
                exact iteF ⟨_, _, _, _, _, _, _, _, rfl, up.trans sZ⟩
            · rintro σ H' ⟨v5, v7, v8, v9, v10, v11, v12, v13, rfl, up⟩
              exact k H'
end
end My
set_option Elab.async false
set_option linter.all false
set_option maxRecDepth 100000
set_option maxHeartbeats 4000000
namespace MyH
open PySem PySem.Spec PyProof.Rows L2 He
/-! ### a Hook of any look at the written part -/
abbrev Al : Type := Bool × AlD
/-- what the facts want of the heap, by paths: the module's names, their functions' code and defaults, the classes' own names, these names' functions' code and defaults -/
def refsN (g : Addr → Option Obj) (a : Addr) : List Addr := match g a with
  | some ⟨_, _, .dict es _, _⟩ => es.toList.flatMap fun e => refV e.val
  | _ => []
def refsF (g : Addr → Option Obj) (a : Addr) : List Addr := match g a with
  | some ⟨_, _, .func fd, _⟩ => refV fd.code ++ refV fd.defaults
  | some ⟨_, _, .cls cd, _⟩ => [cd.ns]
  | _ => []
def asM (g : Addr → Option Obj) : List Addr :=
  let names := refsN g mainGlobals
  let parts := names.flatMap (refsF g)
  let own := parts.flatMap (refsN g)
  names ++ parts ++ own ++ own.flatMap (refsF g) ++ [mainGlobals, PySem.cStatics]
def obsM (F : PySem.W.Frag → Bool) (fn : List DefD) (K : PySem.W.Frag) : Al := (F K, obsD [] fn K)
def valM (fn : List DefD) : Al := (true, valD fn)
def SaysM (F : PySem.W.Frag → Bool) (fn : List DefD) (K : PySem.W.Frag) : Prop := obsM F fn K = valM fn
def obsMG (F : PySem.W.Frag → Bool) (fn : List DefD) (g : Addr → Option Obj) : Al := obsM F fn (frG g (asM g))
def hookM (F : PySem.W.Frag → Bool) (fn : List DefD) : PySem.W.Hook where
  α := Al
  obs := fun s => obsMG F fn s.heap.get?
  val := fun _ => valM fn
  says := fun _ h => ∃ K : PySem.W.Frag, K.In h ∧ SaysM F fn K
  of := fun _ _ z => Exists.intro _ (And.intro frG_in z)
  keeps := fun _ _ _ z k => Exists.elim z fun K y => ⟨K, PySem.W.Frag.In.keeps y.1 k, y.2⟩
theorem obsMG_eq {F : PySem.W.Frag → Bool} {fn : List DefD} {g : Addr → Option Obj} {s : Shared} (h : ∀ a, g a = s.heap.get? a) : obsMG F fn g = (hookM F fn).obs s := by
  obtain rfl : g = s.heap.get? := funext h
  rfl
section
variable {F : PySem.W.Frag → Bool} {fn : List DefD} {K : PySem.W.Frag}
theorem SaysM.fact (c : SaysM F fn K) : F K = true := congrArg (fun z : Al => z.1) c
theorem SaysM.def_ (c : SaysM F fn K) (i : Nat) {d : DefD} (h : fn[i]? = some d := by rfl) : ∃ fd, FunD K d.name d.qual d.params d.body d.scope (d.dvs K) (d.kws K) (fAd K d.at_) fd :=
  He.SaysD.def_ (fa := []) (show SaysD [] fn K from congrArg (fun z : Al => z.2) c) i h
end
/-- without defaults it is a def of the short words -/
theorem fun_of {K : PySem.W.Frag} {x qual : Str} {st : Stmt} {f : Addr} {fd : FuncData} {kws : List (Str × V)} (F : FunD K x qual (defArgs st) (defBody st) (defScope st) [] kws f fd) : L2.Fun K x qual st f fd := by
  obtain ⟨c1, c2, dv, kv, c3, c4, c5, c6, c7, c8, rfl, stands, coded, dfl, _⟩ := F.ex
  have nodfl : dv = .none := dfl.elim (fun z => z.2) fun z => absurd rfl z.1
  subst nodfl
  exact ⟨⟨c1, c2, kv, c3, c4, c5, c6, c7, c8, rfl, stands, coded⟩, F.kp⟩
/-! ### a list of numbers, reckoned once -/
def natsF : List Nat → (List Nat → Bool) → Bool
  | [], k => k []
  | a :: r, k => HandSHeadRun.frNat a fun a' => natsF r fun r' => k (a' :: r')
theorem natsF_eq : ∀ (l : List Nat) (k : List Nat → Bool), natsF l k = k l
  | [], _ => rfl
  | a :: r, k => by
    show HandSHeadRun.frNat a (fun a' => natsF r fun r' => k (a' :: r')) = k (a :: r)
    rw [HandSHeadRun.frNat_eq, natsF_eq r]
/-! ### an exception class of the program's own, D the address of its base class of the program's own -/
def slB (sl : List (Option Value)) : Bool := match sl with
  | [_, _, _, _, some (.builtin z), _] => decide (z = "ValueError.__new__")
  | _ => false
theorem slB_ok {sl : List (Option Value)} (h : slB sl = true) : ∃ k0 k1 k2 k3 k5, sl = [k0, k1, k2, k3, some (.builtin "ValueError.__new__"), k5] := by
  unfold slB at h
  split at h
  · rename_i k0 k1 k2 k3 z k5
    exact ⟨k0, k1, k2, k3, k5, by rw [of_decide_eq_true h]⟩
  · cases h
def fourC (K : PySem.W.Frag) (C : Addr) (bm : List Value) : Bool := match K.lookup C with
  | some ⟨.type t, dd, .cls ⟨nm, bs, mro, N, q, hd, sn, sub, ab, col, del⟩, sl⟩ => decide (t = "type") && (decide (mro = .ref C :: bm) && (hd && (!del && slB sl.toList)))
  | _ => false
theorem fourC_ok {K : PySem.W.Frag} {C : Addr} {bm : List Value} (h : fourC K C bm = true) : ∃ nm q N bs sn sub ab col dd k0 k1 k2 k3 k5, K.lookup C = some (excClassObj nm q C N bs bm true sn sub ab col dd k0 k1 k2 k3 k5 "ValueError.__new__") := by
  unfold fourC at h
  cases q : K.lookup C with
  | none =>
    rw [q] at h
    cases h
  | some o =>
    rw [q] at h
    obtain ⟨oc, od, dt, sl⟩ := o
    cases oc with
    | type t =>
      cases dt with
      | cls cd =>
        obtain ⟨nm, bs, mro, N, qn, hd, sn, sub, ab, col, del⟩ := cd
        obtain ⟨h1, h⟩ := ba (show (decide (t = "type") && (decide (mro = .ref C :: bm) && (hd && (!del && slB sl.toList)))) = true from h)
        obtain ⟨h2, h⟩ := ba h
        obtain ⟨h3, h⟩ := ba h
        obtain ⟨h4, h5⟩ := ba h
        have e1 := of_decide_eq_true h1
        have e2 := of_decide_eq_true h2
        have e4 : del = false := by
          cases del with
          | false => rfl
          | true => cases h4
        subst e1 e2 h3 e4
        obtain ⟨l⟩ := sl
        obtain ⟨k0, k1, k2, k3, k5, rfl⟩ := slB_ok h5
        exact ⟨nm, qn, N, bs, sn, sub, ab, col, od, k0, k1, k2, k3, k5, rfl⟩
      | _ => cases h
    | _ => cases dt <;> cases h
def veTl : List Value := [.type "ValueError", .type "Exception", .type "BaseException", .type "object"]
def isS (a b : Option Value) : Bool := decide (a = b)
/-- what stands of the class at C, named x, under D (its own names fs are no attributes of the class) -/
def exB (K : PySem.W.Frag) (D C : Addr) (x : Str) (fs : List Str) : Bool :=
  eqO (PySem.W.nsIn K mainGlobals x) (some (some (.ref C))) && (fourC K C (.ref D :: veTl) && (eqO (PySem.W.findIn K (.ref C) "__setattr__") (some (some (.builtin "object.__setattr__"))) && (decide (PySem.W.subIn K (.ref C) (.type "BaseException") = some true) &&
  (isS (PySem.W.typeIn K (.ref C)) (some (.type "type")) && (PySem.W.keepIn K (.ref C) && (eqO (PySem.W.findIn K (.ref C) "__getattribute__") (some (some (.builtin "BaseException.__getattribute__"))) && (eqO (PySem.W.findIn K (.ref C) "__getattr__") (some none) &&
  (eqO (PySem.W.findIn K (.ref C) "__class__") (some (some (.builtin "object.__class__"))) && (decide (PySem.W.mroIn K C (.type "object") = some true) && (fs.all (fun f => eqO (PySem.W.findIn K (.ref C) f) (some none)) &&
  (eqO (PySem.W.findIn K (.ref C) "__init__") (some (some (.ref (ma K C "__init__")))) && (isS (PySem.W.typeIn K (.ref (ma K C "__init__"))) (some (.type "function")) && decide (PySem.W.kitOne K (.ref C) (.type "ValueError") = some true)))))))))))))
structure ExBo (K : PySem.W.Frag) (D C : Addr) (x : Str) (fs : List Str) : Prop where
  glo : PySem.W.nsIn K mainGlobals x = some (some (.ref C))
  o : OexC K C
  mro : ∃ cd, PySem.W.clsIn K C = some cd ∧ cd.mro = .ref C :: .ref D :: veTl ∧ cd.hasDict = true
  atr : PySem.W.findIn K (.ref C) "__getattribute__" = some (some (.builtin "BaseException.__getattribute__"))
  atg : PySem.W.findIn K (.ref C) "__getattr__" = some none
  cl : PySem.W.findIn K (.ref C) "__class__" = some (some (.builtin "object.__class__"))
  ob : PySem.W.mroIn K C (.type "object") = some true
  nf : ∀ f ∈ fs, PySem.W.findIn K (.ref C) f = some none
  i : PySem.W.findIn K (.ref C) "__init__" = some (some (.ref (ma K C "__init__")))
  ti : PySem.W.typeIn K (.ref (ma K C "__init__")) = some (.type "function")
  ve : PySem.W.kitOne K (.ref C) (.type "ValueError") = some true
theorem exB_ok {K : PySem.W.Frag} {D C : Addr} {x : Str} {fs : List Str} (h : exB K D C x fs = true) : ExBo K D C x fs := by
  obtain ⟨h1, h⟩ := ba h
  obtain ⟨h2, h⟩ := ba h
  obtain ⟨h3, h⟩ := ba h
  obtain ⟨h4, h⟩ := ba h
  obtain ⟨h5, h⟩ := ba h
  obtain ⟨h6, h⟩ := ba h
  obtain ⟨h7, h⟩ := ba h
  obtain ⟨h8, h⟩ := ba h
  obtain ⟨h9, h⟩ := ba h
  obtain ⟨h10, h⟩ := ba h
  obtain ⟨h11, h⟩ := ba h
  obtain ⟨h12, h⟩ := ba h
  obtain ⟨h13, h14⟩ := ba h
  obtain ⟨nm, q, N, bs, sn, sub, ab, col, dd, k0, k1, k2, k3, k5, e⟩ := fourC_ok h2
  have hc : PySem.W.clsIn K C = some { name := nm, bases := bs, mro := .ref C :: .ref D :: veTl, ns := N, qualname := q, hasDict := true, slotNames := sn, subclasses := sub, abstract := ab, collection := col, hasDel := false } := by
    unfold PySem.W.clsIn
    rw [e]
  exact ⟨eqO_ok h1, ⟨⟨nm, q, N, bs, _, sn, sub, ab, col, dd, k0, k1, k2, k3, k5, e, (show PySem.HandSPX.refsVE veTl = true by decide +kernel)⟩, eqO_ok h3, of_decide_eq_true h4, of_decide_eq_true h5, h6⟩, ⟨_, hc, rfl, rfl⟩, eqO_ok h7, eqO_ok h8, eqO_ok h9, of_decide_eq_true h10,
    fun f hf => eqO_ok (List.all_eq_true.mp h11 f hf), eqO_ok h12, of_decide_eq_true h13, of_decide_eq_true h14⟩
/-- isinstance between two of these -/
theorem ExBo.kit {K : PySem.W.Frag} {D C C' : Addr} {x x' : Str} {fs fs' : List Str} (h : ExBo K D C x fs) (h' : ExBo K D C' x' fs') (hD : C' ≠ D) : PySem.W.kitOne K (.ref C) (.ref C') = some (decide (C = C')) := by
  by_cases e : C = C'
  · subst e
    rw [decide_eq_true rfl]
    exact if_pos (beq_self_eq_true (Value.ref C))
  · rw [decide_eq_false e]
    obtain ⟨cd, hc, hm, _⟩ := h.mro
    obtain ⟨cd', hc', _⟩ := h'.mro
    have n1 : ((Value.ref C == Value.ref C') = true) ↔ False := by
      constructor
      · intro z
        exact e (Value.ref.inj (beq_iff_eq.mp z))
      · exact False.elim
    unfold PySem.W.kitOne PySem.W.kitCls
    rw [if_neg (fun z => n1.mp z)]
    dsimp only
    rw [if_pos (by rw [hc', h'.o.tyC]; rfl)]
    show ((PySem.W.clsIn K C).bind fun cd => if cd.mro.isEmpty then none else some (cd.mro.contains (Value.ref C'))) = _
    rw [hc, Option.bind_some, hm]
    have n2 : (Value.ref C' == Value.ref C) = false := by
      apply Bool.eq_false_iff.mpr
      intro z
      exact e (Value.ref.inj (beq_iff_eq.mp z)).symm
    have n3 : (Value.ref C' == Value.ref D) = false := by
      apply Bool.eq_false_iff.mpr
      intro z
      exact hD (Value.ref.inj (beq_iff_eq.mp z))
    have n4 : veTl.contains (Value.ref C') = false := rfl
    have n5 : (Value.ref C :: Value.ref D :: veTl).contains (Value.ref C') = false := by
      rw [List.contains_cons, List.contains_cons, n2, n3, n4]
      rfl
    rw [n5]
    rfl
/-- .. and the base -/
theorem ExBo.kitD {K : PySem.W.Frag} {D C : Addr} {x : Str} {fs : List Str} (h : ExBo K D C x fs) (hD : C ≠ D) (hc' : PySem.W.isClsIn K D = true) (ht : PySem.W.typeIn K (.ref D) = some (.type "type")) : PySem.W.kitOne K (.ref C) (.ref D) = some true := by
  obtain ⟨cd, hc, hm, _⟩ := h.mro
  unfold PySem.W.kitOne PySem.W.kitCls
  rw [if_neg (fun z => hD (Value.ref.inj (beq_iff_eq.mp z)))]
  dsimp only
  have hc2 : (PySem.W.clsIn K D).isSome = true := hc'
  rw [if_pos (by rw [hc2, ht]; rfl)]
  show ((PySem.W.clsIn K C).bind fun cd => if cd.mro.isEmpty then none else some (cd.mro.contains (Value.ref D))) = _
  rw [hc, Option.bind_some, hm]
  have n5 : (Value.ref C :: Value.ref D :: veTl).contains (Value.ref D) = true := by
    rw [List.contains_cons, List.contains_cons, beq_self_eq_true (Value.ref D)]
    simp
  rw [n5]
  rfl
/-! ### the base class D itself -/
def deB (K : PySem.W.Frag) (D : Addr) (x : Str) : Bool :=
  eqO (PySem.W.nsIn K mainGlobals x) (some (some (.ref D))) && (PySem.W.readsIn K D (.type "type") && (eqO (PySem.W.specialIn K (.ref D) "__getattribute__") (some (some (.builtin "type.__getattribute__"))) && ((match PySem.W.findCls K (.ref D) (.type "type") "__init__" with
    | some (.val (.ref a)) => decide (a = ma K D "__init__")
    | _ => false) && (PySem.W.isClsIn K D && (isS (PySem.W.typeIn K (.ref D)) (some (.type "type")) && ((match PySem.W.findCls K (.type "ValueError") (.type "type") "__init__" with
    | some (.val (.builtin z)) => decide (z = "ValueError.__init__")
    | _ => false) && (eqO (PySem.W.specialIn K (.builtin "object.__class__") "__get__") (some (some (.builtin "getset_descriptor.__get__"))) && decide (PySem.W.takesIn K (.builtin "object.__class__") = some true))))))))
structure DeBo (K : PySem.W.Frag) (D : Addr) (x : Str) : Prop where
  glo : PySem.W.nsIn K mainGlobals x = some (some (.ref D))
  rd : ClX.CRead K D (.type "type")
  fc : PySem.W.findCls K (.ref D) (.type "type") "__init__" = some (.val (.ref (ma K D "__init__")))
  ic : PySem.W.isClsIn K D = true
  ty : PySem.W.typeIn K (.ref D) = some (.type "type")
  vV : PySem.W.findCls K (.type "ValueError") (.type "type") "__init__" = some (.val (.builtin "ValueError.__init__"))
  gt : PySem.W.specialIn K (.builtin "object.__class__") "__get__" = some (some (.builtin "getset_descriptor.__get__"))
  tk : PySem.W.takesIn K (.builtin "object.__class__") = some true
theorem deB_ok {K : PySem.W.Frag} {D : Addr} {x : Str} (h : deB K D x = true) : DeBo K D x := by
  obtain ⟨h1, h⟩ := ba h
  obtain ⟨h2, h⟩ := ba h
  obtain ⟨h3, h⟩ := ba h
  obtain ⟨h4, h⟩ := ba h
  obtain ⟨h5, h⟩ := ba h
  obtain ⟨h6, h⟩ := ba h
  obtain ⟨h7, h⟩ := ba h
  obtain ⟨h8, h9⟩ := ba h
  refine ⟨eqO_ok h1, ⟨h2, eqO_ok h3⟩, ?_, h5, of_decide_eq_true h6, ?_, eqO_ok h8, of_decide_eq_true h9⟩
  · split at h4
    · rename_i a e
      rw [e, of_decide_eq_true h4]
    · cases h4
  · split at h7
    · rename_i z e
      rw [e, of_decide_eq_true h7]
    · cases h7
theorem ExBo.t {K : PySem.W.Frag} {D C : Addr} {x y : Str} {fs : List Str} (h : ExBo K D C x fs) (d : DeBo K D y) : My.ExT K C := by
  obtain ⟨cd, hc, _, hh⟩ := h.mro
  exact ⟨h.o, h.atr, h.atg, by unfold PySem.W.isClsIn; rw [hc]; rfl, by unfold PySem.W.hasDictIn; rw [hc]; exact hh, h.cl, d.gt, d.tk, h.ob⟩
/-! ### a whole family of them -/
def nodB : List Nat → Bool
  | [] => true
  | a :: r => r.all (fun b => !Nat.beq a b) && nodB r
def famB (K : PySem.W.Frag) (D : Addr) : List Addr → List (Str × List Str) → Bool
  | [], [] => true
  | C :: Cs, p :: ps => exB K D C p.1 p.2 && famB K D Cs ps
  | _, _ => false
def famAll (K : PySem.W.Frag) (y : Str) (tab : List (Str × List Str)) : Bool := natsF ((y :: tab.map (·.1)).map (ga K)) fun As => match As with
  | D :: Cs => nodB (D :: Cs) && (deB K D y && famB K D Cs tab)
  | [] => false
theorem nodB_at : ∀ {l : List Nat}, nodB l = true → ∀ {i j : Nat} {a b : Nat}, l[i]? = some a → l[j]? = some b → i < j → a ≠ b
  | [], _, i, j, a, b, e, _, _ => by simp at e
  | x :: r, h, 0, j + 1, a, b, e1, e2, _ => by
    obtain ⟨h1, h2⟩ := ba (show (r.all (fun b => !Nat.beq x b) && nodB r) = true from h)
    have ea : x = a := Option.some.inj e1
    subst ea
    have hb := List.all_eq_true.mp h1 b (List.mem_of_getElem? e2)
    intro z
    subst z
    simp at hb
  | x :: r, h, i + 1, j + 1, a, b, e1, e2, l => by
    obtain ⟨h1, h2⟩ := ba (show (r.all (fun b => !Nat.beq x b) && nodB r) = true from h)
    exact nodB_at h2 (i := i) (j := j) e1 e2 (by omega)
  | x :: r, h, i, 0, a, b, e1, e2, l => by omega
theorem famB_at {K : PySem.W.Frag} {D : Addr} : ∀ {Cs : List Addr} {ps : List (Str × List Str)}, famB K D Cs ps = true → ∀ {i : Nat} {p : Str × List Str} {C : Addr}, ps[i]? = some p → Cs[i]? = some C → ExBo K D C p.1 p.2
  | [], [], _, i, p, C, e, _ => by simp at e
  | C :: Cs, p :: ps, h, 0, q, C', e1, e2 => by
    obtain ⟨h1, h2⟩ := ba (show (exB K D C p.1 p.2 && famB K D Cs ps) = true from h)
    have e3 : p = q := Option.some.inj e1
    have e4 : C = C' := Option.some.inj e2
    rw [← e3, ← e4]
    exact exB_ok h1
  | C :: Cs, p :: ps, h, i + 1, q, C', e1, e2 => by
    obtain ⟨h1, h2⟩ := ba (show (exB K D C p.1 p.2 && famB K D Cs ps) = true from h)
    exact famB_at h2 (i := i) e1 e2
  | [], _ :: _, h, _, _, _, _, _ => by cases h
  | _ :: _, [], h, _, _, _, _, _ => by cases h
structure Fam (K : PySem.W.Frag) (y : Str) (tab : List (Str × List Str)) : Prop where
  de : DeBo K (ga K y) y
  ex : ∀ {i : Nat} {p : Str × List Str}, tab[i]? = some p → ExBo K (ga K y) (ga K p.1) p.1 p.2
  nd : ∀ {i j : Nat} {p q : Str × List Str}, tab[i]? = some p → tab[j]? = some q → (ga K p.1 = ga K q.1 ↔ i = j)
  nD : ∀ {i : Nat} {p : Str × List Str}, tab[i]? = some p → ga K p.1 ≠ ga K y
theorem fam_ok {K : PySem.W.Frag} {y : Str} {tab : List (Str × List Str)} (h : famAll K y tab = true) : Fam K y tab := by
  unfold famAll at h
  rw [natsF_eq] at h
  have h' : (nodB (ga K y :: (tab.map (·.1)).map (ga K)) && (deB K (ga K y) y && famB K (ga K y) ((tab.map (·.1)).map (ga K)) tab)) = true := h
  obtain ⟨h1, h2⟩ := ba h'
  obtain ⟨h3, h4⟩ := ba h2
  have at1 : ∀ {i : Nat} {p : Str × List Str}, tab[i]? = some p → ((tab.map (·.1)).map (ga K))[i]? = some (ga K p.1) := fun {i p} e => by
    rw [List.getElem?_map, List.getElem?_map, e]
    rfl
  refine ⟨deB_ok h3, fun e => famB_at h4 e (at1 e), fun {i j p q} e1 e2 => ⟨fun z => ?_, fun z => ?_⟩, fun {i p} e => ?_⟩
  · rcases Nat.lt_trichotomy i j with l | l | l
    · exact absurd z (nodB_at h1 (i := i + 1) (j := j + 1) (at1 e1) (at1 e2) (by omega))
    · exact l
    · exact absurd z.symm (nodB_at h1 (i := j + 1) (j := i + 1) (at1 e2) (at1 e1) (by omega))
  · subst z
    rw [e1] at e2
    rw [Option.some.inj e2]
  · exact Ne.symm (nodB_at h1 (i := 0) (j := i + 1) rfl (at1 e) (by omega))
end MyH
set_option Elab.async false
set_option linter.all false
set_option maxRecDepth 100000
set_option maxHeartbeats 4000000
namespace MyN
open PySem PySem.Spec PyProof.Rows L2 He MyH
/-! ### a wider look: a property's def, what a def's defaults hold -/
def kidsP (look : Addr → Option Obj) (at0 : Addr) : List Addr := ((look at0).map fun ob => match ob.data with
  | .fields fs => fs.toList.flatMap refV
  | _ => []).getD []
def kidsS (look : Addr → Option Obj) (at0 : Addr) : List Addr := ((look at0).map fun ob => match ob.data with
  | .seq xs _ => xs.toList.flatMap refV
  | _ => []).getD []
def seenN (look : Addr → Option Obj) : List Addr :=
  let top := refsN look mainGlobals
  let half := top.flatMap (refsF look)
  let mine := half.flatMap (refsN look)
  let gets := mine.flatMap (kidsP look)
  let deep := (mine ++ gets).flatMap (refsF look)
  top ++ (half ++ (mine ++ (gets ++ (deep ++ ((half ++ deep).flatMap (kidsS look) ++ [mainGlobals, sysModules, PySem.cStatics])))))
/-- the getter of the property y of the class x -/
def getter (K : PySem.W.Frag) (x y : Str) : Addr := match PySem.W.recIn K (ma K (ga K x) y) "property" with
  | some (.ref z :: _) => z
  | _ => 0
def fnA (K : PySem.W.Frag) (z : Addr) : FnW := (K.lookup z).bind fun ob => match ob.data with
  | .func d => some (d.name, d.qualname, d.params, d.body, d.scope, d.globals, d.closure, d.builtins)
  | _ => none
def okA (K : PySem.W.Frag) (z : Addr) (q : Str) : Bool := PySem.W.keepIn K (.ref z) && (((K.lookup z).map fun ob => match ob.data with
  | .func d => PySem.W.codeIn K d.code q && dflB K d.defaults []
  | _ => false).getD false)
def valA (n q : Str) (st : Stmt) : FnW := some (n, q, defArgs st, .stmts (defBody st), defScope st, mainGlobals, [], builtinsNs)
theorem fnA_ok {K : PySem.W.Frag} {z : Addr} {n q : Str} {st : Stmt} (e : fnA K z = valA n q st) (c : okA K z q = true) : ∃ fd, FunD K n q (defArgs st) (defBody st) (defScope st) [] [] z fd := by
  obtain ⟨kp, c2⟩ := ba c
  unfold fnA at e
  cases lk : K.lookup z with
  | none =>
    rw [lk] at e
    cases e
  | some ob =>
    obtain ⟨b1, b2, dt, b4⟩ := ob
    rw [lk] at e c2
    cases dt with
    | func d =>
      obtain ⟨d1, d2, d3, d4, d5, d6, d7, d8, d9, d10, d11, d12, d13, d14, d15⟩ := d
      have e1 : (some (d1, d2, d3, d4, d5, d6, d7, d15) : FnW) = some (n, q, defArgs st, .stmts (defBody st), defScope st, mainGlobals, [], builtinsNs) := e
      simp only [Option.some.injEq, Prod.mk.injEq] at e1
      obtain ⟨g1, g2, g3, g4, g5, g6, g7, g8⟩ := e1
      subst g1 g2 g3 g4 g5 g6 g7 g8
      obtain ⟨c3, c4⟩ := ba (show (PySem.W.codeIn K d13 d2 && dflB K d8 []) = true from c2)
      exact ⟨_, ⟨b1, b2, d8, d9, d10, d11, d12, d13, d14, b4, rfl, lk, c3, dflB_ok c4, .inl rfl⟩, kp⟩
    | _ => cases e
def voidT (K : PySem.W.Frag) (z : Addr) : Bool := match K.lookup z with
  | some ⟨.type y, _, .seq xs _, _⟩ => decide (y = "tuple") && xs.toList.isEmpty
  | _ => false
theorem voidT_ok {K : PySem.W.Frag} {z : Addr} (h : voidT K z = true) (H : Hp) : SqT K H z [] := by
  unfold voidT at h
  cases lk : K.lookup z with
  | none =>
    rw [lk] at h
    cases h
  | some ob =>
    obtain ⟨b1, b2, dt, b4⟩ := ob
    rw [lk] at h
    cases b1 with
    | type y =>
      cases dt with
      | seq xs n =>
        obtain ⟨g1, g2⟩ := ba (show (decide (y = "tuple") && xs.toList.isEmpty) = true from h)
        have nil : xs.toList = [] := List.isEmpty_iff.mp g2
        refine .inr ⟨_, xs, n, lk, congrArg Value.type (of_decide_eq_true g1), rfl, ?_, by rw [nil]; exact .nil⟩
        have : xs.size = 0 := by rw [← Array.length_toList, nil]; rfl
        omega
      | _ => cases h
    | _ => cases dt <;> cases h
/-! ### the Hook -/
abbrev AlN : Type := MyH.Al × FnW
def obsN (F : PySem.W.Frag → Bool) (fn : List DefD) (p : PySem.W.Frag → Addr) (K : PySem.W.Frag) : AlN := (obsM F fn K, fnA K (p K))
def SaysN (F : PySem.W.Frag → Bool) (fn : List DefD) (p : PySem.W.Frag → Addr) (fv : FnW) (K : PySem.W.Frag) : Prop := obsN F fn p K = (valM fn, fv)
def obsNG (F : PySem.W.Frag → Bool) (fn : List DefD) (p : PySem.W.Frag → Addr) (look : Addr → Option Obj) : AlN := obsN F fn p (frG look (seenN look))
def hookN (F : PySem.W.Frag → Bool) (fn : List DefD) (p : PySem.W.Frag → Addr) (fv : FnW) : PySem.W.Hook where
  α := AlN
  obs := fun st => obsNG F fn p st.heap.get?
  val := fun _ => (valM fn, fv)
  says := fun _ hp => ∃ K : PySem.W.Frag, K.In hp ∧ SaysN F fn p fv K
  of := fun _ _ said => Exists.intro _ (And.intro frG_in said)
  keeps := fun _ _ _ said kept => Exists.elim said fun K both => Exists.intro K (And.intro (PySem.W.Frag.In.keeps both.1 kept) both.2)
theorem obsNG_eq {F : PySem.W.Frag → Bool} {fn : List DefD} {p : PySem.W.Frag → Addr} {fv : FnW} {look : Addr → Option Obj} {st : Shared} (h : ∀ z, look z = st.heap.get? z) : obsNG F fn p look = (hookN F fn p fv).obs st := by
  obtain rfl : look = st.heap.get? := funext h
  rfl
theorem SaysN.m {F : PySem.W.Frag → Bool} {fn : List DefD} {p : PySem.W.Frag → Addr} {fv : FnW} {K : PySem.W.Frag} (c : SaysN F fn p fv K) : SaysM F fn K := congrArg (fun y : AlN => y.1) c
theorem SaysN.g {F : PySem.W.Frag → Bool} {fn : List DefD} {p : PySem.W.Frag → Addr} {fv : FnW} {K : PySem.W.Frag} (c : SaysN F fn p fv K) : fnA K (p K) = fv := congrArg (fun y : AlN => y.2) c
/-! ### what stands of the class x beside -/
def soB (K : PySem.W.Frag) (C : Addr) (vo : Str × Option Str) : Bool :=
  eqO (PySem.W.findIn K (.ref C) "__class__") (some (some (.builtin "object.__class__"))) && (decide (PySem.W.mroIn K C (.type "object") = some true) && (PySem.W.notFirst K C (.type "tuple") && (PySem.W.notFirst K C (.type "NoneType") &&
  (decide (PySem.W.kitOne K (.type "tuple") (.ref C) = some false) && (decide (PySem.W.kitOne K (.type "NoneType") (.ref C) = some false) && (voidT K (dflAt vo 0 K)))))))
structure SoBo (K : PySem.W.Frag) (C : Addr) (vo : Str × Option Str) : Prop where
  cl : PySem.W.findIn K (.ref C) "__class__" = some (some (.builtin "object.__class__"))
  ob : PySem.W.mroIn K C (.type "object") = some true
  nT : PySem.W.notFirst K C (.type "tuple") = true
  nN : PySem.W.notFirst K C (.type "NoneType") = true
  kT : PySem.W.kitOne K (.type "tuple") (.ref C) = some false
  kN : PySem.W.kitOne K (.type "NoneType") (.ref C) = some false
  e0 : ∀ H : Hp, SqT K H (dflAt vo 0 K) []
theorem soB_ok {K : PySem.W.Frag} {C : Addr} {vo : Str × Option Str} (h : soB K C vo = true) : SoBo K C vo := by
  obtain ⟨h1, h⟩ := ba h
  obtain ⟨h2, h⟩ := ba h
  obtain ⟨h3, h⟩ := ba h
  obtain ⟨h4, h⟩ := ba h
  obtain ⟨h5, h⟩ := ba h
  obtain ⟨h6, h7⟩ := ba h
  exact ⟨eqO_ok h1, of_decide_eq_true h2, h3, h4, of_decide_eq_true h5, of_decide_eq_true h6, voidT_ok h7⟩
/-- the property y of the class at C, its getter at z -/
def prB (K : PySem.W.Frag) (C p z : Addr) (y : Str) : Bool :=
  eqO (PySem.W.findIn K (.ref C) y) (some (some (.ref p))) && (eqO (PySem.W.specialIn K (.ref p) "__get__") (some (some (.builtin "property.__get__"))) && (decide (PySem.W.takesIn K (.ref p) = some true) && ((match PySem.W.recIn K p "property" with
    | some (.ref b :: _) => decide (b = z)
    | _ => false))))
theorem prB_ok {K : PySem.W.Frag} {C p z : Addr} {y : Str} (h : prB K C p z y = true) : PropOf K C y p z := by
  obtain ⟨h1, h⟩ := ba h
  obtain ⟨h2, h⟩ := ba h
  obtain ⟨h3, h4⟩ := ba h
  refine ⟨eqO_ok h1, eqO_ok h2, of_decide_eq_true h3, ?_⟩
  split at h4
  · rename_i b rest e
    exact ⟨rest, by rw [e, of_decide_eq_true h4]⟩
  · cases h4

def sysB (K : PySem.W.Frag) : Bool := match K.lookup sysModules with
  | some ⟨.type y, _, _, _⟩ => decide (y = "dict")
  | _ => false
theorem sysB_ok {K : PySem.W.Frag} (h : sysB K = true) : ∃ o, K.lookup sysModules = some o ∧ o.cls = .type "dict" := by
  unfold sysB at h
  cases lk : K.lookup sysModules with
  | none =>
    rw [lk] at h
    cases h
  | some ob =>
    obtain ⟨b1, b2, dt, b4⟩ := ob
    rw [lk] at h
    cases b1 with
    | type y => exact ⟨_, rfl, congrArg Value.type (of_decide_eq_true h)⟩
    | _ => cases h
def strsB : List Value → List Str → Bool
  | [], [] => true
  | .str x _ :: r, y :: l => decide (x = y) && strsB r l
  | _, _ => false
theorem strsB_ok : ∀ {r : List Value} {l : List Str}, strsB r l = true → Vals (l.map V.str) r ∧ r.length = l.length
  | [], [], _ => ⟨.nil, rfl⟩
  | .str x t :: r, y :: l, h => by
    obtain ⟨h1, h2⟩ := ba (show (decide (x = y) && strsB r l) = true from h)
    obtain ⟨g, e⟩ := strsB_ok h2
    have e1 : x = y := of_decide_eq_true h1
    subst e1
    exact ⟨.cons ⟨t, rfl⟩ g, congrArg (· + 1) e⟩
def eightT (K : PySem.W.Frag) (z : Addr) (l : List Str) : Bool := match K.lookup z with
  | some ⟨.type y, _, .seq xs _, _⟩ => decide (y = "tuple") && strsB xs.toList l
  | _ => false
theorem eightT_ok {K : PySem.W.Frag} {z : Addr} {l : List Str} (h : eightT K z l = true) (few : l.length ≤ 100) (H : Hp) : SqT K H z (l.map V.str) := by
  unfold eightT at h
  cases lk : K.lookup z with
  | none =>
    rw [lk] at h
    cases h
  | some ob =>
    obtain ⟨b1, b2, dt, b4⟩ := ob
    rw [lk] at h
    cases b1 with
    | type y =>
      cases dt with
      | seq xs n =>
        obtain ⟨g1, g2⟩ := ba (show (decide (y = "tuple") && strsB xs.toList l) = true from h)
        obtain ⟨e, e2⟩ := strsB_ok g2
        have sz : xs.size ≤ 100 := by rw [← Array.length_toList, e2]; exact few
        refine .inr ⟨_, xs, n, lk, congrArg Value.type (of_decide_eq_true g1), rfl, ?_, e⟩
        have : (100 : Nat) < sizeLine := by decide
        omega
      | _ => cases h
    | _ => cases dt <;> cases h
end MyN
set_option Elab.async false
set_option linter.all false
set_option maxRecDepth 100000
set_option maxHeartbeats 0
namespace My
open PySem PySem.Spec PyProof.Rows L2 He MyH MyN
/-! ### the head: what the top leaves, by names -/
def dF (x : Str) (i : Nat) : DefD := ⟨(x, none), x, x, defArgs (topS i), defBody (topS i), defScope (topS i), [], []⟩
def dW (x : Str) (i : Nat) : DefD := ⟨(x, none), x, x, defArgs (topS i), defBody (topS i), defScope (topS i), [.non, .non], []⟩
def dC (x q m : Str) (i j : Nat) (ds : List Dv) : DefD := ⟨(x, some m), m, q, defArgs (inClass (topS i) j), defBody (inClass (topS i) j), defScope (inClass (topS i) j), ds, []⟩
def fn : List DefD := ([dF "is_sequence" 9, dF "is_sequence_of" 10, dF "check_widths" 11, dF "is_value" 14, dF "is_couple" 15, dF "fault_of_place" 16, dF "is_name" 23, dF "is_term" 24, dF "_fault_of_atom" 25, dF "_check_body" 26, dF "_is_told" 27, dF "_check_head" 28, dF "_check_pairs" 29, dF "check_question" 30, dF "check_union" 31] : List DefD) ++ ([dF "unlike_names" 32, dF "names_of" 33, dF "question_values" 34, dF "_terms_of" 35, dF "union_values" 36, dF "head_length" 37, dF "_law_hand" 39, dF "_law_mixed" 40, dF "_law_take" 41, dF "_law_body" 42, dF "_law_bound" 43, dF "_law_first" 44, dF "_law_names" 45, dF "_law_union_values" 46, dF "_law_rid" 47] : List DefD) ++ ([dF "_law_lists" 48, dF "_law_seq" 49, dF "_law_int" 50, dF "_law_is_value" 51, dF "_law_is_name" 52, dF "_law_deep" 53, dF "_law_truth" 54, dF "_law_loose" 55, dF "_law_many_widths" 56, dF "_law_any_value" 57, dF "_law_no_value" 58, dF "_law_word" 59, dF "_law_spoilt" 60, dF "_law_large_question" 61, dF "_law_is_bound" 62] : List DefD) ++ ([dF "_law_question_due" 63, dF "_law_checked_question" 64, dF "_law_checked_union" 65, dF "_law_union_due" 66, dF "_law_bad_question" 67, dF "_law_same_parts" 68, dF "law" 69, dW "is_whole" 8, dC "DealError" "DealError.__init__" "__init__" 1 0 [.str ""], dC "BadWidths" "BadWidths.__init__" "__init__" 2 0 [], dC "BadQuestion" "BadQuestion.__init__" "__init__" 3 0 [], dC "BadUnion" "BadUnion.__init__" "__init__" 4 0 []] : List DefD)
def fas : List Fa := ([.free "int", .free "len", .free "abs", .free "isinstance", .free "list", .free "tuple", .free "range", .free "ValueError", .free "all", .free "enumerate", .free "bool", .free "str", .free "sorted", .free "set", .free "repr", .free "min", .int "GREATEST_VALUE" 1000000000, .int "MOST_TABLES" 6, .int "MOST_COLUMNS" 3, .int "MOST_ATOMS" 8] : List Fa) ++ ([.int "MOST_HEAD" 3, .int "MOST_PAIRS" 8, .int "MOST_QUESTIONS" 6, .glo "is_sequence", .glo "is_sequence_of", .glo "check_widths", .glo "is_value", .glo "is_couple", .glo "fault_of_place", .glo "is_name", .glo "is_term", .glo "_fault_of_atom", .glo "_check_body", .glo "_is_told", .glo "_check_head", .glo "_check_pairs", .glo "check_question", .glo "check_union", .glo "unlike_names", .glo "names_of"] : List Fa) ++ ([.glo "question_values", .glo "_terms_of", .glo "union_values", .glo "head_length", .glo "_law_hand", .glo "_law_mixed", .glo "_law_take", .glo "_law_body", .glo "_law_bound", .glo "_law_first", .glo "_law_names", .glo "_law_union_values", .glo "_law_rid", .glo "_law_lists", .glo "_law_seq", .glo "_law_int", .glo "_law_is_value", .glo "_law_is_name", .glo "_law_deep", .glo "_law_truth"] : List Fa) ++ ([.glo "_law_loose", .glo "_law_many_widths", .glo "_law_any_value", .glo "_law_no_value", .glo "_law_word", .glo "_law_spoilt", .glo "_law_large_question", .glo "_law_is_bound", .glo "_law_question_due", .glo "_law_checked_question", .glo "_law_checked_union", .glo "_law_union_due", .glo "_law_bad_question", .glo "_law_same_parts", .glo "law", .glo "is_whole", .glo "NAMES", .exm "BadQuestion" "BadQuestion" true, .exm "BadUnion" "BadQuestion" false, .exm "BadUnion" "BadUnion" true] : List Fa) ++ ([.exm "BadWidths" "BadQuestion" false, .exm "BadWidths" "BadUnion" false, .exm "BadWidths" "BadWidths" true] : List Fa)
def tab : List (Str × List Str) := [("BadWidths", ["index"]), ("BadQuestion", ["what", "index"]), ("BadUnion", ["what", "index"])]
def lawAt (K : PySem.W.Frag) : Addr := He.ga K "law"
def lawV : FnW := valA "law" "law" (topS 69)
def facts (K : PySem.W.Frag) : Bool := famAll K "DealError" tab && ((fas.all fun f => f.ok K) && (sysB K && eightT K (He.ga K "NAMES") ["a", "b", "c", "d", "e", "f", "g", "h"]))
abbrev R : PySem.W.OpenRow := PySem.W.OpenLaw.row PySem.Challenge.rw_meetwhere_k02_whole_questions_and_unions
def names : List Str := (["DealError", "BadWidths", "BadQuestion", "BadUnion", "MOST_TABLES", "MOST_COLUMNS", "is_whole", "is_sequence", "is_sequence_of", "check_widths", "GREATEST_VALUE", "is_value", "is_couple", "fault_of_place", "NAMES", "MOST_HEAD", "MOST_ATOMS", "MOST_PAIRS", "MOST_QUESTIONS", "is_name"] : List Str) ++ (["is_term", "_fault_of_atom", "_check_body", "_is_told", "_check_head", "_check_pairs", "check_question", "check_union", "unlike_names", "names_of", "question_values", "_terms_of", "union_values", "head_length", "_law_hand", "_law_mixed", "_law_take", "_law_body", "_law_bound", "_law_first"] : List Str) ++ (["_law_names", "_law_union_values", "_law_rid", "_law_lists", "_law_seq", "_law_int", "_law_is_value", "_law_is_name", "_law_deep", "_law_truth", "_law_loose", "_law_many_widths", "_law_any_value", "_law_no_value", "_law_word", "_law_spoilt", "_law_large_question", "_law_is_bound", "_law_question_due", "_law_checked_question"] : List Str) ++ (["_law_checked_union", "_law_union_due", "_law_bad_question", "_law_same_parts"] : List Str)
abbrev hk : PySem.W.Hook := hookN facts fn lawAt lawV
def ob (s : PySem.W.SharedT) : MyN.AlN := obsNG facts fn lawAt (HandSHeadRun.getT s)
theorem ob_eq (s : PySem.W.SharedT) : ob s = hk.obs s.abs := obsNG_eq (HandSHeadRun.getT_eq s)
end My
set_option Elab.async false
set_option linter.all false
set_option maxRecDepth 100000
set_option maxHeartbeats 0
namespace My
open PySem PySem.Spec PyProof.Rows L2 He MyH MyN
theorem run (w : World) : HandSHeadRun.RunEq R (PySem.W.view R.prog [69]) hk ob 14000 names w := by
  intro os
  kernel_rfl
end My
set_option Elab.async false
set_option linter.all false
set_option maxRecDepth 100000
set_option maxHeartbeats 0
namespace My
open PySem PySem.Spec PyProof.Rows L2 He MyH MyN
section
variable {P : Program} {w : World} {K : PySem.W.Frag} {mg : Str → Option Value} {h : Heap}
theorem law_ok (X : K.In h) (G : h.Ns mainGlobals mg) (c0 : SaysN facts fn lawAt lawV K) : ∃ fd : FuncData, (∀ (s : Shared) (v : Value), BindsTo s fd ⟨[v], []⟩ [("_law_script", v)]) ∧ ∀ base : Heap, FnG P w K mg base 13 (He.ga K "law") fd ["_law_script"] (spLaw K) := by
  have c := c0.m
  obtain ⟨fdL, FL⟩ := c.def_ 51 (d := dF "law" 69) rfl
  have EL : L2.Fun K "law" "law" (topS 69) (He.ga K "law") fdL := fun_of FL
  have bL := FunD.bindsA (ps := ["_law_script"]) (x := "law") (qual := "law") (params := defArgs (topS 69)) (body := defBody (topS 69)) (scope := defScope (topS 69)) (kws := []) (f := He.ga K "law") FL fun _ _ _ _ _ _ us hl => match us, hl with | [_], _ => rfl
  refine ⟨fdL, fun s v => bL s [v] rfl, fun base => ?_⟩
  obtain ⟨hf, hx⟩ := ba (show (famAll K "DealError" tab && ((fas.all fun f => f.ok K) && (sysB K && eightT K (He.ga K "NAMES") ["a", "b", "c", "d", "e", "f", "g", "h"]))) = true from c.fact)
  obtain ⟨hfa, hx⟩ := ba hx
  obtain ⟨hsy, h8⟩ := ba hx
  have fm := fam_ok hf
  have sys : SysOk K := sysB_ok hsy
  have hNA : ∀ H : Hp, SqT K H (He.ga K "NAMES") (eight.map V.str) := fun H => eightT_ok h8 (by decide) H
  have fa : ∀ (i : Nat) {f : Fa}, fas[i]? = some f → f.ok K = true := fun i f e => List.all_eq_true.mp hfa f (List.mem_of_getElem? e)
  have gNA : mg "NAMES" = some (.ref (He.ga K "NAMES")) := glo_ok X G (fa 76 (f := .glo "NAMES") rfl)
  have m_int : mg "int" = none := free_ok X G (fa 0 (f := .free "int") rfl)
  have m_len : mg "len" = none := free_ok X G (fa 1 (f := .free "len") rfl)
  have m_abs : mg "abs" = none := free_ok X G (fa 2 (f := .free "abs") rfl)
  have m_isinstance : mg "isinstance" = none := free_ok X G (fa 3 (f := .free "isinstance") rfl)
  have m_list : mg "list" = none := free_ok X G (fa 4 (f := .free "list") rfl)
  have m_tuple : mg "tuple" = none := free_ok X G (fa 5 (f := .free "tuple") rfl)
  have m_range : mg "range" = none := free_ok X G (fa 6 (f := .free "range") rfl)
  have m_ValueError : mg "ValueError" = none := free_ok X G (fa 7 (f := .free "ValueError") rfl)
  have m_all : mg "all" = none := free_ok X G (fa 8 (f := .free "all") rfl)
  have m_enumerate : mg "enumerate" = none := free_ok X G (fa 9 (f := .free "enumerate") rfl)
  have m_bool : mg "bool" = none := free_ok X G (fa 10 (f := .free "bool") rfl)
  have m_str : mg "str" = none := free_ok X G (fa 11 (f := .free "str") rfl)
  have m_sorted : mg "sorted" = none := free_ok X G (fa 12 (f := .free "sorted") rfl)
  have m_set : mg "set" = none := free_ok X G (fa 13 (f := .free "set") rfl)
  have m_repr : mg "repr" = none := free_ok X G (fa 14 (f := .free "repr") rfl)
  have m_min : mg "min" = none := free_ok X G (fa 15 (f := .free "min") rfl)
  have i_GREATEST_VALUE : ∃ u, mg "GREATEST_VALUE" = some u ∧ RelV (.int 1000000000) u := (int_ok X G (fa 16 (f := .int "GREATEST_VALUE" 1000000000) rfl)).elim fun z e => ⟨_, e, z, rfl⟩
  have i_MOST_TABLES : ∃ u, mg "MOST_TABLES" = some u ∧ RelV (.int 6) u := (int_ok X G (fa 17 (f := .int "MOST_TABLES" 6) rfl)).elim fun z e => ⟨_, e, z, rfl⟩
  have i_MOST_COLUMNS : ∃ u, mg "MOST_COLUMNS" = some u ∧ RelV (.int 3) u := (int_ok X G (fa 18 (f := .int "MOST_COLUMNS" 3) rfl)).elim fun z e => ⟨_, e, z, rfl⟩
  have i_MOST_ATOMS : ∃ u, mg "MOST_ATOMS" = some u ∧ RelV (.int 8) u := (int_ok X G (fa 19 (f := .int "MOST_ATOMS" 8) rfl)).elim fun z e => ⟨_, e, z, rfl⟩
  have i_MOST_HEAD : ∃ u, mg "MOST_HEAD" = some u ∧ RelV (.int 3) u := (int_ok X G (fa 20 (f := .int "MOST_HEAD" 3) rfl)).elim fun z e => ⟨_, e, z, rfl⟩
  have i_MOST_PAIRS : ∃ u, mg "MOST_PAIRS" = some u ∧ RelV (.int 8) u := (int_ok X G (fa 21 (f := .int "MOST_PAIRS" 8) rfl)).elim fun z e => ⟨_, e, z, rfl⟩
  have i_MOST_QUESTIONS : ∃ u, mg "MOST_QUESTIONS" = some u ∧ RelV (.int 6) u := (int_ok X G (fa 22 (f := .int "MOST_QUESTIONS" 6) rfl)).elim fun z e => ⟨_, e, z, rfl⟩
  have g_DealError : mg "DealError" = some (.ref (He.ga K "DealError")) := PySem.W.mg_of X G fm.de.glo
  have X0 := fm.ex (i := 0) rfl
  have g_BadWidths : mg "BadWidths" = some (.ref (He.ga K "BadWidths")) := PySem.W.mg_of X G X0.glo
  have X1 := fm.ex (i := 1) rfl
  have g_BadQuestion : mg "BadQuestion" = some (.ref (He.ga K "BadQuestion")) := PySem.W.mg_of X G X1.glo
  have X2 := fm.ex (i := 2) rfl
  have g_BadUnion : mg "BadUnion" = some (.ref (He.ga K "BadUnion")) := PySem.W.mg_of X G X2.glo
  obtain ⟨fdD, FD⟩ := c.def_ 53 (d := dC "DealError" "DealError.__init__" "__init__" 1 0 [.str ""]) rfl
  have FD2 : FunD K "__init__" "DealError.__init__" (defArgs (inClass (topS 1) 0)) (defBody (inClass (topS 1) 0)) (defScope (inClass (topS 1) 0)) [.str ""] [] (ma K (He.ga K "DealError") "__init__") fdD := FD
  obtain ⟨ds, vds, bD⟩ := FD2.binds1 (ps := ["self", "message"]) 2 1 (by simp) rfl (fun T kV doc pm an cdv ct us its hl hi => match us, its, hl, hi with | [_, _], [_], _, _ => ⟨_, rfl, rfl⟩)
  have eds : ds = [] := by
    cases vds
    rfl
  subst eds
  have D : DEf P w K mg base := ⟨⟨He.ga K "DealError", _, fdD, _, .type "type", fm.de.rd, fm.de.fc, ok_DE FD2 m_ValueError fm.de.vV, FD2.kp, bD, g_DealError⟩⟩
  obtain ⟨fdI0, FI0⟩ := c.def_ 54 (d := dC "BadWidths" "BadWidths.__init__" "__init__" 2 0 []) rfl
  have EI0 : L2.Fun K "__init__" "BadWidths.__init__" (inClass (topS 2) 0) (ma K (He.ga K "BadWidths") "__init__") fdI0 := fun_of FI0
  have T0 : ExT K (He.ga K "BadWidths") := X0.t fm.de
  have R_BadWidths : ErrF P w K mg base "BadWidths" (He.ga K "BadWidths") ["index"] := ⟨T0, ⟨X0.atr, X0.atg, X0.o.exC, T0.dct⟩, X0.nf, g_BadWidths, ⟨_, fdI0, ["self", "index"], ok_BadWidths EI0 D T0 X0.nf, X0.i, X0.ti, FI0.bindsN fun _ _ _ _ _ _ us hl => match us, hl with | [_, _], _ => rfl⟩⟩
  obtain ⟨fdI1, FI1⟩ := c.def_ 55 (d := dC "BadQuestion" "BadQuestion.__init__" "__init__" 3 0 []) rfl
  have EI1 : L2.Fun K "__init__" "BadQuestion.__init__" (inClass (topS 3) 0) (ma K (He.ga K "BadQuestion") "__init__") fdI1 := fun_of FI1
  have T1 : ExT K (He.ga K "BadQuestion") := X1.t fm.de
  have R_BadQuestion : ErrF P w K mg base "BadQuestion" (He.ga K "BadQuestion") ["what", "index"] := ⟨T1, ⟨X1.atr, X1.atg, X1.o.exC, T1.dct⟩, X1.nf, g_BadQuestion, ⟨_, fdI1, ["self", "what", "index"], ok_BadQuestion EI1 D T1 X1.nf, X1.i, X1.ti, FI1.bindsN fun _ _ _ _ _ _ us hl => match us, hl with | [_, _, _], _ => rfl⟩⟩
  obtain ⟨fdI2, FI2⟩ := c.def_ 56 (d := dC "BadUnion" "BadUnion.__init__" "__init__" 4 0 []) rfl
  have EI2 : L2.Fun K "__init__" "BadUnion.__init__" (inClass (topS 4) 0) (ma K (He.ga K "BadUnion") "__init__") fdI2 := fun_of FI2
  have T2 : ExT K (He.ga K "BadUnion") := X2.t fm.de
  have R_BadUnion : ErrF P w K mg base "BadUnion" (He.ga K "BadUnion") ["what", "index"] := ⟨T2, ⟨X2.atr, X2.atg, X2.o.exC, T2.dct⟩, X2.nf, g_BadUnion, ⟨_, fdI2, ["self", "what", "index"], ok_BadUnion EI2 D T2 X2.nf, X2.i, X2.ti, FI2.bindsN fun _ _ _ _ _ _ us hl => match us, hl with | [_, _, _], _ => rfl⟩⟩
  have h_BQ_BQ : Caught K (He.ga K "BadQuestion") (He.ga K "BadQuestion") true := exm_ok (fa 77 (f := .exm "BadQuestion" "BadQuestion" true) rfl)
  have h_BU_BQ : Caught K (He.ga K "BadUnion") (He.ga K "BadQuestion") false := exm_ok (fa 78 (f := .exm "BadUnion" "BadQuestion" false) rfl)
  have h_BU_BU : Caught K (He.ga K "BadUnion") (He.ga K "BadUnion") true := exm_ok (fa 79 (f := .exm "BadUnion" "BadUnion" true) rfl)
  have h_BW_BQ : Caught K (He.ga K "BadWidths") (He.ga K "BadQuestion") false := exm_ok (fa 80 (f := .exm "BadWidths" "BadQuestion" false) rfl)
  have h_BW_BU : Caught K (He.ga K "BadWidths") (He.ga K "BadUnion") false := exm_ok (fa 81 (f := .exm "BadWidths" "BadUnion" false) rfl)
  have h_BW_BW : Caught K (He.ga K "BadWidths") (He.ga K "BadWidths") true := exm_ok (fa 82 (f := .exm "BadWidths" "BadWidths" true) rfl)
  obtain ⟨fdW, FW⟩ := c.def_ 52 (d := dW "is_whole" 8) rfl
  have FW2 : FunD K "is_whole" "is_whole" (defArgs (topS 8)) (defBody (topS 8)) (defScope (topS 8)) [.non, .non] [] (He.ga K "is_whole") fdW := FW
  obtain ⟨dw, vdw, bW⟩ := FW2.binds1 (ps := ["thing", "low", "high"]) 3 2 (by simp) rfl (fun T kV doc pm an cdv ct us its hl hi => match us, its, hl, hi with | [_, _, _], [_, _], _, _ => ⟨_, rfl, rfl⟩)
  have edw : dw = [] := by
    cases vdw
    rfl
  subst edw
  have g_is_whole : mg "is_whole" = some (.ref (He.ga K "is_whole")) := glo_ok X G (fa 75 (f := .glo "is_whole") rfl)
  have c_is_whole : Cal P w K mg base 1 "is_whole" (spWhole K) := ⟨⟨_, _, _, ok_is_whole FW2 m_isinstance m_int m_bool, g_is_whole, FW2.kp, bW⟩⟩
  obtain ⟨d1, vd1, bW1⟩ := FW2.binds1 (ps := ["thing", "low", "high"]) 1 0 (by simp) rfl (fun T kV doc pm an cdv ct us its hl hi => match us, its, hl, hi with | [_], [_, _], _, _ => ⟨_, rfl, rfl⟩)
  have c1_is_whole : C8.Cal P w K mg base 1 "is_whole" (spWhole K) [.non, .non] := ⟨⟨_, fdW, _, _, ok_is_whole FW2 m_isinstance m_int m_bool, g_is_whole, FW2.kp, bW1, vd1⟩⟩
  obtain ⟨fd_is_sequence, F_is_sequence⟩ := c.def_ 0 (d := dF "is_sequence" 9) rfl
  have E_is_sequence : L2.Fun K "is_sequence" "is_sequence" (topS 9) (He.ga K "is_sequence") fd_is_sequence := fun_of F_is_sequence
  have g_is_sequence : mg "is_sequence" = some (.ref (He.ga K "is_sequence")) := glo_ok X G (fa 23 (f := .glo "is_sequence") rfl)
  have b_is_sequence : Binds K fd_is_sequence ["thing"] [] := F_is_sequence.bindsN fun _ _ _ _ _ _ us hl => match us, hl with | [_], _ => rfl
  have c_is_sequence : Cal P w K mg base 1 "is_sequence" (spSeq K) := ⟨⟨_, _, _, ok_is_sequence E_is_sequence m_isinstance m_list m_tuple, g_is_sequence, E_is_sequence.kp, b_is_sequence⟩⟩
  obtain ⟨fd_is_value, F_is_value⟩ := c.def_ 3 (d := dF "is_value" 14) rfl
  have E_is_value : L2.Fun K "is_value" "is_value" (topS 14) (He.ga K "is_value") fd_is_value := fun_of F_is_value
  have g_is_value : mg "is_value" = some (.ref (He.ga K "is_value")) := glo_ok X G (fa 26 (f := .glo "is_value") rfl)
  have b_is_value : Binds K fd_is_value ["thing"] [] := F_is_value.bindsN fun _ _ _ _ _ _ us hl => match us, hl with | [_], _ => rfl
  have c_is_value : Cal P w K mg base 2 "is_value" (spValue K) := ⟨⟨_, _, _, ok_is_value E_is_value c_is_whole i_GREATEST_VALUE, g_is_value, E_is_value.kp, b_is_value⟩⟩
  obtain ⟨fd_is_sequence_of, F_is_sequence_of⟩ := c.def_ 1 (d := dF "is_sequence_of" 10) rfl
  have E_is_sequence_of : L2.Fun K "is_sequence_of" "is_sequence_of" (topS 10) (He.ga K "is_sequence_of") fd_is_sequence_of := fun_of F_is_sequence_of
  have g_is_sequence_of : mg "is_sequence_of" = some (.ref (He.ga K "is_sequence_of")) := glo_ok X G (fa 24 (f := .glo "is_sequence_of") rfl)
  have b_is_sequence_of : Binds K fd_is_sequence_of ["thing", "low", "high"] [] := F_is_sequence_of.bindsN fun _ _ _ _ _ _ us hl => match us, hl with | [_, _, _], _ => rfl
  have c_is_sequence_of : Cal P w K mg base 2 "is_sequence_of" (spSeqOf K) := ⟨⟨_, _, _, ok_is_sequence_of E_is_sequence_of c_is_sequence m_len, g_is_sequence_of, E_is_sequence_of.kp, b_is_sequence_of⟩⟩
  obtain ⟨fd_is_couple, F_is_couple⟩ := c.def_ 4 (d := dF "is_couple" 15) rfl
  have E_is_couple : L2.Fun K "is_couple" "is_couple" (topS 15) (He.ga K "is_couple") fd_is_couple := fun_of F_is_couple
  have g_is_couple : mg "is_couple" = some (.ref (He.ga K "is_couple")) := glo_ok X G (fa 27 (f := .glo "is_couple") rfl)
  have b_is_couple : Binds K fd_is_couple ["thing"] [] := F_is_couple.bindsN fun _ _ _ _ _ _ us hl => match us, hl with | [_], _ => rfl
  have c_is_couple : Cal P w K mg base 3 "is_couple" (spCouple K) := ⟨⟨_, _, _, ok_is_couple E_is_couple c_is_sequence_of, g_is_couple, E_is_couple.kp, b_is_couple⟩⟩
  obtain ⟨fd_fault_of_place, F_fault_of_place⟩ := c.def_ 5 (d := dF "fault_of_place" 16) rfl
  have E_fault_of_place : L2.Fun K "fault_of_place" "fault_of_place" (topS 16) (He.ga K "fault_of_place") fd_fault_of_place := fun_of F_fault_of_place
  have g_fault_of_place : mg "fault_of_place" = some (.ref (He.ga K "fault_of_place")) := glo_ok X G (fa 28 (f := .glo "fault_of_place") rfl)
  have b_fault_of_place : Binds K fd_fault_of_place ["widths", "thing"] [] := F_fault_of_place.bindsN fun _ _ _ _ _ _ us hl => match us, hl with | [_, _], _ => rfl
  have c_fault_of_place : Cal P w K mg base 4 "fault_of_place" (spPlaceF K) := ⟨⟨_, _, _, ok_fault_of_place E_fault_of_place c_is_couple c_is_sequence c_is_whole c1_is_whole m_len, g_fault_of_place, E_fault_of_place.kp, b_fault_of_place⟩⟩
  obtain ⟨fd_is_name, F_is_name⟩ := c.def_ 6 (d := dF "is_name" 23) rfl
  have E_is_name : L2.Fun K "is_name" "is_name" (topS 23) (He.ga K "is_name") fd_is_name := fun_of F_is_name
  have g_is_name : mg "is_name" = some (.ref (He.ga K "is_name")) := glo_ok X G (fa 29 (f := .glo "is_name") rfl)
  have b_is_name : Binds K fd_is_name ["thing"] [] := F_is_name.bindsN fun _ _ _ _ _ _ us hl => match us, hl with | [_], _ => rfl
  have c_is_name : Cal P w K mg base 1 "is_name" (spName K) := ⟨⟨_, _, _, ok_is_name E_is_name m_isinstance m_str gNA hNA, g_is_name, E_is_name.kp, b_is_name⟩⟩
  obtain ⟨fd_unlike_names, F_unlike_names⟩ := c.def_ 15 (d := dF "unlike_names" 32) rfl
  have E_unlike_names : L2.Fun K "unlike_names" "unlike_names" (topS 32) (He.ga K "unlike_names") fd_unlike_names := fun_of F_unlike_names
  have g_unlike_names : mg "unlike_names" = some (.ref (He.ga K "unlike_names")) := glo_ok X G (fa 38 (f := .glo "unlike_names") rfl)
  have b_unlike_names : Binds K fd_unlike_names ["terms"] [] := F_unlike_names.bindsN fun _ _ _ _ _ _ us hl => match us, hl with | [_], _ => rfl
  have c_unlike_names : Cal P w K mg base 2 "unlike_names" (spUnl K) := ⟨⟨_, _, _, ok_unlike_names E_unlike_names c_is_name m_list m_tuple, g_unlike_names, E_unlike_names.kp, b_unlike_names⟩⟩
  obtain ⟨fd_names_of, F_names_of⟩ := c.def_ 16 (d := dF "names_of" 33) rfl
  have E_names_of : L2.Fun K "names_of" "names_of" (topS 33) (He.ga K "names_of") fd_names_of := fun_of F_names_of
  have g_names_of : mg "names_of" = some (.ref (He.ga K "names_of")) := glo_ok X G (fa 39 (f := .glo "names_of") rfl)
  have b_names_of : Binds K fd_names_of ["question"] [] := F_names_of.bindsN fun _ _ _ _ _ _ us hl => match us, hl with | [_], _ => rfl
  have c_names_of : Cal P w K mg base 3 "names_of" (spNames K) := ⟨⟨_, _, _, ok_names_of E_names_of c_unlike_names, g_names_of, E_names_of.kp, b_names_of⟩⟩
  obtain ⟨fd_check_widths, F_check_widths⟩ := c.def_ 2 (d := dF "check_widths" 11) rfl
  have E_check_widths : FunD K "check_widths" "check_widths" (defArgs (topS 11)) (defBody (topS 11)) (defScope (topS 11)) [] [] (He.ga K "check_widths") fd_check_widths := F_check_widths
  have g_check_widths : mg "check_widths" = some (.ref (He.ga K "check_widths")) := glo_ok X G (fa 25 (f := .glo "check_widths") rfl)
  have b_check_widths : Binds K fd_check_widths ["widths"] [] := F_check_widths.bindsN fun _ _ _ _ _ _ us hl => match us, hl with | [_], _ => rfl
  have c_check_widths : CalX P w K mg base 4 "check_widths" (spCheckW K (He.ga K "BadWidths")) := ⟨⟨_, _, _, ok_check_widths E_check_widths R_BadWidths c_is_sequence_of c_is_whole i_MOST_TABLES i_MOST_COLUMNS m_enumerate m_tuple, g_check_widths, E_check_widths.kp, b_check_widths⟩⟩
  obtain ⟨fd_is_term, F_is_term⟩ := c.def_ 7 (d := dF "is_term" 24) rfl
  have E_is_term : L2.Fun K "is_term" "is_term" (topS 24) (He.ga K "is_term") fd_is_term := fun_of F_is_term
  have g_is_term : mg "is_term" = some (.ref (He.ga K "is_term")) := glo_ok X G (fa 30 (f := .glo "is_term") rfl)
  have b_is_term : Binds K fd_is_term ["thing"] [] := F_is_term.bindsN fun _ _ _ _ _ _ us hl => match us, hl with | [_], _ => rfl
  have c_is_term : Cal P w K mg base 3 "is_term" (spTerm K) := ⟨⟨_, _, _, ok_is_term E_is_term c_is_name c_is_value, g_is_term, E_is_term.kp, b_is_term⟩⟩
  obtain ⟨fd__fault_of_atom, F__fault_of_atom⟩ := c.def_ 8 (d := dF "_fault_of_atom" 25) rfl
  have E__fault_of_atom : L2.Fun K "_fault_of_atom" "_fault_of_atom" (topS 25) (He.ga K "_fault_of_atom") fd__fault_of_atom := fun_of F__fault_of_atom
  have g__fault_of_atom : mg "_fault_of_atom" = some (.ref (He.ga K "_fault_of_atom")) := glo_ok X G (fa 31 (f := .glo "_fault_of_atom") rfl)
  have b__fault_of_atom : Binds K fd__fault_of_atom ["widths", "atom"] [] := F__fault_of_atom.bindsN fun _ _ _ _ _ _ us hl => match us, hl with | [_, _], _ => rfl
  have c__fault_of_atom : Cal P w K mg base 5 "_fault_of_atom" (spAtomF K) := ⟨⟨_, _, _, ok__fault_of_atom E__fault_of_atom c_fault_of_place c_is_term m_all, g__fault_of_atom, E__fault_of_atom.kp, b__fault_of_atom⟩⟩
  obtain ⟨fd__is_told, F__is_told⟩ := c.def_ 10 (d := dF "_is_told" 27) rfl
  have E__is_told : L2.Fun K "_is_told" "_is_told" (topS 27) (He.ga K "_is_told") fd__is_told := fun_of F__is_told
  have g__is_told : mg "_is_told" = some (.ref (He.ga K "_is_told")) := glo_ok X G (fa 33 (f := .glo "_is_told") rfl)
  have b__is_told : Binds K fd__is_told ["thing", "names"] [] := F__is_told.bindsN fun _ _ _ _ _ _ us hl => match us, hl with | [_, _], _ => rfl
  have c__is_told : Cal P w K mg base 3 "_is_told" (spTold K) := ⟨⟨_, _, _, ok__is_told E__is_told c_is_name c_is_value, g__is_told, E__is_told.kp, b__is_told⟩⟩
  obtain ⟨fd__check_head, F__check_head⟩ := c.def_ 11 (d := dF "_check_head" 28) rfl
  have E__check_head : FunD K "_check_head" "_check_head" (defArgs (topS 28)) (defBody (topS 28)) (defScope (topS 28)) [] [] (He.ga K "_check_head") fd__check_head := F__check_head
  have g__check_head : mg "_check_head" = some (.ref (He.ga K "_check_head")) := glo_ok X G (fa 34 (f := .glo "_check_head") rfl)
  have b__check_head : Binds K fd__check_head ["head", "names"] [] := F__check_head.bindsN fun _ _ _ _ _ _ us hl => match us, hl with | [_, _], _ => rfl
  have c__check_head : CalX P w K mg base 4 "_check_head" (spHeadC (He.ga K "BadQuestion") K) := ⟨⟨_, _, _, ok__check_head E__check_head R_BadQuestion c_is_sequence_of c__is_told i_MOST_HEAD m_enumerate m_tuple, g__check_head, E__check_head.kp, b__check_head⟩⟩
  obtain ⟨fd__check_pairs, F__check_pairs⟩ := c.def_ 12 (d := dF "_check_pairs" 29) rfl
  have E__check_pairs : FunD K "_check_pairs" "_check_pairs" (defArgs (topS 29)) (defBody (topS 29)) (defScope (topS 29)) [] [] (He.ga K "_check_pairs") fd__check_pairs := F__check_pairs
  have g__check_pairs : mg "_check_pairs" = some (.ref (He.ga K "_check_pairs")) := glo_ok X G (fa 35 (f := .glo "_check_pairs") rfl)
  have b__check_pairs : Binds K fd__check_pairs ["pairs", "names"] [] := F__check_pairs.bindsN fun _ _ _ _ _ _ us hl => match us, hl with | [_, _], _ => rfl
  have c__check_pairs : CalX P w K mg base 4 "_check_pairs" (spPairsC (He.ga K "BadQuestion") K) := ⟨⟨_, _, _, ok__check_pairs E__check_pairs R_BadQuestion c_is_sequence_of c_is_couple c__is_told i_MOST_PAIRS m_enumerate m_tuple m_all, g__check_pairs, E__check_pairs.kp, b__check_pairs⟩⟩
  obtain ⟨fd__check_body, F__check_body⟩ := c.def_ 9 (d := dF "_check_body" 26) rfl
  have E__check_body : FunD K "_check_body" "_check_body" (defArgs (topS 26)) (defBody (topS 26)) (defScope (topS 26)) [] [] (He.ga K "_check_body") fd__check_body := F__check_body
  have g__check_body : mg "_check_body" = some (.ref (He.ga K "_check_body")) := glo_ok X G (fa 32 (f := .glo "_check_body") rfl)
  have b__check_body : Binds K fd__check_body ["widths", "body"] [] := F__check_body.bindsN fun _ _ _ _ _ _ us hl => match us, hl with | [_, _], _ => rfl
  have c__check_body : CalX P w K mg base 6 "_check_body" (spBodyC (He.ga K "BadQuestion") K) := ⟨⟨_, _, _, ok__check_body E__check_body R_BadQuestion c_is_sequence_of c__fault_of_atom i_MOST_ATOMS m_enumerate m_tuple, g__check_body, E__check_body.kp, b__check_body⟩⟩
  obtain ⟨fd_check_question, F_check_question⟩ := c.def_ 13 (d := dF "check_question" 30) rfl
  have E_check_question : FunD K "check_question" "check_question" (defArgs (topS 30)) (defBody (topS 30)) (defScope (topS 30)) [] [] (He.ga K "check_question") fd_check_question := F_check_question
  have g_check_question : mg "check_question" = some (.ref (He.ga K "check_question")) := glo_ok X G (fa 36 (f := .glo "check_question") rfl)
  have b_check_question : Binds K fd_check_question ["widths", "question"] [] := F_check_question.bindsN fun _ _ _ _ _ _ us hl => match us, hl with | [_, _], _ => rfl
  have c_check_question : CalX P w K mg base 7 "check_question" (spQuestC (He.ga K "BadWidths") (He.ga K "BadQuestion") K) := ⟨⟨_, _, _, ok_check_question E_check_question R_BadQuestion c_check_widths c_is_sequence_of c__check_body c__check_head c__check_pairs c_names_of, g_check_question, E_check_question.kp, b_check_question⟩⟩
  obtain ⟨fd_head_length, F_head_length⟩ := c.def_ 20 (d := dF "head_length" 37) rfl
  have E_head_length : L2.Fun K "head_length" "head_length" (topS 37) (He.ga K "head_length") fd_head_length := fun_of F_head_length
  have g_head_length : mg "head_length" = some (.ref (He.ga K "head_length")) := glo_ok X G (fa 43 (f := .glo "head_length") rfl)
  have b_head_length : Binds K fd_head_length ["union"] [] := F_head_length.bindsN fun _ _ _ _ _ _ us hl => match us, hl with | [_], _ => rfl
  have c_head_length : Cal P w K mg base 1 "head_length" (spHeadLen K) := ⟨⟨_, _, _, ok_head_length E_head_length m_len, g_head_length, E_head_length.kp, b_head_length⟩⟩
  obtain ⟨fd_check_union, F_check_union⟩ := c.def_ 14 (d := dF "check_union" 31) rfl
  have E_check_union : FunD K "check_union" "check_union" (defArgs (topS 31)) (defBody (topS 31)) (defScope (topS 31)) [] [] (He.ga K "check_union") fd_check_union := F_check_union
  have g_check_union : mg "check_union" = some (.ref (He.ga K "check_union")) := glo_ok X G (fa 37 (f := .glo "check_union") rfl)
  have b_check_union : Binds K fd_check_union ["widths", "union"] [] := F_check_union.bindsN fun _ _ _ _ _ _ us hl => match us, hl with | [_, _], _ => rfl
  have c_check_union : CalX P w K mg base 8 "check_union" (spUnionC (He.ga K "BadWidths") (He.ga K "BadQuestion") (He.ga K "BadUnion") K) := ⟨⟨_, _, _, ok_check_union E_check_union R_BadUnion c_check_widths c_is_sequence_of c_check_question c_head_length i_MOST_QUESTIONS m_tuple m_enumerate m_len, g_check_union, E_check_union.kp, b_check_union⟩⟩
  obtain ⟨fd__terms_of, F__terms_of⟩ := c.def_ 18 (d := dF "_terms_of" 35) rfl
  have E__terms_of : L2.Fun K "_terms_of" "_terms_of" (topS 35) (He.ga K "_terms_of") fd__terms_of := fun_of F__terms_of
  have g__terms_of : mg "_terms_of" = some (.ref (He.ga K "_terms_of")) := glo_ok X G (fa 41 (f := .glo "_terms_of") rfl)
  have b__terms_of : Binds K fd__terms_of ["question"] [] := F__terms_of.bindsN fun _ _ _ _ _ _ us hl => match us, hl with | [_], _ => rfl
  have c__terms_of : Cal P w K mg base 1 "_terms_of" (spTermsOf K) := ⟨⟨_, _, _, ok__terms_of E__terms_of m_list, g__terms_of, E__terms_of.kp, b__terms_of⟩⟩
  obtain ⟨fd_union_values, F_union_values⟩ := c.def_ 19 (d := dF "union_values" 36) rfl
  have E_union_values : L2.Fun K "union_values" "union_values" (topS 36) (He.ga K "union_values") fd_union_values := fun_of F_union_values
  have g_union_values : mg "union_values" = some (.ref (He.ga K "union_values")) := glo_ok X G (fa 42 (f := .glo "union_values") rfl)
  have b_union_values : Binds K fd_union_values ["union"] [] := F_union_values.bindsN fun _ _ _ _ _ _ us hl => match us, hl with | [_], _ => rfl
  have c_union_values : Cal P w K mg base 2 "union_values" (spUVals K) := ⟨⟨_, _, _, ok_union_values E_union_values c__terms_of c_is_name m_sorted m_tuple, g_union_values, E_union_values.kp, b_union_values⟩⟩
  obtain ⟨fd_question_values, F_question_values⟩ := c.def_ 17 (d := dF "question_values" 34) rfl
  have E_question_values : L2.Fun K "question_values" "question_values" (topS 34) (He.ga K "question_values") fd_question_values := fun_of F_question_values
  have g_question_values : mg "question_values" = some (.ref (He.ga K "question_values")) := glo_ok X G (fa 40 (f := .glo "question_values") rfl)
  have b_question_values : Binds K fd_question_values ["question"] [] := F_question_values.bindsN fun _ _ _ _ _ _ us hl => match us, hl with | [_], _ => rfl
  have c_question_values : Cal P w K mg base 3 "question_values" (spQVals K) := ⟨⟨_, _, _, ok_question_values E_question_values c_union_values, g_question_values, E_question_values.kp, b_question_values⟩⟩
  obtain ⟨fd__law_mixed, F__law_mixed⟩ := c.def_ 22 (d := dF "_law_mixed" 40) rfl
  have E__law_mixed : L2.Fun K "_law_mixed" "_law_mixed" (topS 40) (He.ga K "_law_mixed") fd__law_mixed := fun_of F__law_mixed
  have g__law_mixed : mg "_law_mixed" = some (.ref (He.ga K "_law_mixed")) := glo_ok X G (fa 45 (f := .glo "_law_mixed") rfl)
  have b__law_mixed : Binds K fd__law_mixed ["_law_number", "_law_turn"] [] := F__law_mixed.bindsN fun _ _ _ _ _ _ us hl => match us, hl with | [_, _], _ => rfl
  have c__law_mixed : Cal P w K mg base 1 "_law_mixed" (spMix 2147483648) := ⟨⟨_, _, _, ok_mixed E__law_mixed m_int, g__law_mixed, E__law_mixed.kp, b__law_mixed⟩⟩
  obtain ⟨fd__law_take, F__law_take⟩ := c.def_ 23 (d := dF "_law_take" 41) rfl
  have E__law_take : L2.Fun K "_law_take" "_law_take" (topS 41) (He.ga K "_law_take") fd__law_take := fun_of F__law_take
  have g__law_take : mg "_law_take" = some (.ref (He.ga K "_law_take")) := glo_ok X G (fa 46 (f := .glo "_law_take") rfl)
  have b__law_take : Binds K fd__law_take ["_law_hand_here", "_law_many"] [] := F__law_take.bindsN fun _ _ _ _ _ _ us hl => match us, hl with | [_, _], _ => rfl
  have c__law_take : Cal P w K mg base 2 "_law_take" (spDraw MO) := ⟨⟨_, _, _, ok_take E__law_take m_int m_len c__law_mixed, g__law_take, E__law_take.kp, b__law_take⟩⟩
  obtain ⟨fd__law_hand, F__law_hand⟩ := c.def_ 21 (d := dF "_law_hand" 39) rfl
  have E__law_hand : L2.Fun K "_law_hand" "_law_hand" (topS 39) (He.ga K "_law_hand") fd__law_hand := fun_of F__law_hand
  have g__law_hand : mg "_law_hand" = some (.ref (He.ga K "_law_hand")) := glo_ok X G (fa 44 (f := .glo "_law_hand") rfl)
  have b__law_hand : Binds K fd__law_hand ["_law_script"] [] := F__law_hand.bindsN fun _ _ _ _ _ _ us hl => match us, hl with | [_], _ => rfl
  have c__law_hand : Cal P w K mg base 1 "_law_hand" (spHand MO K) := ⟨⟨_, _, _, ok_hand E__law_hand m_int m_len m_abs, g__law_hand, E__law_hand.kp, b__law_hand⟩⟩
  obtain ⟨fd__law_seq, F__law_seq⟩ := c.def_ 31 (d := dF "_law_seq" 49) rfl
  have E__law_seq : L2.Fun K "_law_seq" "_law_seq" (topS 49) (He.ga K "_law_seq") fd__law_seq := fun_of F__law_seq
  have g__law_seq : mg "_law_seq" = some (.ref (He.ga K "_law_seq")) := glo_ok X G (fa 54 (f := .glo "_law_seq") rfl)
  have b__law_seq : Binds K fd__law_seq ["_law_thing"] [] := F__law_seq.bindsN fun _ _ _ _ _ _ us hl => match us, hl with | [_], _ => rfl
  have c__law_seq : Cal P w K mg base 1 "_law_seq" (spLSeq K) := ⟨⟨_, _, _, ok__law_seq E__law_seq m_isinstance m_list m_tuple, g__law_seq, E__law_seq.kp, b__law_seq⟩⟩
  obtain ⟨fd__law_int, F__law_int⟩ := c.def_ 32 (d := dF "_law_int" 50) rfl
  have E__law_int : L2.Fun K "_law_int" "_law_int" (topS 50) (He.ga K "_law_int") fd__law_int := fun_of F__law_int
  have g__law_int : mg "_law_int" = some (.ref (He.ga K "_law_int")) := glo_ok X G (fa 55 (f := .glo "_law_int") rfl)
  have b__law_int : Binds K fd__law_int ["_law_thing"] [] := F__law_int.bindsN fun _ _ _ _ _ _ us hl => match us, hl with | [_], _ => rfl
  have c__law_int : Cal P w K mg base 1 "_law_int" (spLInt K) := ⟨⟨_, _, _, ok__law_int E__law_int m_isinstance m_int m_bool, g__law_int, E__law_int.kp, b__law_int⟩⟩
  obtain ⟨fd__law_is_value, F__law_is_value⟩ := c.def_ 33 (d := dF "_law_is_value" 51) rfl
  have E__law_is_value : L2.Fun K "_law_is_value" "_law_is_value" (topS 51) (He.ga K "_law_is_value") fd__law_is_value := fun_of F__law_is_value
  have g__law_is_value : mg "_law_is_value" = some (.ref (He.ga K "_law_is_value")) := glo_ok X G (fa 56 (f := .glo "_law_is_value") rfl)
  have b__law_is_value : Binds K fd__law_is_value ["_law_thing"] [] := F__law_is_value.bindsN fun _ _ _ _ _ _ us hl => match us, hl with | [_], _ => rfl
  have c__law_is_value : Cal P w K mg base 2 "_law_is_value" (spLVal K) := ⟨⟨_, _, _, ok__law_is_value E__law_is_value c__law_int, g__law_is_value, E__law_is_value.kp, b__law_is_value⟩⟩
  obtain ⟨fd__law_is_name, F__law_is_name⟩ := c.def_ 34 (d := dF "_law_is_name" 52) rfl
  have E__law_is_name : L2.Fun K "_law_is_name" "_law_is_name" (topS 52) (He.ga K "_law_is_name") fd__law_is_name := fun_of F__law_is_name
  have g__law_is_name : mg "_law_is_name" = some (.ref (He.ga K "_law_is_name")) := glo_ok X G (fa 57 (f := .glo "_law_is_name") rfl)
  have b__law_is_name : Binds K fd__law_is_name ["_law_thing"] [] := F__law_is_name.bindsN fun _ _ _ _ _ _ us hl => match us, hl with | [_], _ => rfl
  have c__law_is_name : Cal P w K mg base 1 "_law_is_name" (spLName K) := ⟨⟨_, _, _, ok__law_is_name E__law_is_name m_isinstance m_str, g__law_is_name, E__law_is_name.kp, b__law_is_name⟩⟩
  obtain ⟨fd__law_truth, F__law_truth⟩ := c.def_ 36 (d := dF "_law_truth" 54) rfl
  have E__law_truth : L2.Fun K "_law_truth" "_law_truth" (topS 54) (He.ga K "_law_truth") fd__law_truth := fun_of F__law_truth
  have g__law_truth : mg "_law_truth" = some (.ref (He.ga K "_law_truth")) := glo_ok X G (fa 59 (f := .glo "_law_truth") rfl)
  have b__law_truth : Binds K fd__law_truth ["_law_told", "_law_due"] [] := F__law_truth.bindsN fun _ _ _ _ _ _ us hl => match us, hl with | [_, _], _ => rfl
  have c__law_truth : Cal P w K mg base 1 "_law_truth" (spLTruth K) := ⟨⟨_, _, _, ok__law_truth E__law_truth m_isinstance m_bool, g__law_truth, E__law_truth.kp, b__law_truth⟩⟩
  obtain ⟨fd__law_first, F__law_first⟩ := c.def_ 26 (d := dF "_law_first" 44) rfl
  have E__law_first : L2.Fun K "_law_first" "_law_first" (topS 44) (He.ga K "_law_first") fd__law_first := fun_of F__law_first
  have g__law_first : mg "_law_first" = some (.ref (He.ga K "_law_first")) := glo_ok X G (fa 49 (f := .glo "_law_first") rfl)
  have b__law_first : Binds K fd__law_first ["_law_body_here"] [] := F__law_first.bindsN fun _ _ _ _ _ _ us hl => match us, hl with | [_], _ => rfl
  have c__law_first : Cal P w K mg base 1 "_law_first" (spFirst K) := ⟨⟨_, _, _, ok__law_first E__law_first m_isinstance m_str, g__law_first, E__law_first.kp, b__law_first⟩⟩
  obtain ⟨fd__law_names, F__law_names⟩ := c.def_ 27 (d := dF "_law_names" 45) rfl
  have E__law_names : L2.Fun K "_law_names" "_law_names" (topS 45) (He.ga K "_law_names") fd__law_names := fun_of F__law_names
  have g__law_names : mg "_law_names" = some (.ref (He.ga K "_law_names")) := glo_ok X G (fa 50 (f := .glo "_law_names") rfl)
  have b__law_names : Binds K fd__law_names ["_law_question"] [] := F__law_names.bindsN fun _ _ _ _ _ _ us hl => match us, hl with | [_], _ => rfl
  have c__law_names : Cal P w K mg base 2 "_law_names" (spLNames K) := ⟨⟨_, _, _, ok__law_names E__law_names c__law_first, g__law_names, E__law_names.kp, b__law_names⟩⟩
  obtain ⟨fd__law_deep, F__law_deep⟩ := c.def_ 35 (d := dF "_law_deep" 53) rfl
  have E__law_deep : L2.Fun K "_law_deep" "_law_deep" (topS 53) (He.ga K "_law_deep") fd__law_deep := fun_of F__law_deep
  have g__law_deep : mg "_law_deep" = some (.ref (He.ga K "_law_deep")) := glo_ok X G (fa 58 (f := .glo "_law_deep") rfl)
  have b__law_deep : Binds K fd__law_deep ["_law_thing"] [] := F__law_deep.bindsN fun _ _ _ _ _ _ us hl => match us, hl with | [_], _ => rfl
  have c__law_deep : ∀ n : Nat, Cal P w K mg base (n + 2) "_law_deep" (spDeep K n) := fun n => ⟨⟨_, _, _, ok__law_deep E__law_deep g__law_deep b__law_deep c__law_seq m_tuple n, g__law_deep, E__law_deep.kp, b__law_deep⟩⟩
  obtain ⟨fd__law_word, F__law_word⟩ := c.def_ 41 (d := dF "_law_word" 59) rfl
  have E__law_word : L2.Fun K "_law_word" "_law_word" (topS 59) (He.ga K "_law_word") fd__law_word := fun_of F__law_word
  have g__law_word : mg "_law_word" = some (.ref (He.ga K "_law_word")) := glo_ok X G (fa 64 (f := .glo "_law_word") rfl)
  have b__law_word : Binds K fd__law_word ["_law_widths", "_law_thing", "_law_first_here", "_law_last"] [] := F__law_word.bindsN fun _ _ _ _ _ _ us hl => match us, hl with | [_, _, _, _], _ => rfl
  have c__law_word : Cal P w K mg base 3 "_law_word" (spWord K) := ⟨⟨_, _, _, ok__law_word E__law_word c__law_seq c__law_int c__law_is_value c__law_is_name m_len, g__law_word, E__law_word.kp, b__law_word⟩⟩
  obtain ⟨fd__law_is_bound, F__law_is_bound⟩ := c.def_ 44 (d := dF "_law_is_bound" 62) rfl
  have E__law_is_bound : L2.Fun K "_law_is_bound" "_law_is_bound" (topS 62) (He.ga K "_law_is_bound") fd__law_is_bound := fun_of F__law_is_bound
  have g__law_is_bound : mg "_law_is_bound" = some (.ref (He.ga K "_law_is_bound")) := glo_ok X G (fa 67 (f := .glo "_law_is_bound") rfl)
  have b__law_is_bound : Binds K fd__law_is_bound ["_law_term", "_law_names_here"] [] := F__law_is_bound.bindsN fun _ _ _ _ _ _ us hl => match us, hl with | [_, _], _ => rfl
  have c__law_is_bound : Cal P w K mg base 3 "_law_is_bound" (spBnd K) := ⟨⟨_, _, _, ok__law_is_bound E__law_is_bound c__law_is_value c__law_is_name, g__law_is_bound, E__law_is_bound.kp, b__law_is_bound⟩⟩
  obtain ⟨fd__law_question_due, F__law_question_due⟩ := c.def_ 45 (d := dF "_law_question_due" 63) rfl
  have E__law_question_due : L2.Fun K "_law_question_due" "_law_question_due" (topS 63) (He.ga K "_law_question_due") fd__law_question_due := fun_of F__law_question_due
  have g__law_question_due : mg "_law_question_due" = some (.ref (He.ga K "_law_question_due")) := glo_ok X G (fa 68 (f := .glo "_law_question_due") rfl)
  have b__law_question_due : Binds K fd__law_question_due ["_law_widths", "_law_thing"] [] := F__law_question_due.bindsN fun _ _ _ _ _ _ us hl => match us, hl with | [_, _], _ => rfl
  have c__law_question_due : Cal P w K mg base 11 "_law_question_due" (spQDue K) := ⟨⟨_, _, _, ok__law_question_due E__law_question_due c__law_seq c__law_word c__law_first c__law_is_bound (c__law_deep 8) m_len m_range, g__law_question_due, E__law_question_due.kp, b__law_question_due⟩⟩
  obtain ⟨fd__law_checked_question, F__law_checked_question⟩ := c.def_ 46 (d := dF "_law_checked_question" 64) rfl
  have E__law_checked_question : L2.Fun K "_law_checked_question" "_law_checked_question" (topS 64) (He.ga K "_law_checked_question") fd__law_checked_question := fun_of F__law_checked_question
  have g__law_checked_question : mg "_law_checked_question" = some (.ref (He.ga K "_law_checked_question")) := glo_ok X G (fa 69 (f := .glo "_law_checked_question") rfl)
  have b__law_checked_question : Binds K fd__law_checked_question ["_law_widths", "_law_question"] [] := F__law_checked_question.bindsN fun _ _ _ _ _ _ us hl => match us, hl with | [_, _], _ => rfl
  have c__law_checked_question : Cal P w K mg base 8 "_law_checked_question" (spChkQ K) := ⟨⟨_, _, _, ok__law_checked_question E__law_checked_question c_check_question R_BadQuestion R_BadWidths h_BQ_BQ h_BW_BQ h_BW_BW, g__law_checked_question, E__law_checked_question.kp, b__law_checked_question⟩⟩
  obtain ⟨fd__law_checked_union, F__law_checked_union⟩ := c.def_ 47 (d := dF "_law_checked_union" 65) rfl
  have E__law_checked_union : L2.Fun K "_law_checked_union" "_law_checked_union" (topS 65) (He.ga K "_law_checked_union") fd__law_checked_union := fun_of F__law_checked_union
  have g__law_checked_union : mg "_law_checked_union" = some (.ref (He.ga K "_law_checked_union")) := glo_ok X G (fa 70 (f := .glo "_law_checked_union") rfl)
  have b__law_checked_union : Binds K fd__law_checked_union ["_law_widths", "_law_union"] [] := F__law_checked_union.bindsN fun _ _ _ _ _ _ us hl => match us, hl with | [_, _], _ => rfl
  have c__law_checked_union : Cal P w K mg base 9 "_law_checked_union" (spChkU K) := ⟨⟨_, _, _, ok__law_checked_union E__law_checked_union c_check_union R_BadQuestion R_BadUnion R_BadWidths h_BQ_BQ h_BU_BQ h_BU_BU h_BW_BQ h_BW_BU h_BW_BW, g__law_checked_union, E__law_checked_union.kp, b__law_checked_union⟩⟩
  obtain ⟨fd__law_union_due, F__law_union_due⟩ := c.def_ 48 (d := dF "_law_union_due" 66) rfl
  have E__law_union_due : L2.Fun K "_law_union_due" "_law_union_due" (topS 66) (He.ga K "_law_union_due") fd__law_union_due := fun_of F__law_union_due
  have g__law_union_due : mg "_law_union_due" = some (.ref (He.ga K "_law_union_due")) := glo_ok X G (fa 71 (f := .glo "_law_union_due") rfl)
  have b__law_union_due : Binds K fd__law_union_due ["_law_widths", "_law_union"] [] := F__law_union_due.bindsN fun _ _ _ _ _ _ us hl => match us, hl with | [_, _], _ => rfl
  have c__law_union_due : Cal P w K mg base 12 "_law_union_due" (spUDue K) := ⟨⟨_, _, _, ok__law_union_due E__law_union_due c__law_seq c__law_question_due m_len m_range m_list m_tuple m_isinstance, g__law_union_due, E__law_union_due.kp, b__law_union_due⟩⟩
  obtain ⟨fd__law_union_values, F__law_union_values⟩ := c.def_ 28 (d := dF "_law_union_values" 46) rfl
  have E__law_union_values : L2.Fun K "_law_union_values" "_law_union_values" (topS 46) (He.ga K "_law_union_values") fd__law_union_values := fun_of F__law_union_values
  have g__law_union_values : mg "_law_union_values" = some (.ref (He.ga K "_law_union_values")) := glo_ok X G (fa 51 (f := .glo "_law_union_values") rfl)
  have b__law_union_values : Binds K fd__law_union_values ["_law_union"] [] := F__law_union_values.bindsN fun _ _ _ _ _ _ us hl => match us, hl with | [_], _ => rfl
  have c__law_union_values : Cal P w K mg base 1 "_law_union_values" (spLUVals K) := ⟨⟨_, _, _, ok__law_union_values E__law_union_values m_list m_isinstance m_str m_sorted m_set, g__law_union_values, E__law_union_values.kp, b__law_union_values⟩⟩
  obtain ⟨fd__law_same_parts, F__law_same_parts⟩ := c.def_ 50 (d := dF "_law_same_parts" 68) rfl
  have E__law_same_parts : L2.Fun K "_law_same_parts" "_law_same_parts" (topS 68) (He.ga K "_law_same_parts") fd__law_same_parts := fun_of F__law_same_parts
  have g__law_same_parts : mg "_law_same_parts" = some (.ref (He.ga K "_law_same_parts")) := glo_ok X G (fa 73 (f := .glo "_law_same_parts") rfl)
  have b__law_same_parts : Binds K fd__law_same_parts ["_law_due"] [] := F__law_same_parts.bindsN fun _ _ _ _ _ _ us hl => match us, hl with | [_], _ => rfl
  have c__law_same_parts : CalG P w K mg base 4 "_law_same_parts" (spSame K) := ⟨⟨_, _, _, ok__law_same_parts E__law_same_parts sys c_names_of c_question_values c__law_names c__law_union_values m_tuple m_repr, g__law_same_parts, E__law_same_parts.kp, b__law_same_parts⟩⟩
  obtain ⟨fd__law_any_value, F__law_any_value⟩ := c.def_ 39 (d := dF "_law_any_value" 57) rfl
  have E__law_any_value : L2.Fun K "_law_any_value" "_law_any_value" (topS 57) (He.ga K "_law_any_value") fd__law_any_value := fun_of F__law_any_value
  have g__law_any_value : mg "_law_any_value" = some (.ref (He.ga K "_law_any_value")) := glo_ok X G (fa 62 (f := .glo "_law_any_value") rfl)
  have b__law_any_value : Binds K fd__law_any_value ["_law_hand_here"] [] := F__law_any_value.bindsN fun _ _ _ _ _ _ us hl => match us, hl with | [_], _ => rfl
  have c__law_any_value : Cal P w K mg base 3 "_law_any_value" (spAny K) := ⟨⟨_, _, _, ok__law_any_value E__law_any_value c__law_take, g__law_any_value, E__law_any_value.kp, b__law_any_value⟩⟩
  obtain ⟨fd__law_no_value, F__law_no_value⟩ := c.def_ 40 (d := dF "_law_no_value" 58) rfl
  have E__law_no_value : L2.Fun K "_law_no_value" "_law_no_value" (topS 58) (He.ga K "_law_no_value") fd__law_no_value := fun_of F__law_no_value
  have g__law_no_value : mg "_law_no_value" = some (.ref (He.ga K "_law_no_value")) := glo_ok X G (fa 63 (f := .glo "_law_no_value") rfl)
  have b__law_no_value : Binds K fd__law_no_value ["_law_hand_here"] [] := F__law_no_value.bindsN fun _ _ _ _ _ _ us hl => match us, hl with | [_], _ => rfl
  have c__law_no_value : Cal P w K mg base 3 "_law_no_value" (spNoVal K) := ⟨⟨_, _, _, ok__law_no_value E__law_no_value c__law_take, g__law_no_value, E__law_no_value.kp, b__law_no_value⟩⟩
  obtain ⟨fd__law_rid, F__law_rid⟩ := c.def_ 29 (d := dF "_law_rid" 47) rfl
  have E__law_rid : L2.Fun K "_law_rid" "_law_rid" (topS 47) (He.ga K "_law_rid") fd__law_rid := fun_of F__law_rid
  have g__law_rid : mg "_law_rid" = some (.ref (He.ga K "_law_rid")) := glo_ok X G (fa 52 (f := .glo "_law_rid") rfl)
  have b__law_rid : Binds K fd__law_rid ["_law_hand_here"] [] := F__law_rid.bindsN fun _ _ _ _ _ _ us hl => match us, hl with | [_], _ => rfl
  have c__law_rid : Cal P w K mg base 3 "_law_rid" (spRid K) := ⟨⟨_, _, _, ok__law_rid E__law_rid c__law_take, g__law_rid, E__law_rid.kp, b__law_rid⟩⟩
  obtain ⟨fd__law_lists, F__law_lists⟩ := c.def_ 30 (d := dF "_law_lists" 48) rfl
  have E__law_lists : L2.Fun K "_law_lists" "_law_lists" (topS 48) (He.ga K "_law_lists") fd__law_lists := fun_of F__law_lists
  have g__law_lists : mg "_law_lists" = some (.ref (He.ga K "_law_lists")) := glo_ok X G (fa 53 (f := .glo "_law_lists") rfl)
  have b__law_lists : Binds K fd__law_lists ["_law_hand_here", "_law_thing"] [] := F__law_lists.bindsN fun _ _ _ _ _ _ us hl => match us, hl with | [_, _], _ => rfl
  have c__law_lists : Cal P w K mg base 3 "_law_lists" (spLists K) := ⟨⟨_, _, _, ok__law_lists E__law_lists c__law_take m_list m_tuple, g__law_lists, E__law_lists.kp, b__law_lists⟩⟩
  obtain ⟨fd__law_many_widths, F__law_many_widths⟩ := c.def_ 38 (d := dF "_law_many_widths" 56) rfl
  have E__law_many_widths : L2.Fun K "_law_many_widths" "_law_many_widths" (topS 56) (He.ga K "_law_many_widths") fd__law_many_widths := fun_of F__law_many_widths
  have g__law_many_widths : mg "_law_many_widths" = some (.ref (He.ga K "_law_many_widths")) := glo_ok X G (fa 61 (f := .glo "_law_many_widths") rfl)
  have b__law_many_widths : Binds K fd__law_many_widths ["_law_hand_here"] [] := F__law_many_widths.bindsN fun _ _ _ _ _ _ us hl => match us, hl with | [_], _ => rfl
  have c__law_many_widths : Cal P w K mg base 3 "_law_many_widths" (spWidths K) := ⟨⟨_, _, _, ok__law_many_widths E__law_many_widths c__law_take m_range, g__law_many_widths, E__law_many_widths.kp, b__law_many_widths⟩⟩
  obtain ⟨fd__law_bound, F__law_bound⟩ := c.def_ 25 (d := dF "_law_bound" 43) rfl
  have E__law_bound : L2.Fun K "_law_bound" "_law_bound" (topS 43) (He.ga K "_law_bound") fd__law_bound := fun_of F__law_bound
  have g__law_bound : mg "_law_bound" = some (.ref (He.ga K "_law_bound")) := glo_ok X G (fa 48 (f := .glo "_law_bound") rfl)
  have b__law_bound : Binds K fd__law_bound ["_law_hand_here", "_law_body_here", "_law_values"] [] := F__law_bound.bindsN fun _ _ _ _ _ _ us hl => match us, hl with | [_, _, _], _ => rfl
  have c__law_bound : Cal P w K mg base 3 "_law_bound" (spBound K) := ⟨⟨_, _, _, ok__law_bound E__law_bound c__law_take c__law_first m_len, g__law_bound, E__law_bound.kp, b__law_bound⟩⟩
  obtain ⟨fd__law_body, F__law_body⟩ := c.def_ 24 (d := dF "_law_body" 42) rfl
  have E__law_body : L2.Fun K "_law_body" "_law_body" (topS 42) (He.ga K "_law_body") fd__law_body := fun_of F__law_body
  have g__law_body : mg "_law_body" = some (.ref (He.ga K "_law_body")) := glo_ok X G (fa 47 (f := .glo "_law_body") rfl)
  have b__law_body : Binds K fd__law_body ["_law_hand_here", "_law_widths", "_law_atoms", "_law_names_here", "_law_values"] [] := F__law_body.bindsN fun _ _ _ _ _ _ us hl => match us, hl with | [_, _, _, _, _], _ => rfl
  have c__law_body : Cal P w K mg base 3 "_law_body" (spBody K) := ⟨⟨_, _, _, ok__law_body E__law_body c__law_take m_len m_range m_tuple, g__law_body, E__law_body.kp, b__law_body⟩⟩
  obtain ⟨fd__law_large_question, F__law_large_question⟩ := c.def_ 43 (d := dF "_law_large_question" 61) rfl
  have E__law_large_question : L2.Fun K "_law_large_question" "_law_large_question" (topS 61) (He.ga K "_law_large_question") fd__law_large_question := fun_of F__law_large_question
  have g__law_large_question : mg "_law_large_question" = some (.ref (He.ga K "_law_large_question")) := glo_ok X G (fa 66 (f := .glo "_law_large_question") rfl)
  have b__law_large_question : Binds K fd__law_large_question ["_law_hand_here", "_law_widths", "_law_length"] [] := F__law_large_question.bindsN fun _ _ _ _ _ _ us hl => match us, hl with | [_, _, _], _ => rfl
  have c__law_large_question : Cal P w K mg base 4 "_law_large_question" (spLarge K) := ⟨⟨_, _, _, ok__law_large_question E__law_large_question c__law_take c__law_any_value c__law_body c__law_bound m_range m_tuple, g__law_large_question, E__law_large_question.kp, b__law_large_question⟩⟩
  obtain ⟨fd__law_loose, F__law_loose⟩ := c.def_ 37 (d := dF "_law_loose" 55) rfl
  have E__law_loose : L2.Fun K "_law_loose" "_law_loose" (topS 55) (He.ga K "_law_loose") fd__law_loose := fun_of F__law_loose
  have g__law_loose : mg "_law_loose" = some (.ref (He.ga K "_law_loose")) := glo_ok X G (fa 60 (f := .glo "_law_loose") rfl)
  have b__law_loose : Binds K fd__law_loose ["_law_hand_here", "_law_thing"] [] := F__law_loose.bindsN fun _ _ _ _ _ _ us hl => match us, hl with | [_, _], _ => rfl
  have c__law_loose : ∀ n : Nat, Cal P w K mg base (n + 3) "_law_loose" (spLoose K n) := fun n => ⟨⟨_, _, _, ok__law_loose E__law_loose g__law_loose b__law_loose c__law_seq c__law_take m_tuple n, g__law_loose, E__law_loose.kp, b__law_loose⟩⟩
  obtain ⟨fd__law_spoilt, F__law_spoilt⟩ := c.def_ 42 (d := dF "_law_spoilt" 60) rfl
  have E__law_spoilt : L2.Fun K "_law_spoilt" "_law_spoilt" (topS 60) (He.ga K "_law_spoilt") fd__law_spoilt := fun_of F__law_spoilt
  have g__law_spoilt : mg "_law_spoilt" = some (.ref (He.ga K "_law_spoilt")) := glo_ok X G (fa 65 (f := .glo "_law_spoilt") rfl)
  have b__law_spoilt : Binds K fd__law_spoilt ["_law_hand_here", "_law_widths", "_law_thing"] [] := F__law_spoilt.bindsN fun _ _ _ _ _ _ us hl => match us, hl with | [_, _, _], _ => rfl
  have c__law_spoilt : Cal P w K mg base 4 "_law_spoilt" (spSpoilt K) := ⟨⟨_, _, _, ok__law_spoilt E__law_spoilt c__law_take c__law_any_value c__law_no_value c__law_rid m_len m_range m_list, g__law_spoilt, E__law_spoilt.kp, b__law_spoilt⟩⟩
  obtain ⟨fd__law_bad_question, F__law_bad_question⟩ := c.def_ 49 (d := dF "_law_bad_question" 67) rfl
  have E__law_bad_question : L2.Fun K "_law_bad_question" "_law_bad_question" (topS 67) (He.ga K "_law_bad_question") fd__law_bad_question := fun_of F__law_bad_question
  have g__law_bad_question : mg "_law_bad_question" = some (.ref (He.ga K "_law_bad_question")) := glo_ok X G (fa 72 (f := .glo "_law_bad_question") rfl)
  have b__law_bad_question : Binds K fd__law_bad_question ["_law_hand_here", "_law_widths", "_law_question"] [] := F__law_bad_question.bindsN fun _ _ _ _ _ _ us hl => match us, hl with | [_, _, _], _ => rfl
  have c__law_bad_question : Cal P w K mg base 5 "_law_bad_question" (spBad K) := ⟨⟨_, _, _, ok__law_bad_question E__law_bad_question c__law_take c__law_any_value c__law_no_value c__law_rid c__law_spoilt m_len m_range m_list m_min m_isinstance, g__law_bad_question, E__law_bad_question.kp, b__law_bad_question⟩⟩
  exact ok_law EL sys c__law_hand c__law_many_widths c__law_take c__law_large_question c__law_bad_question (c__law_loose 9) c__law_question_due c__law_checked_question c__law_lists c__law_rid c__law_union_due c__law_checked_union c_union_values c__law_union_values c_head_length c__law_any_value c__law_no_value c__law_is_name c__law_truth c_is_name c_is_term c__law_is_value c__law_same_parts m_list m_tuple m_len m_range m_repr m_isinstance
end
end My
set_option Elab.async false
set_option linter.all false
set_option maxRecDepth 100000
set_option maxHeartbeats 0
open PySem PySem.W PySem.Calls PyProof.Rows
theorem PySem.Challenge.cw_meetwhere_k02_whole_questions_and_unions_holds : PySem.Challenge.rw_meetwhere_k02_whole_questions_and_unions.Holds := by
  w_on; o_law
  refine HandSHeadRun.head_any (r := OpenLaw.row PySem.Challenge.rw_meetwhere_k02_whole_questions_and_unions) (q := view (OpenLaw.row PySem.Challenge.rw_meetwhere_k02_whole_questions_and_unions).prog [69]) (H := My.hk) (ob := My.ob) (M := 14000) (loose := My.names) (d := HandSHeadRun.topDef (OpenLaw.row PySem.Challenge.rw_meetwhere_k02_whole_questions_and_unions).prog 69) (kwd := []) My.ob_eq
    (by kernel_rfl) (fun s => by kernel_rfl) My.run (by kernel_rfl) (by kernel_rfl) (by kernel_rfl) (by rfl) (by first | assumption | decide +kernel) (by decide +kernel) ⟨rfl, rfl, rfl, rfl, rfl, by decide +kernel⟩ ?hw ?hc
  case hw => w_witness2
  case hc =>
    refine My.walk_ofG (l := PySem.Challenge.rw_meetwhere_k02_whole_questions_and_unions) (n := 63) (k := 13) (x := "_law_script") rfl (by decide) (by kernel_rfl) ⟨rfl, by decide, by decide⟩ ?F
    intro w mg fa h Y G hmg0
    obtain ⟨K, KX, c⟩ := Y
    have hmg : mg ("law" : PySem.Str) = some (.ref fa) := by
      have e : (HandSHeadRun.topDef (OpenLaw.row PySem.Challenge.rw_meetwhere_k02_whole_questions_and_unions).prog 69).name = ("law" : PySem.Str) := by kernel_rfl
      rw [← e]
      exact hmg0
    have hga : mg ("law" : PySem.Str) = some (.ref (He.ga K "law")) := He.glo_ok KX G (List.all_eq_true.mp (He.ba (He.ba (show (MyH.famAll K "DealError" My.tab && ((My.fas.all fun f => f.ok K) && (MyN.sysB K && MyN.eightT K (He.ga K "NAMES") ["a", "b", "c", "d", "e", "f", "g", "h"]))) = true from c.m.fact)).2).1 (.glo "law") (List.mem_of_getElem? (i := 74) rfl))
    have efa : He.ga K "law" = fa := Value.ref.inj (Option.some.inj (hga.symm.trans hmg))
    obtain ⟨fd, hb, hF⟩ := My.law_ok (P := (PySem.Challenge.rw_meetwhere_k02_whole_questions_and_unions).prog) (w := w) KX G c
    rw [efa] at hF
    exact ⟨K, fd, My.spLaw K, KX, fun s u => hb s u, fun H a ns hl _ hS => ⟨a, ns, rfl, hS, hl, fun _ => rfl⟩, fun base _ _ => hF base⟩
