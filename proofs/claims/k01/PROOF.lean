import PyProof.Rows.All
import Wide.All
import OpenK.AllK
import Wide.FinOn
import HandS.ForMost
import HandS.Wide
import HandS.Codes
import HandS.Exc
import HandS.IsInst
import HandS.WordsExc
import HandS.Defaults
import KE.KExcIs
import HandS.ExcInit
import HandS.ClsMeth
import HandS.TupAny
import HandS.Zip
import HandS.Walk
import KE.GoesMore
import HandS.HeadEnd
import PyProof.ReprRoads
import HandS.SetFor
import HandS.Strs
import HandS.Rev
import PyProof.Rows.SetFrom
import HandS.Conv
import HandS.Property
import HandS.OwnEq
import HandS.ExcCtx
import HandS.HotCalls
import HandS.ExcOwn
import KE.SortKeyed
import KE.SortCalls
import HandS.SortInts
import HandS.TupSets
import KE.KeyNested
import HandS.ExcField
import HandS.ExcIs
import HandS.CallSlots
import HandS.NoneIn
import HandS.SetBool
import HandS.TupLe
import KE.KStateDown
import HandS.Head0
import HandS.Head1
import HandS.Head2
import HandS.HeadHook1
import HandS.HeadHook2
import PySem.Challenge.RW_meetwhere_k01_whole_stores_and_rows_judg
set_option Elab.async false
set_option linter.all false
set_option maxRecDepth 100000
set_option maxHeartbeats 4000000
namespace My
open PySem PySem.Spec PyProof.Rows L2
/-- a def that may be called by its name and lets nothing out -/
structure Cal (P : Program) (w : World) (K : PySem.W.Frag) (mg : Str → Option Value) (base : Heap) (k : Nat) (x : Str) (sp : Sp) : Prop where
  ex : ∃ (f : Addr) (fd : FuncData) (ps : List Str), FnOk P w K mg base CX0 k f fd ps sp ∧ mg x = some (.ref f) ∧ PySem.W.keepIn K (.ref f) = true ∧ Binds K fd ps []
theorem Cal.c8 {P : Program} {w : World} {K : PySem.W.Frag} {mg : Str → Option Value} {base : Heap} {k : Nat} {x : Str} {sp : Sp} (c : Cal P w K mg base k x sp) : C8.Cal P w K mg base k x sp [] := by
  obtain ⟨f, fd, ps, F, gf, kf, b⟩ := c.ex
  exact ⟨f, fd, ps, [], F, gf, kf, b, .nil⟩
theorem pe_c {X : Cx} {k j : Nat} {x : Str} {sp : Sp} {p pos : Pos} {e : Expr} {es : List Expr} {t : TA} (c : Cal X.prog X.w X.K X.mg X.base k x sp) (hr : Room j X.A) (hk : k ≤ j) (hg : Gl X x) (ha : PA X (e :: es) t)
    (d1 : (x == ("__debug__" : Str)) = false := by decide) (d2 : starEach (e :: es) X.env = (false, eval e X.env) :: starEach es X.env := by rfl) (d3 : (backTo pos (starEach es X.env)).any (·.1) = false := by rfl) :
    PE X (.Call (.Name x p) (e :: es) [] pos) (tCall sp [] E0 t) := C8.pe_c c.c8 hr hk hg ha d1 d2 d3
theorem same_upd {H : Hp} {p : Addr} {o : HO} (h : H p = none) : Same H (upd H p o) := fun b x e => by
  rw [upd_ne (ne_of_none e h)]
  exact e
theorem gs {H H0 : Hp} {p : Addr} {o : HO} (h : upd H p o = H0) (n : H p = none) : Same H H0 := by
  subst h
  exact same_upd n
theorem ga {H H0 : Hp} {p : Addr} {o : HO} (h : upd H p o = H0) : H0 p = some o := by
  subst h
  exact upd_same
theorem upd_upd {H : Hp} {p : Addr} {o u : HO} : upd (upd H p o) p u = upd H p u := by
  funext b
  unfold upd
  by_cases h : b = p
  · rw [if_pos h, if_pos h]
  · rw [if_neg h, if_neg h, if_neg h]
/-- a list that was new at D may be stored to: all that stood ahead of it stays -/
theorem same_but {J H2 : Hp} {D : Addr} {o : HO} (s : Same J H2) (n : J D = none) : Same J (upd H2 D o) := fun b u e => by
  rw [upd_ne (ne_of_none e n)]
  exact s _ _ e
theorem lt8000 {m : Int} (h : m.natAbs < 2 ^ 64) : m.natAbs < 2 ^ 8000 := Nat.lt_of_lt_of_le h (Nat.pow_le_pow_right (by decide) (by decide))
/-! ### the hand: [cells, place, rest, total] -/
def HandL (M : Int) (c : Addr) (n : Nat) (l : List V) : Prop := ∃ (i : Nat) (r t : Int), l = [.ref c, .int i, .int r, .int t] ∧ i ≤ n ∧ 0 ≤ r ∧ 0 ≤ t ∧ t < M
structure Hand (M : Int) (H : Hp) (a c : Addr) : Prop where
  ex : ∃ (cs : List Int) (l : List V), H a = some (.lst l) ∧ H c = some (.lst (cs.map V.int)) ∧ HandL M c cs.length l ∧ cs.length ≤ 63 ∧ ∀ x ∈ cs, 0 ≤ x
section
variable {M : Int}
theorem Hand.ne {H : Hp} {a c : Addr} (h : Hand M H a c) : c ≠ a := by
  obtain ⟨cs, l, h1, h2, ⟨i, r, t, rfl, _⟩, _⟩ := h.ex
  intro e
  subst e
  rw [h1] at h2
  have z := HO.lst.inj (Option.some.inj h2)
  cases cs with
  | nil => cases z
  | cons x cs =>
    rw [List.map_cons] at z
    have z1 := (List.cons.inj z).1
    cases z1
theorem Hand.keep {H H' : Hp} {a c : Addr} (h : Hand M H a c) (s : Same H H') : Hand M H' a c := by
  obtain ⟨cs, l, h1, h2, r⟩ := h.ex
  exact ⟨cs, l, s _ _ h1, s _ _ h2, r⟩
theorem Hand.put {H : Hp} {a c : Addr} {cs : List Int} {l : List V} (h2 : H c = some (.lst (cs.map V.int))) (hn : c ≠ a) (hl : HandL M c cs.length l) (h63 : cs.length ≤ 63) (h0 : ∀ x ∈ cs, 0 ≤ x) : Hand M (upd H a (.lst l)) a c :=
  ⟨cs, l, upd_same, by rw [upd_ne hn]; exact h2, hl, h63, h0⟩
end
/-- a draw: the hand stands at a, its cells at c; behind it a's list alone is another one -/
def spDraw (M : Int) : Sp := fun vs H Q _ => ∃ (a c : Addr) (m : Int), vs = [.ref a, .int m] ∧ Hand M H a c ∧ 0 < m ∧ m.natAbs < 2 ^ 8000 ∧ ∀ (v : Int) (l : List V), 0 ≤ v → v < m → Hand M (upd H a (.lst l)) a c → Q (.int v) (upd H a (.lst l))
def spHand (M : Int) (K : PySem.W.Frag) : Sp := fun vs H Q _ => ∃ (s : Addr) (ns : List Int), vs = [.ref s] ∧ SqL K H s (ns.map V.int) ∧ ns.length ≤ 63 ∧ ∀ (a c : Addr) (H' : Hp), Same H H' → H a = none → H c = none → Hand M H' a c → Q (.ref a) H'
def spMix (B : Int) : Sp := fun vs H Q _ => ∃ (n t : Int), vs = [.int n, .int t] ∧ 0 ≤ n ∧ n < B ∧ 0 ≤ t ∧ t ≤ 64 ∧ ∀ v : Int, Q (.int v) H
/-! ### what isinstance says of things -/
def intish : V → Bool
  | .int _ => true
  | .bl _ => true
  | _ => false
def boolish : V → Bool
  | .bl _ => true
  | _ => false
def strish : V → Bool
  | .str _ => true
  | _ => false
section
variable {K : PySem.W.Frag} {H : Hp} {x : V} {t : String}
theorem kit_int (h : TyOf K H x (.type t)) : PySem.W.kitOne K (.type t) (.type "int") = some (intish x) := by
  cases h <;> first | exact kit_ty (show kitB _ _ = some true by decide +kernel) | exact kit_ty (show kitB _ _ = some false by decide +kernel)
theorem kit_bool (h : TyOf K H x (.type t)) : PySem.W.kitOne K (.type t) (.type "bool") = some (boolish x) := by
  cases h <;> first | exact kit_ty (show kitB _ _ = some true by decide +kernel) | exact kit_ty (show kitB _ _ = some false by decide +kernel)
theorem kit_str (h : TyOf K H x (.type t)) : PySem.W.kitOne K (.type t) (.type "str") = some (strish x) := by
  cases h <;> first | exact kit_ty (show kitB _ _ = some true by decide +kernel) | exact kit_ty (show kitB _ _ = some false by decide +kernel)
theorem kit_list (h : TyOf K H x (.type t)) : PySem.W.kitOne K (.type t) (.type "list") = some (decide (t = "list")) := by
  cases h <;> first | exact kit_ty (show kitB _ _ = some true by decide +kernel) | exact kit_ty (show kitB _ _ = some false by decide +kernel)
theorem kit_tuple (h : TyOf K H x (.type t)) : PySem.W.kitOne K (.type t) (.type "tuple") = some (decide (t = "tuple")) := by
  cases h <;> first | exact kit_ty (show kitB _ _ = some true by decide +kernel) | exact kit_ty (show kitB _ _ = some false by decide +kernel)
theorem kit_seq (h : TyOf K H x (.type t)) : PySem.W.kitAny K (.type t) [.type "list", .type "tuple"] = some (decide (t = "list") || decide (t = "tuple")) := by
  by_cases h1 : t = "list"
  · exact kitAny_cons (kit_list h) (fun z => by rw [decide_eq_true h1] at z; cases z) (fun _ => by rw [decide_eq_true h1]; rfl)
  · by_cases h2 : t = "tuple"
    · refine kitAny_cons (kit_list h) (fun _ => kitAny_cons (kit_tuple h) (fun z => by rw [decide_eq_true h2] at z; cases z) (fun _ => by rw [decide_eq_true h2, Bool.or_true])) (fun z => ?_)
      rw [decide_eq_true h2, Bool.or_true]
    · rw [decide_eq_false h1, decide_eq_false h2]
      exact kitAny_cons (kit_list h) (fun _ => kitAny_cons (kit_tuple h) (fun _ => kitAny_nil) (fun z => by rw [decide_eq_false h2] at z; cases z)) (fun z => by rw [decide_eq_false h1] at z; cases z)
end
/-! ### bounds that may lack -/
def optV : Option Int → V
  | none => .non
  | some i => .int i
def loOk (i : Int) : Option Int → Bool
  | none => true
  | some l => decide (l ≤ i)
def hiOk (i : Int) : Option Int → Bool
  | none => true
  | some h => decide (i ≤ h)
def wholeV (x : V) (l h : Option Int) : Bool := match x with
  | .int i => loOk i l && hiOk i h
  | _ => false
/-- is_whole(thing, low, high) -/
def spWhole (K : PySem.W.Frag) : Sp := fun vs H Q _ => ∃ (x : V) (t : String) (l h : Option Int), vs = [x, optV l, optV h] ∧ TyOf K H x (.type t) ∧ Q (.bl (wholeV x l h)) H
def valueV (x : V) : Bool := wholeV x (some 0) (some 1000000000)
def spValue (K : PySem.W.Frag) : Sp := fun vs H Q _ => ∃ (x : V) (t : String), vs = [x] ∧ TyOf K H x (.type t) ∧ Q (.bl (valueV x)) H
def seqT (t : String) : Bool := decide (t = "list") || decide (t = "tuple")
/-- is_sequence(thing) -/
def spSeq (K : PySem.W.Frag) : Sp := fun vs H Q _ => ∃ (x : V) (t : String), vs = [x] ∧ TyOf K H x (.type t) ∧ ∀ H', Same H H' → Q (.bl (seqT t)) H'
theorem TyOf.keep {K : PySem.W.Frag} {H H' : Hp} {x : V} {t : Value} (h : TyOf K H x t) (s : Same H H') : TyOf K H' x t := by
  cases h with
  | non => exact .non
  | bl b => exact .bl b
  | int i => exact .int i
  | str z => exact .str z
  | flt z => exact .flt z
  | lst e => exact .lst (s _ _ e)
  | frz e => exact .frz (s _ _ e)
  | tup e => exact .tup (s _ _ e)
  | dK e => exact .dK (s _ _ e)
  | dT e => exact .dT (s _ _ e)
  | ins e c1 c2 c3 c4 c5 => exact .ins (s _ _ e) c1 c2 c3 c4 c5
end My
set_option Elab.async false
set_option linter.all false
set_option maxRecDepth 100000
set_option maxHeartbeats 4000000
namespace My
open PySem PySem.Spec PyProof.Rows L2
/-! ### exceptions of the program's own, made and kept as values -/
/-- what the walk asks of such a class, beside OexC -/
structure ExT (K : PySem.W.Frag) (C : Addr) : Prop where
  o : OexC K C
  atr : PySem.W.findIn K (.ref C) "__getattribute__" = some (some (.builtin "BaseException.__getattribute__"))
  atg : PySem.W.findIn K (.ref C) "__getattr__" = some none
  isc : PySem.W.isClsIn K C = true
  dct : PySem.W.hasDictIn K C = true
  cl : PySem.W.findIn K (.ref C) "__class__" = some (some (.builtin "object.__class__"))
  gt : PySem.W.specialIn K (.builtin "object.__class__") "__get__" = some (some (.builtin "getset_descriptor.__get__"))
  tk : PySem.W.takesIn K (.builtin "object.__class__") = some true
  ob : PySem.W.mroIn K C (.type "object") = some true
/-- at a: an exception of the class at C with these attributes -/
def ExAt (H : Hp) (a C : Addr) (fs : List (Str × V)) : Prop := ∃ dx, H a = some (exo a C (some dx)) ∧ H dx = some (exd dx fs)
theorem ExAt.keep {H H' : Hp} {a C : Addr} {fs : List (Str × V)} (h : ExAt H a C fs) (s : Same H H') : ExAt H' a C fs := by
  obtain ⟨dx, h1, h2⟩ := h
  exact ⟨dx, s _ _ h1, s _ _ h2⟩
section
variable {X : Cx} {pins : List (Addr × Obj)} {σ : L2.St} {H : Hp} {s : Shared} {a C : Addr} {fs : List (Str × V)}
theorem exAt_inst (I : Inv X pins σ H s) (h : ExAt H a C fs) : ∃ (oe od : Obj), PySem.W.InstAt s.heap a oe C (some od) ∧ ∃ mA : Str → Option Value, (∀ f, PySem.W.lookIn f od = some (mA f)) ∧ ∀ f, RelO (fs.lookup f) (mA f) := by
  obtain ⟨dx, h1, h2⟩ := h
  obtain ⟨t1, e1⟩ := exo_at I.hok h1
  obtain ⟨mA, hns, hr⟩ := exd_at I.hok h2
  obtain ⟨od, ho, hl⟩ := lookIn_ns hns
  exact ⟨_, od, ⟨e1, rfl, rfl, ho⟩, mA, hl, hr⟩
/-- e.f of such an exception -/
def tExF (K : PySem.W.Frag) (ta : TE) (f : Str) : TE := fun σ H Q => ta σ H fun x H1 => ∃ a C fs v, x = .ref a ∧ ExAt H1 a C fs ∧ ExT K C ∧ PySem.W.findIn K (.ref C) f = some none ∧ fs.lookup f = some v ∧ Q v H1
theorem pe_exf {e : Expr} {f : Str} {ta : TE} {pos : Pos} (he : PE X e ta) (hb : attributeBase e f X.env (eval e X.env) = eval e X.env := by rfl) : PE X (.Attribute e f pos) (tExF X.K ta f) := by
  refine ⟨fun pins s σ H Q I h => ?_⟩
  refine attr_of hb (thn (he.run pins s σ H _ I h) fun u s1 ⟨x, H1, I1, rx, a, C, fs, v, ex, ea, T, hno, hl, q⟩ => ?_)
  subst ex
  obtain rfl : u = Value.ref a := rx
  obtain ⟨oe, od, J, mA, hm, hr⟩ := exAt_inst I1 ea
  have hrf := hr f
  rw [hl] at hrf
  obtain ⟨u, hu, ru⟩ := RelO.some_of hrf
  exact HandSPX.exc_get I1.kIn J T.atr T.atg T.o.exC (PySem.W.findObj_own T.dct hno rfl (by rw [hm, hu])) (handed_of ru) ⟨v, H1, I1.tok _, ru, q⟩
/-- isinstance(e, c) -/
def rIsV (K : PySem.W.Frag) : List V → Hp → VK → Prop := fun xs H Q => ∃ (a C : Addr) (fs : List (Str × V)) (c : V) (u : Value) (b : Bool), xs = [.ref a, c] ∧ ExAt H a C fs ∧ ExT K C ∧ ClsV c u ∧ PySem.W.kitOne K (.ref C) u = some b ∧ Q (.bl b) H
theorem call_isV : CallR X (.builtin "isinstance") (rIsV X.K) := by
  intro pins s σ H xs us Q I r h
  obtain ⟨a, C, fs, c, u, b, rfl, ea, T, k, e, q⟩ := h
  obtain ⟨u1, u2, rfl, r1, r2⟩ := vals2 r
  have e2 := k.eq r2
  subst e2
  obtain rfl : u1 = Value.ref a := r1
  obtain ⟨oe, od, J, _⟩ := exAt_inst I ea
  exact PySem.W.kia_one (PySem.W.kitx_exc T.isc T.atr T.atg T.o.exC T.cl T.gt T.tk T.ob) I.kIn J e (fun z => nomatch z) fun tk => ⟨.bl b, H, I.tok tk, rfl, q⟩
end
/-! ### D.m(..), D a class of the program, m a def of it -/
section
variable {X : Cx} {k j : Nat} {x m : Str} {sp : Sp} {p p1 p2 pos : Pos} {e : Expr} {es : List Expr} {t : TA} {D f : Addr} {fd : FuncData} {ps : List Str} {mc : Value}
theorem pe_clsfn {pl : Sem Bool} (r : ClX.CRead X.K D mc) (e0 : PySem.W.findCls X.K (.ref D) mc m = some (.val (.ref f))) (F : FnOk X.prog X.w X.K X.mg X.base CX0 k f fd ps sp) (hr : Room j X.A) (hk : k ≤ j) (kp : PySem.W.keepIn X.K (.ref f) = true) (hb : Binds X.K fd ps []) (hg : Gl X x) (hm : X.mg x = some (.ref D)) (ha : PA X (e :: es) t)
    (hc : eval (.Call (.Attribute (.Name x p1) m p2) (e :: es) [] pos) X.env = (do
      let ov ← eval (.Name x p1) X.env
      standAt p2.atName
      let (f, first) ← holding [ov] (getMethod ov m pl)
      callWith pos f first (backTo pos (starEach (e :: es) X.env)) (backToKw pos (keywordEach [] X.env))) := by rfl)
    (hdg : (x == ("__debug__" : Str)) = false := by decide)
    (hst : starEach (e :: es) X.env = (false, eval e X.env) :: starEach es X.env := by rfl) (hpn : (backTo pos (starEach es X.env)).any (·.1) = false := by rfl) :
    PE X (.Call (.Attribute (.Name x p1) m p2) (e :: es) [] pos) (tCall sp [] E0 t) := by
  refine ⟨fun pins s σ H Q I h => ?_⟩
  refine PySem.W.methodCall_KW (ld_glob I hg hm ?_ hdg) hc
  refine PySem.W.method_cls I.kIn r.ga (PySem.W.cls_value I.kIn r.rd e0 rfl ?_)
  show wpAny _ _ (callWith pos (Value.ref f) [] (backTo pos (starEach (e :: es) X.env)) []) _ _ _
  refine PySem.W.callWith_K (h₀ := X.base) I.ok.mod.kin kp (thn (ha.run pos pins _ σ H _ (I.tok _) h) fun us s1 ⟨vs, H1, I1, r, q⟩ => ⟨I1.kIn, ?_⟩) hst hpn
  exact run_fn F (hr.mono hk) hb .nil pass0 I1 r q
end
/-! ### C(e, ..) as a value -/
def tMkV (C : Addr) (sp : Sp) (vs : List V) (H1 : Hp) (Q : VK) : Prop := vs.length ≤ 1000 ∧ ∀ a, H1 a = none → sp (.ref a :: vs) (upd H1 a (exo a C none)) (fun v H2 => v = .non ∧ Q (.ref a) H2) E0
section
variable {X : Cx} {k j : Nat} {x : Str} {sp : Sp} {p pos : Pos} {e : Expr} {es : List Expr} {ta : TA} {C fI : Addr} {fd : FuncData} {ps : List Str}
theorem pe_mkv (T : OexC X.K C) (iC : PySem.W.findIn X.K (.ref C) "__init__" = some (some (.ref fI))) (tI : PySem.W.typeIn X.K (.ref fI) = some (.type "function"))
    (F1 : FnOk X.prog X.w X.K X.mg X.base CX0 k fI fd ps sp) (hr : Room j X.A) (hk : k + 1 ≤ j) (hb : Binds X.K fd ps []) (hg : Gl X x) (hm : X.mg x = some (.ref C)) {R : List V → Hp → VK → Prop} (cv : ∀ vs H1 Q, R vs H1 Q → tMkV C sp vs H1 Q) (ha : PA X (e :: es) ta)
    (hdg : (x == ("__debug__" : Str)) = false := by decide) (hst : starEach (e :: es) X.env = (false, eval e X.env) :: starEach es X.env := by rfl) (hpn : (backTo pos (starEach es X.env)).any (·.1) = false := by rfl) :
    PE X (.Call (.Name x p) (e :: es) [] pos) (tCB R ta) := by
  obtain ⟨nm, qn, N, bs, bm, sn, sub, ab, col, dd, k0, k1, k2, k3, k5, hC, hbm⟩ := T.cls
  refine ⟨fun pins s σ H Q I hRead => wpAny_Call_Name_kw (ld_glob I hg hm (PySem.W.callWith_K (h₀ := X.base) I.ok.mod.kin T.kC (thn (ha.run pos pins s σ H _ I hRead) fun us s1 ⟨vs, H1, I1, rvs, q0⟩ => ⟨I1.kIn, ?_⟩) hst hpn) hdg)⟩
  obtain ⟨few, wish⟩ := cv _ _ _ q0
  obtain ⟨heap, gens, drawn, toks, world⟩ := s1
  -- the tuple of the arguments lies at the heap's end, the exception behind it
  obtain ⟨top, htop⟩ : ∃ top, top = heap.objs.size := ⟨_, rfl⟩
  have fresh : H1 (top + 1) = none := I1.hok.fresh (by show heap.objs.size ≤ _; omega)
  have promised := wish (top + 1) fresh
  have lies : ((heap.push (PySem.W.kdv_tup us)).push (PySem.HandSPX.excO C top)).get? (top + 1) = some (PySem.HandSPX.excO C top) := by
    subst htop
    heap_get
  have J : Inv X pins σ (upd H1 (top + 1) (exo (top + 1) C none)) ⟨(heap.push (PySem.W.kdv_tup us)).push (PySem.HandSPX.excO C top), gens, drawn, toks, world⟩ :=
    Inv.laid (t' := toks) I1 (fun b o z => Heap.get?_push_of_some _ (Heap.get?_push_of_some _ z)) (by show heap.objs.size ≤ _; omega) (exo_ok lies)
  have rAll : Vals (V.ref (top + 1) :: vs) (Value.ref (top + 1) :: us) := .cons rfl rvs
  have lens : (Value.ref (top + 1) :: us).length = ps.length := rAll.length.symm.trans (F1.len _ _ _ _ promised)
  have fits : us.length ≤ sizeLine := Nat.le_trans (Nat.le_of_eq rvs.length.symm) (Nat.le_trans few (by decide))
  have bound := hb _ (Value.ref (top + 1) :: us) J.kIn (by rw [List.append_nil]; exact lens)
  rw [List.append_nil] at bound
  have ran := F1.run _ X.stack _ _ ⟨Value.ref (top + 1) :: us, []⟩ (Value.ref (top + 1) :: us) _ _ E0 ((hr.mono hk).make C us []) (J.env0.make C us []) bound rAll promised
  show wpAny _ _ (call (.ref C) us) _ _ _
  subst htop
  refine wpAny_call (PySem.HandSPX.call_own F.excBase_ValueError (fun Y => PySem.HandSPX.refsVE_contains Y bm hbm) (I1.kIn _ _ hC) (PySem.W.looks_findIn I1.kIn iC) (fun self => PySem.W.bind_fn I1.kIn self tI) fits (codeAny_mono ran fun r s' ended => ?_))
  match r, ended with
  | .error _, z => exact z.elim
  | .ok .next, z => exact False.elim z
  | .ok .brk, z => exact False.elim z
  | .ok .cont, z => exact False.elim z
  | .ok (.ret u), ⟨v, H2, os2, bare2, un2, hok2, rv, ev, q2⟩ =>
    subst ev
    exact ⟨rv, .ref _, H2, J.call' (ch := []) os2 un2 hok2 bare2 (fun b z => absurd z (by simp)), rfl, q2⟩
end
end My
set_option Elab.async false
set_option linter.all false
set_option maxRecDepth 100000
set_option maxHeartbeats 4000000
namespace My
open PySem PySem.Spec PyProof.Rows L2
/-! ### lists and tuples alike -/
def SqV (K : PySem.W.Frag) (H : Hp) (a : Addr) (xs : List V) : Prop := SqL K H a xs ∨ SqT K H a xs
theorem rd_keep {H H' : Hp} {a : Addr} {o : HO} (s : Same H H') (h : Rd H a o) : Rd H' a o := by
  rcases h with h | ⟨ob, h⟩
  · exact .inl (s _ _ h)
  · exact .inr ⟨ob, s _ _ h⟩
theorem seqT_keep {K : PySem.W.Frag} {H H' : Hp} {a : Addr} {xs : List V} (h : SqT K H a xs) (s : Same H H') : SqT K H' a xs := h.imp (rd_keep s) id
theorem SqV.keep {K : PySem.W.Frag} {H H' : Hp} {a : Addr} {xs : List V} (h : SqV K H a xs) (s : Same H H') : SqV K H' a xs := h.imp (fun h => s.seq h) (fun h => seqT_keep h s)
def iSeq (K : PySem.W.Frag) (te : TE) : TI := fun σ H R => iList K te σ H R ∨ iTup K te σ H R
theorem pi_seq {X : Cx} {tg l : Expr} {tl : TE} (hl : PE X l tl) : PI X tg l (iSeq X.K tl) :=
  ⟨fun pins s σ H R I h => h.elim (fun h => (pi_list hl).run pins s σ H R I h) (fun h => (pi_tup hl).run pins s σ H R I h)⟩
theorem walk_zipT {K : PySem.W.Frag} {a b : Addr} {xs ys : List V} {n : Nat} (hn : n = min xs.length ys.length) : Walk (RZ.ItzT K a b) n (fun H => SqT K H a xs ∧ SqT K H b ys) (YPair (fun i => xs[i]?) (fun i => ys[i]?)) := by
  subst hn
  refine ⟨fun j _ lt both => ?_, fun _ both => ⟨xs, ys, both.1, both.2, by omega⟩, fun j H v H' _ both got => ?_⟩
  · have in1 : j < xs.length := by omega
    have in2 : j < ys.length := by omega
    exact ⟨xs, ys, xs[j], ys[j], both.1, both.2, by simp [in1], by simp [in2]⟩
  · obtain ⟨pr, u1, u2, ev, fr, eh, f1, f2⟩ := got
    exact ⟨pr, u1, u2, ev, fr, eh, f1 xs both.1, f2 ys both.2⟩
/-- [f(x) for x in xs] over a list or a tuple, where the calls only add to the heap -/
theorem lcMap {K : PySem.W.Frag} {te : TE} {i j : Nat} {vs : List Nat} {σ : L2.St} {H : Hp} {a : Addr} {xs : List V} {f : V → V} {Q : VK} (hv : σ[i]? = some (some (.ref a))) (hs : SqV K H a xs) (hz : xs.length ≤ sizeLine)
    (hw : ∀ x, wipe ((wipe σ vs).set j (some x)) vs = wipe σ vs)
    (ht : ∀ x ∈ xs, ∀ (H' : Hp) (R : VK), Same H H' → (∀ H'', Same H' H'' → R (f x) H'') → te ((wipe σ vs).set j (some x)) H' R)
    (hq : ∀ (D : Addr) (H' : Hp), Same H H' → H D = none → H' D = some (.lst (xs.map f)) → Q (.ref D) H') : tLc (iSeq K (tVar i)) (gName j) tYes te vs σ H Q := by
  have step : ∀ (D : Addr), H D = none → ∀ i x H', xs[i]? = some x → (Same H H' ∧ H' D = some (.lst ((xs.take i).map f))) → gName j x (wipe σ vs) H' fun σ2 H2 => wipe σ2 vs = wipe σ vs ∧ tYes σ2 H2 fun b H3 =>
      if b = true then te σ2 H3 fun y H4 => ∃ acc, H4 D = some (.lst acc) ∧ acc.length < sizeLine ∧ (Same H (upd H4 D (.lst (acc ++ [y]))) ∧ (upd H4 D (.lst (acc ++ [y]))) D = some (.lst ((xs.take (i + 1)).map f))) else (Same H H3 ∧ H3 D = some (.lst ((xs.take (i + 1)).map f))) := by
    rintro D nD i x H' hi ⟨s1, hD⟩
    refine ⟨hw x, ?_⟩
    unfold tYes
    dsimp only
    rw [if_pos rfl]
    refine ht x (List.mem_of_getElem? hi) H' _ s1 fun H4 s4 => ⟨_, s4 _ _ hD, ?_, same_but (s1.trans s4) nD, ?_⟩
    · have : i < xs.length := by
        rcases Nat.lt_or_ge i xs.length with h | h
        · exact h
        · rw [List.getElem?_eq_none h] at hi
          cases hi
      rw [List.length_map, List.length_take]
      omega
    · rw [upd_same, List.take_add_one, hi, List.map_append]
      rfl
  rcases hs with hs | hs
  · refine .inl ⟨_, hv, a, rfl, ⟨xs, hs⟩, fun D nD => lc_list (xs := xs) (fun i H' => Same H H' ∧ H' D = some (.lst ((xs.take i).map f))) ⟨same_upd nD, upd_same⟩ (fun _ _ _ h => h.1.seq hs) (step D nD) fun H' h => hq D H' h.1 nD ?_⟩
    have h2 := h.2
    rw [List.take_length] at h2
    exact h2
  · refine .inr ⟨_, hv, a, rfl, ⟨xs, hs⟩, fun D nD => lc_tup (xs := xs) (fun i H' => Same H H' ∧ H' D = some (.lst ((xs.take i).map f))) ⟨same_upd nD, upd_same⟩ (fun _ _ _ h => seqT_keep hs h.1) (step D nD) fun H' h => hq D H' h.1 nD ?_⟩
    have h2 := h.2
    rw [List.take_length] at h2
    exact h2
/-- [f(x, y) for x, y in zip(xs, ys)], the walk W given, where f only adds to the heap -/
theorem lcPair {J : It} {n : Nat} {G : Hp → Prop} {K : PySem.W.Frag} {te : TE} {i j : Nat} {vs : List Nat} {σ : L2.St} {H1 : Hp} {xs ys : List V} {f : V → V → V} {R : Hp → Prop} {D : Addr} (w : Walk J n G (YPair (fun i => xs[i]?) (fun i => ys[i]?))) (hn : n = min xs.length ys.length) (hz : n ≤ sizeLine)
    (hG : ∀ H', Same H1 H' → G H') (nD : H1 D = none)
    (hw : ∀ x y, wipe (((wipe σ vs).set i (some x)).set j (some y)) vs = wipe σ vs)
    (ht : ∀ (k : Nat) (x y : V), xs[k]? = some x → ys[k]? = some y → ∀ (H' : Hp) (R : VK), Same H1 H' → (∀ H'', Same H' H'' → R (f x y) H'') → te (((wipe σ vs).set i (some x)).set j (some y)) H' R)
    (hq : ∀ (H' : Hp), Same H1 H' → H' D = some (.lst (List.zipWith f xs ys)) → R H') :
    ∃ W : Nat → Nat → Hp → Prop, (∃ m, W 0 m (upd H1 D (.lst []))) ∧ ∀ k m H, W k m H →
      (J.stop k H ∧ R H) ∨ (J.go k H ∧ ∃ Nx : Hp → Prop, (∀ H', Nx H' → ∃ m', m' < m ∧ W (k + 1) m' H') ∧ ∀ x H', J.yld k H x H' → gTup K 2 (gCons (gName i) (gCons (gName j) gNil)) x (wipe σ vs) H' fun σ2 H2 => wipe σ2 vs = wipe σ vs ∧ tYes σ2 H2 fun b H3 =>
        if b = true then te σ2 H3 fun y H4 => ∃ acc, H4 D = some (.lst acc) ∧ acc.length < sizeLine ∧ Nx (upd H4 D (.lst (acc ++ [y]))) else Nx H3) := by
  have hln : (List.zipWith f xs ys).length = n := by rw [List.length_zipWith, hn]
  refine lc_it w (fun k H' => Same H1 H' ∧ H' D = some (.lst ((List.zipWith f xs ys).take k))) ⟨same_upd nD, upd_same⟩ (fun _ _ _ h => hG _ h.1) ?_ ?_
  · rintro k v H' H2 hk ⟨s1, hD⟩ ⟨T, x, y, rfl, nT, rfl, hx, hy⟩
    refine ⟨T, [x, y], rfl, SqT.of upd_same, rfl, x, [y], rfl, y, [], rfl, rfl, hw x y, ?_⟩
    unfold tYes
    dsimp only
    rw [if_pos rfl]
    have sT := same_upd (o := HO.tup [x, y]) nT
    refine ht k x y hx hy _ _ (s1.trans sT) fun H4 s4 => ⟨_, s4 _ _ (sT _ _ hD), ?_, same_but ((s1.trans sT).trans s4) nD, ?_⟩
    · rw [List.length_take, hln]
      omega
    · have e : (List.zipWith f xs ys)[k]? = some (f x y) := by
        rw [List.getElem?_zipWith, show xs[k]? = some x from hx, show ys[k]? = some y from hy]
      rw [upd_same, List.take_add_one, e]
      rfl
  · rintro H' ⟨s1, hD⟩
    rw [← hln, List.take_length] at hD
    exact hq H' s1 hD
theorem cut1 (xs : List V) : cutV xs (some 1) none = xs.drop 1 := by
  show (xs.drop (HT.sIx xs.length 0 (some ((1 : Nat) : Int)))).take (HT.sIx xs.length xs.length none - HT.sIx xs.length 0 (some ((1 : Nat) : Int))) = xs.drop 1
  rw [HT.sIx_nat, HT.sIx_none]
  cases xs with
  | nil => rfl
  | cons x xs =>
    rw [show min 1 (x :: xs).length = 1 by simp]
    simp
def ltV : V → V → Bool
  | .int i, .int j => decide (i < j)
  | _, _ => false
/-- a sequence of values in strictly ascending order -/
def ascV (xs : List V) : Bool := xs.all valueV && (List.zipWith ltV xs (xs.drop 1)).all id
/-- is_ascending(thing) -/
def spAsc (K : PySem.W.Frag) : Sp := fun vs H Q _ => ∃ (x : V) (t : String), vs = [x] ∧ TyOf K H x (.type t) ∧
  ((seqT t = false ∧ ∀ H', Same H H' → Q (.bl false) H') ∨
   (seqT t = true ∧ ∃ (a : Addr) (xs : List V), x = .ref a ∧ SqV K H a xs ∧ xs.length ≤ sizeLine ∧ (∀ y ∈ xs, ∃ u, TyOf K H y (.type u)) ∧ ∀ H', Same H H' → Q (.bl (ascV xs)) H'))
theorem valueV_int {x : V} (h : valueV x = true) : ∃ i, x = .int i ∧ 0 ≤ i ∧ i ≤ 1000000000 := by
  cases x with
  | int i =>
    have z : (decide ((0 : Int) ≤ i) && decide (i ≤ 1000000000)) = true := h
    rw [Bool.and_eq_true] at z
    exact ⟨i, rfl, of_decide_eq_true z.1, of_decide_eq_true z.2⟩
  | _ => cases h
end My
set_option Elab.async false
set_option linter.all false
set_option maxRecDepth 100000
set_option maxHeartbeats 4000000
namespace EnT
open PySem
open PySem.Sem (wp)
/-! ### enumerate(t), t a tuple -/
theorem meets_tup (l : Addr) (items : Array Value) :
    Meets (Builtin.«enumerate.__new__» ⟨[.type "enumerate", .ref l], []⟩) (fun _ R s => s.heap.IsTuple l items ∧
      R (.ok (.ret (.ref (s.heap.push { cls := .type "tuple_iterator", data := .fields #[.ref l, .int 0 0] }).objs.size)))
        { s with heap := (s.heap.push { cls := .type "tuple_iterator", data := .fields #[.ref l, .int 0 0] }).push { cls := .type "enumerate", data := .fields #[.none, .bool false, .ref s.heap.objs.size, rawInt 0, .none, .none] } }) :=
  .of_wp fun prog w A R s h => by
    obtain ⟨heap0, g, d, tk, os⟩ := s; obtain ⟨tupAt, h⟩ := h
    have subE := sub_enumerate
    wp_walk using wpAny_pyIter_tuple tupAt
    refine wpAny_stack_any fun stack => wpAny_pure ?_
    split
    · rename_i c _ _ _ _ _
      cases (c == Value.type "enumerate")
      · wp_walk using wpAny_pyIter_tuple tupAt
        exact ⟨_, rfl, h⟩
      · wp_walk using wpAny_pyIter_tuple tupAt
        exact ⟨_, rfl, h⟩
    · wp_walk using wpAny_pyIter_tuple tupAt
      exact ⟨_, rfl, h⟩
section
variable {prog : Program} {w : World} {A : Around} {E : Value → Shared → Prop} {s : Shared}
theorem call_tup {l : Addr} {items : Array Value} {Q : Value → Shared → Prop} (tupAt : s.heap.IsTuple l items)
    (h : ∀ hLaid, IsEnum hLaid (s.heap.objs.size + 1) s.heap.objs.size 0 .none → hLaid.IsTupleIter s.heap.objs.size l 0 → hLaid.objs.size = s.heap.objs.size + 2 →
      (∀ b o, s.heap.get? b = some o → hLaid.get? b = some o) → Q (.ref (s.heap.objs.size + 1)) { s with heap := hLaid }) :
    wpAny (model prog w) A (call (.type "enumerate") [.ref l]) Q E s := by
  refine callType_new F.called_enumerate (by decide) (F.typeCall_enumerate_1 _) (F.newCall_enumerate_1 _) (fun ob => F.args_object_init_2 ob _) F.entry_enumerate_new
    (meets_tup l items) ⟨tupAt, ?_⟩
  have sizePush := Heap.size_push (h := s.heap) (o := { cls := .type "tuple_iterator", data := .fields #[.ref l, .int 0 0] })
  show _ ∧ _
  rw [sizePush]
  have onTop := Heap.get?_push_size (s.heap.push { cls := .type "tuple_iterator", data := .fields #[.ref l, .int 0 0] })
    (o := { cls := .type "enumerate", data := .fields #[.none, .bool false, .ref s.heap.objs.size, rawInt 0, .none, .none] }) rfl
  rw [sizePush] at onTop
  exact ⟨⟨_, onTop, rfl⟩, h _ onTop ⟨_, Heap.get?_push_of_some _ (Heap.get?_push_size _ rfl), rfl, rfl⟩ (by rw [Heap.size_push, sizePush]) fun b o x => Heap.get?_push_of_some _ (Heap.get?_push_of_some _ x)⟩
end
end EnT
set_option Elab.async false
set_option linter.all false
set_option maxRecDepth 100000
set_option maxHeartbeats 4000000
namespace My
open PySem PySem.Spec PyProof.Rows L2
theorem next_enumT_end {prog : Program} {w : World} {A : Around} {E : Value → Shared → Prop} {s : Shared} {e it l : Addr} {i : Nat} {items : Array Value} {prev : Value} {Q : Option Value → Shared → Prop} (calmH : A.handled = none)
    (enAt : IsEnum s.heap e it i prev) (iter : s.heap.IsTupleIter it l i) (tupL : s.heap.IsTuple l items) (itemX : items[i]? = none)
    (goOn : ∀ h', Heap.ExtBut it s.heap h' → Q none { s with heap := h' }) : wpAny (model prog w) A (pyNext (.ref e)) Q E s := by
  have pairOld : s.TypeIs (.ref e) "enumerate" := ⟨_, enAt, rfl⟩
  unfold pyNext
  refine wpAny_bind (wpAny_attempt (wpAny_callSpecial?_slot (name := Str.ofString "__next__") pairOld F.slot_enumerate_next
    (wpAny_call_entry F.slot_enumerate_next pairOld F.entry_enumerate_next ?_ (F.args_enumerate_next_1 _))))
  show wpAny _ _ (field (.ref e) 2 >>= _) _ _ _
  refine wpAny_bind (wpAny_field enAt rfl (x := .ref it) rfl ?_)
  refine wpAny_bind (RZ.nextOf_tuple_end (A := A.in1) calmH iter tupL itemX fun h' x enNew hx' => ?_)
  obtain ⟨o, owned, calmX⟩ := hx'
  refine wpAny_bind (wpAny_isInstance (T := "StopIteration") (b := true) ⟨o, owned, calmX⟩ isSubtype_stop ?_)
  exact wpAny_pure (goOn _ enNew)
/-- the tuple at a, each item in a okNew pair with vals number -/
def IteT (K : PySem.W.Frag) (a : Addr) : It :=
  ⟨fun i H => ∃ (xs : List V) (x : V), SqT K H a xs ∧ xs[i]? = some x, fun i H v H' => ∃ T x, v = .ref T ∧ H T = none ∧ H' = upd H T (.tup [.int (i : Nat), x]) ∧ ∀ xs, SqT K H a xs → xs[i]? = some x, fun i H => ∃ xs : List V, SqT K H a xs ∧ xs.length ≤ i⟩
theorem turn_enumT {P : Program} {w : World} {K : PySem.W.Frag} {elts : List Expr} {kk : Nat} {tpos : Pos} (a e it : Addr) (apE : e ≠ it) (apA : a ≠ it) (apEA : e ≠ a) :
    Turn P w K (.Tuple elts kk tpos) (IteT K a) [e, it] e (fun i h => (∃ prev, IsEnum h e it ((i : Nat) : Int) prev) ∧ h.IsTupleIter it a i) where
  mem := by simp
  obj := fun i h stand b memB => by
    obtain ⟨⟨prev, enAt⟩, ⟨o, owned, calmX, hd⟩⟩ := stand
    have orB : b = e ∨ b = it := by simpa using memB
    rcases orB with eqZ | eqZ
    · rw [eqZ]; exact ⟨_, enAt, fun v q => nomatch q⟩
    · rw [eqZ]; exact ⟨o, owned, fun v q => by rw [hd] at q; cases q⟩
  keep := fun i h h' stand keepK => let ⟨⟨prev, enAt⟩, hi⟩ := stand; ⟨⟨prev, keepK e (by simp) _ enAt⟩, hi.at fun o q => keepK it (by simp) o q⟩
  item := by
    intro X eqP eqW eqK calmX i pins s σ H E I freeF stand glb
    subst eqP eqW eqK
    obtain ⟨⟨prev, enAt⟩, iter⟩ := stand
    obtain ⟨xs, x, tupQ, itemX⟩ := glb
    obtain ⟨vals, rels, p, hz⟩ := I.tuple tupQ
    have asTup : s.heap.IsTuple a vals.toArray := p
    obtain ⟨u, atU, relU⟩ := rels.get itemX
    have sizeE : e < s.heap.objs.size := Heap.lt_size enAt
    have sizeI : it < s.heap.objs.size := by obtain ⟨_, q, _⟩ := iter; exact Heap.lt_size q
    have below : i < vals.toArray.size := by
      rcases Nat.lt_or_ge i vals.length with eqZ | eqZ
      · simpa using eqZ
      · rw [List.getElem?_eq_none eqZ] at atU; cases atU
    have calmH : X.A.in1.handled = none := I.ok.hd calmX
    refine wpAny_pyNext_enum_itemD (Draws.tuple calmH it a apA vals.toArray) enAt ⟨iter, asTup⟩ below apE (by simp [apE, apEA]) fun y h' tok isY owned afterI pairOld grown keptO => ?_
    obtain ⟨iterNew, _⟩ := afterI
    have sameY : y = u := by
      have eqZ : vals[i]? = some y := by simpa using isY
      rw [atU] at eqZ
      exact (Option.some.inj eqZ).symm
    subst sameY
    refine ⟨_, rfl, wpAny_letOwnedTupleGo_enum (s := { s with heap := h', toks := tok + 1 }) owned fun hNew enNew butE => ?_⟩
    have pairAt : hNew.get? s.heap.objs.size = some { cls := .type "tuple", data := .seq #[.int i tok, y] } := (butE.2 _ (Nat.ne_of_gt sizeE)).trans pairOld
    have okNew : ObjOk X.prog X.w (upd H s.heap.objs.size (.tup [.int (i : Nat), x])) hNew s.heap.objs.size (.tup [.int (i : Nat), x]) :=
      ⟨by show 2 ≤ sizeLine; decide, [.int i tok, y], .cons ⟨_, rfl⟩ (.cons relU .nil), ⟨_, pairAt, rfl, _, rfl⟩⟩
    have I1 : Inv X pins σ (upd H s.heap.objs.size (.tup [.int (i : Nat), x])) { s with heap := hNew, toks := tok + 1 } :=
      I.turnedNew (ch := [e, it]) (fun b ob memB q => (butE.2 b (fun eqZ => memB (by simp [eqZ]))).trans (keptO b ob (fun eqZ => memB (by simp [eqZ])) (fun eqZ => memB (by simp [eqZ])) q)) freeF (Nat.le_refl _) okNew
    refine ⟨.ref s.heap.objs.size, _, I1, rfl, ⟨_, x, rfl, I.hok.fresh (Nat.le_refl _), rfl, fun ys isY => ?_⟩, ⟨⟨y, ?_⟩, iterNew.at fun o q => (butE.2 it (Ne.symm apE)).trans q⟩, fun b memB => ?_⟩
    · rw [I.tuple_inj isY tupQ]; exact itemX
    · have e1 : ((i + 1 : Nat) : Int) = (i : Int) + 1 := by omega
      rw [e1]; exact enNew
    · have lowB : b < s.heap.objs.size := by
        have orB : b = e ∨ b = it := by simpa using memB
        rcases orB with eqZ | eqZ
        · rw [eqZ]; exact sizeE
        · rw [eqZ]; exact sizeI
      rw [upd_ne (Nat.ne_of_lt lowB)]
      exact (freeF b memB).1
  done := by
    intro X eqP eqW eqK calmX i pins s σ H E I freeF stand glb
    subst eqP eqW eqK
    obtain ⟨⟨prev, enAt⟩, iter⟩ := stand
    obtain ⟨xs, tupQ, itemX⟩ := glb
    obtain ⟨vals, rels, p, hz⟩ := I.tuple tupQ
    obtain ⟨g0, g1, g2, g3, g4, g5⟩ := freeF it (by simp)
    have tupL := rels.length
    exact next_enumT_end (I.ok.hd calmX) enAt iter (show s.heap.IsTuple a vals.toArray from p) (by simp; omega) fun h' extB => ⟨rfl, I.turned (t' := s.toks) (fun b o memB q => extB b o memB q) g0 g1 g3 g4 g5⟩
  self := fun A i s Q E stand h => let ⟨⟨_, enAt⟩, _⟩ := stand; wpAny_pyIter_enum enAt h
def iEnumT (K : PySem.W.Frag) (ta : TA) : TI := fun σ H R => ta σ H fun vs H1 => ∃ a xs, vs = [.ref a] ∧ SqT K H1 a xs ∧ R (IteT K a) H1
theorem pi_enumT {X : Cx} {e : Expr} {ta : TA} {p pos tpos : Pos} {elts : List Expr} {kk : Nat} (glb : Gl X "enumerate") (noMg : X.mg "enumerate" = none) (args : PA X [e] ta) (stars : starEach [e] X.env = [(false, eval e X.env)] := by rfl) :
    PI X (.Tuple elts kk tpos) (.Call (.Name "enumerate" p) [e] [] pos) (iEnumT X.K ta) := by
  refine ⟨fun pins s σ H R I h => ?_⟩
  refine Call_ (ld_blt I glb noMg boot_enumerate (PyProof.Rows.callWith_type1 (thn (args.run pos pins s σ H _ I h) fun us s1 ⟨vs, H1, I1, relQ, gotQ⟩ => ?_) stars rfl))
  obtain ⟨a, xs, ex, tupQ, q⟩ := gotQ
  subst ex
  cases relQ with
  | cons r restR =>
    cases restR
    cases r
    obtain ⟨vals, rels, posT, hz⟩ := I1.tuple tupQ
    have asTup : s1.heap.IsTuple a vals.toArray := posT
    have sizeA : a < s1.heap.objs.size := by obtain ⟨o, owned, _⟩ := asTup; exact Heap.lt_size owned
    refine EnT.call_tup asTup fun h' enAt iter grown keptO => wpAny_pyIter_enum enAt ?_
    have I2 : Inv X pins σ H1 { s1 with heap := h' } := I1.kept (t' := s1.toks) keptO
    refine ⟨s1.heap.objs.size + 1, [s1.heap.objs.size + 1, s1.heap.objs.size], _, _, H1, rfl, I2, turn_enumT a (s1.heap.objs.size + 1) s1.heap.objs.size (Nat.succ_ne_self _) (Nat.ne_of_lt sizeA) (Ne.symm (Nat.ne_of_lt (Nat.lt_succ_of_lt sizeA))), ⟨⟨.none, enAt⟩, iter⟩, fun b memB => ?_, q⟩
    have orB : b = s1.heap.objs.size + 1 ∨ b = s1.heap.objs.size := by simpa using memB
    have leB : s1.heap.objs.size ≤ b := by
      rcases orB with eqZ | eqZ
      · rw [eqZ]; exact Nat.le_add_right _ _
      · rw [eqZ]; exact Nat.le_refl _
    exact I1.fpOk leB (I1.hok.fresh leB)
theorem walk_enumT {K : PySem.W.Frag} {a : Addr} {xs : List V} : Walk (IteT K a) xs.length (fun H => SqT K H a xs) (YPair (fun i => some (.int (i : Nat))) (fun i => xs[i]?)) := by
  refine ⟨fun j _ lt sq => ⟨xs, xs[j], sq, by simp [lt]⟩, fun _ sq => ⟨xs, sq, Nat.le_refl _⟩, fun j H v H' _ sq got => ?_⟩
  obtain ⟨pr, it, ev, fr, eh, same⟩ := got
  exact ⟨pr, .int (j : Nat), it, ev, fr, eh, rfl, same xs sq⟩
end My
set_option Elab.async false
set_option linter.all false
set_option maxRecDepth 100000
set_option maxHeartbeats 4000000
namespace My
open PySem PySem.Spec PyProof.Rows L2
/-! ### a law whose own frame knows that no repr is under way -/
/-- the promise of the law's def, called where no guard stands -/
structure FnG (P : Program) (w : World) (K : PySem.W.Frag) (mg : Str → Option Value) (base : Heap) (k : Nat) (f : Addr) (fd : FuncData) (ps : List Str) (sp : Sp) : Prop where
  len : ∀ vs H Q E, sp vs H Q E → vs.length = ps.length
  run : ∀ (A : Around) (outer : List Env) (s : Shared) (H : Hp) (args : Args) (us : List Value) (vs : List V) (Q : VK), A.guards = some [] → Room k A → Env0 P w K mg base A outer s H → BindsTo s fd args (ps.zip us) → Vals vs us → sp vs H Q E0 →
    codeAny (model P w) A (.call (.ref f) args) (CR CX0 outer P w H s Q E0) s
theorem fnG_of {P : Program} {w : World} {K : PySem.W.Frag} {mg : Str → Option Value} {base : Heap} {k : Nat} {f : Addr} {fd : FuncData} {x qual : Str} {st : Stmt} {N ps : List Str} {sp : Sp} (F : L2.Fun K x qual st f fd) (S : FnScope N ps (defScope st))
    (len : ∀ vs H Q E, sp vs H Q E → vs.length = ps.length)
    (hbody : ∀ (cdv : Value) (A : Around) (outer : List Env) (s : Shared) (H : Hp) (vs : List V) (Q : VK), A.guards = some [] → Room k (A.deeper (envOfC qual (defScope st) s.heap.objs.size f cdv)) → sp vs H Q E0 →
      ∃ t, PSs (cxOf CX0 P w K mg base N qual (defScope st) f cdv A outer s H E0).nox (defBody st) t ∧ t { nx := fun _ H' => Q .non H', rt := Q } (start N vs) H) :
    FnG P w K mg base (k + 1) f fd ps sp := by
  obtain ⟨oc, od, kV, doc, pm, an, cdv, ct, osl, rfl, lk, hcd⟩ := F.ex
  constructor
  · exact len
  intro A outer s0 H0 args ws xs Q hg room env binds rel prom
  have sameLen := len xs H0 Q E0 prom
  have old : ∀ b o, base.get? b = some o → s0.heap.get? b = some o := fun b o e => (env.bs b o e).1
  have inK : K.In s0.heap := env.mod.kin.keeps old
  have nolim : s0.heap.NoLimit := env.mod.nolimit.keeps old
  have kinds : ∀ y ∈ ps.zip ws, (defScope st).names.lookup y.1 = some .local ∨ ((defScope st).names.lookup y.1 = some .cell ∧ ((cellsFrom (s0.heap.objs.size + 1) (defScope st).names []).lookup y.1).isSome = true) := by
    rintro ⟨n, v⟩ hy
    have hn := (List.of_mem_zip hy).1
    exact (S.par n hn).elim .inl fun q => .inr ⟨q, PySem.W.cellsFrom_some _ _ _ (.inl q)⟩
  apply codeAny_call_function room.depth (inK _ _ lk) rfl S.co S.gen rfl (PySem.W.codeRec_of inK hcd)
  apply binds
  apply wpAny_newFunctionEnv_cells S.kind kinds
  intro e1 he1 s1 x
  subst he1
  refine ⟨nolim.keeps x.toInCall.keep, codeAny_func ?_⟩
  obtain ⟨t, ht0, hq⟩ := hbody cdv A outer s0 H0 xs Q hg (room.deeper _) prom
  have ht := ht0.nox
  have I := inv_start (CX := CX0) (E := E0) S room.hd env sameLen rel x
  refine wpAny_mono (ht.run [] s1 (start N xs) H0 _ I hq) ?_ fun e s' bad => bad
  rintro fl s' ended
  match fl, ended with
  | .ret u, ⟨v, σ', H', J, rv, q⟩ => exact ⟨v, H', J.os, J.bare, J.base, J.hok, rv, q⟩
  | .next, ⟨σ', H', J, q⟩ => exact ⟨V.non, H', J.os, J.bare, J.base, J.hok, rfl, q⟩
  | .brk, ⟨_, _, _, q⟩ => exact q.elim
  | .cont, ⟨_, _, _, q⟩ => exact q.elim
/-- the head's goal, from such a promise -/
theorem law_callG {P : Program} {w : World} {K : PySem.W.Frag} {mg mb : Str → Option Value} {k : Nat} {fa a : Addr} {fd : FuncData} {x : Str} {sp : Sp} {s : Shared} {us : List Value} {ns : List Int}
    (inK : K.In s.heap) (hns : s.heap.Ns mainGlobals mg) (hb : s.heap.Ns builtinsNs mb) (hbb : ∀ y : Str, y ≠ "__name__" → mb y = bootBuiltins y) (nolim : s.heap.NoLimit) (nogen : s.gens = #[])
    (ha : s.heap.get? a = some { cls := .type "list", data := .seq us.toArray }) (hi : IntsAre us ns) (few : ns.length ≤ sizeLine) (room : Room k callerA)
    (F : ∀ base : Heap, K.In base → base.Ns mainGlobals mg → FnG P w K mg base k fa fd [x] sp) (hbind : ∀ (s : Shared) (u : Value), BindsTo s fd ⟨[u], []⟩ [(x, u)])
    (hsp : ∀ H : Hp, Only H → SqL K H a (ns.map V.int) → sp [.ref a] H (fun v _ => v = .bl true) E0) :
    codeAny (model P w) callerA (.call (.ref fa) ⟨[.ref a], []⟩) (fun r s' => r = .ok (.ret (.bool true)) ∧ OldK s.heap s'.heap ∧ s'.os = s.os ∧ AllBare s'.gens) s := by
  have rel := vals_ints hi
  have lens := hi.length
  have main : ∀ H : Hp, Only H → SqL K H a (ns.map V.int) → HOk P w H s.heap → (∀ b, H b ≠ none → b = a) → (H a ≠ none → K.lookup a = none) →
      codeAny (model P w) callerA (.call (.ref fa) ⟨[.ref a], []⟩) (fun r s' => r = .ok (.ret (.bool true)) ∧ OldK s.heap s'.heap ∧ s'.os = s.os ∧ AllBare s'.gens) s := by
    intro H only scr hok alone apart
    have dictFree : ∀ {b : Addr} {o : Obj} {es : Array DictEntry} {ep : Nat}, s.heap.get? b = some o → o.data = .dict es ep → H b = none := by
      intro b o es ep e d
      apply Classical.byContradiction
      intro n
      have eb := alone b n
      rw [eb, ha] at e
      cases e
      cases d
    have nsT : ∀ {b : Addr} {m : Str → Option Value}, s.heap.Ns b m → (hidT s.heap H).Ns b m := by
      rintro b m ⟨o, es, ep, e, d, r⟩
      exact ⟨o, es, ep, hidT_get e (dictFree e d), d, r⟩
    have inT : K.In (hidT s.heap H) := by
      intro b o e
      apply hidT_get (inK b o e)
      apply Classical.byContradiction
      intro n
      have eb := alone b n
      subst eb
      rw [apart n] at e
      cases e
    obtain ⟨mc, lim1, lim2⟩ := nolim
    have modT : Mod K mg (hidT s.heap H) := ⟨inT, nsT hns, ⟨mb, nsT hb, hbb⟩, ⟨mc, nsT lim1, lim2⟩⟩
    have env : Env0 P w K mg (hidT s.heap H) callerA [] s H := ⟨rfl, modT, fun b o e => of_hidT e, Nat.le_of_eq (hidT_size _ _), trivial, fun b hb => (by cases hb), hok, .of_eq nogen⟩
    refine codeAny_mono ((F _ inT (nsT hns)).run callerA [] s H ⟨[.ref a], []⟩ [.ref a] [.ref a] _ rfl room env (hbind s (.ref a)) (.cons rfl .nil) (hsp H only scr)) ?_
    rintro r s' h
    match r, h with
    | .error _, h => exact h.elim
    | .ok .next, h => exact False.elim h
    | .ok .brk, h => exact False.elim h
    | .ok .cont, h => exact False.elim h
    | .ok (.ret u), ⟨v, H', os, bare, un, hok', rv, ev⟩ =>
      subst ev
      obtain rfl : u = Value.bool true := rv
      refine ⟨rfl, OldK.of_keep fun b o e => ?_, os, bare⟩
      rcases only b with z | ⟨ob, ys, z⟩
      · exact un.keep b o e z (by intro z; cases z) (by simp)
      · obtain ⟨e1, _⟩ := hok b _ z
        obtain ⟨e2, _⟩ := hok' b _ (un.frzs b ob _ z)
        rw [e] at e1
        cases e1
        exact e2
  cases hk : K.lookup a with
  | some o =>
    have e := inK a o hk
    rw [ha] at e
    cases e
    refine main (fun _ => none) (fun _ => .inl rfl) (.inr ⟨_, us.toArray, _, hk, rfl, rfl, rfl, by rw [List.size_toArray, lens]; exact few, by simpa using rel⟩) (fun b u z => ?_) (fun b z => absurd rfl z) fun z => absurd rfl z
    cases (show (none : Option HO) = some u from z)
  | none =>
    have top : (fun b => if b = a then some (HO.frz { cls := .type "list", data := .seq us.toArray } (.lst (ns.map V.int))) else none : Hp) a = some (HO.frz { cls := .type "list", data := .seq us.toArray } (.lst (ns.map V.int))) := if_pos rfl
    refine main (fun b => if b = a then some (.frz { cls := .type "list", data := .seq us.toArray } (.lst (ns.map V.int))) else none) (fun b => ?_) (.inl (.inr ⟨_, top⟩)) (fun b u z => ?_) (fun b z => ?_) fun _ => hk
    · by_cases eb : b = a
      · exact .inr ⟨_, _, if_pos eb⟩
      · exact .inl (if_neg eb)
    · by_cases eb : b = a
      · subst eb
        rw [top] at z
        cases z
        exact ⟨ha, by rw [List.length_map]; exact few, us, _, rel, ha⟩
      · cases (if_neg eb).symm.trans z
    · apply Classical.byContradiction
      intro eb
      exact z (if_neg eb)
theorem walk_ofG {l : PySem.W.OpenLaw} {n k : Nat} {q : Program} {loose : List Str} {XP : (Str → Option Value) → Heap → Prop} {YP : World → Heap → Prop} {d : DefRec} {x : Str}
    (hn : l.most = some n) (hn2 : n ≤ sizeLine) (hdf : d.params.defaults = []) (room : Room k callerA)
    (F : ∀ (w : World) (mg : Str → Option Value) (fa : Addr) (h : Heap), YP w h → h.Ns mainGlobals mg → mg d.name = some (.ref fa) →
      ∃ (K : PySem.W.Frag) (fd : FuncData) (sp : Sp), K.In h ∧ (∀ (s : Shared) (u : Value), BindsTo s fd ⟨[u], []⟩ [(x, u)]) ∧
        (∀ (H : Hp) (a : Addr) (ns : List Int), ns.length ≤ n → Only H → SqL K H a (ns.map V.int) → sp [.ref a] H (fun v _ => v = .bl true) E0) ∧
        ∀ base : Heap, K.In base → base.Ns mainGlobals mg → FnG l.prog w K mg base k fa fd [x] sp) :
    PySem.W.WalkO q loose XP YP l.row.toRowW d [] (fun f vs => PySem.call f vs) := by
  refine Att.attach_call hn hdf fun w s₀ s₁ mg mb fa o pm cd doc a us ns G Y ho hd hcd hmg hobj hints few nogen => ?_
  obtain ⟨K, fd, sp, inK, binds, prom, hF⟩ := F w mg fa _ Y G.T.g hmg
  exact law_callG inK G.T.g G.T.b G.T.builtins G.T.nolimit nogen hobj hints (Nat.le_trans few hn2) room hF binds (fun H only scr => prom H a ns few only scr)
/-- repr of a list or a tuple of data, where no repr is under way -/
def rReprD (K : PySem.W.Frag) : List V → Hp → VK → Prop := fun xs H Q => ∃ (a : Addr) (d : PyData), xs = [.ref a] ∧ Dp K H (.ref a) d ∧ d.showable = true ∧ d.hasDict = false ∧ d.depth ≤ 100 ∧ d.shown.length ≤ sizeLine ∧ Q (.str d.shown) H
theorem call_reprD {X : Cx} (hg : X.A.guards = some []) (hu : X.A.units + 150 < cLine) : CallR X (.builtin "repr") (rReprD X.K) := by
  intro pins s σ H xs us Q I r h
  obtain ⟨a, d, rfl, hd, hs, hk, hz, hl, q⟩ := h
  cases r with
  | cons r1 r2 =>
    cases r2
    rename_i u
    obtain ⟨as, rd⟩ := Dp.reads I d _ _ hd r1
    obtain rfl : u = Value.ref a := r1
    refine repr_of_reads' rd hs (fun z => by rw [hk] at z; cases z) hg (by omega) (fun b o e => e) (fun h' t tk k => ?_) hl
    exact ⟨.str d.shown, H, I.kept k, ⟨t, rfl⟩, q⟩
end My
set_option Elab.async false
set_option linter.all false
set_option maxRecDepth 100000
set_option maxHeartbeats 4000000
namespace My
open PySem PySem.Spec PyProof.Rows L2
/-! ### list(reversed(a list)) -/
section
variable {prog : Program} {w : World} {A : Around} {E : Value → Shared → Prop} {s : Shared}
theorem call_list_back {it l : Addr} {items : Array Value} {Q : Value → Shared → Prop} (calm : A.handled = none) (hit : s.heap.IsRevIter it l ((items.size : Int) - 1)) (hl : s.heap.IsList l items) (hne : l ≠ it) (few : items.size ≤ sizeLine)
    (hQ : ∀ (h' : Heap) (tk : Nat) (acc : Array Value) (c : Nat), (∀ b o, b ≠ it → s.heap.get? b = some o → h'.get? b = some o) → h'.get? s.heap.objs.size = some { cls := .type "list", dict := none, data := .seq acc c, slots := #[] } → ItemsOf (fun i v => items[items.size - 1 - i]? = some v) acc items.size →
      Q (.ref s.heap.objs.size) { s with heap := h', toks := tk }) : wpAny (model prog w) A (call (.type "list") [.ref it]) Q E s := by
  obtain ⟨oi, ei, _⟩ := id hit
  obtain ⟨ol, el, _⟩ := id hl
  have ni : s.heap.objs.size ≠ it := (Nat.ne_of_lt (Heap.lt_size ei)).symm
  have nl : s.heap.objs.size ≠ l := (Nat.ne_of_lt (Heap.lt_size el)).symm
  have out : s.heap.objs.size ∉ [it, l] := by
    intro z
    rcases List.mem_cons.mp z with z | z
    · exact ni z
    · exact nl (List.mem_singleton.mp z)
  apply callType_codes (Q₁ := fun obj s₁ => obj = .ref s.heap.objs.size ∧ s₁ = { s with heap := s.heap.push { cls := .type "list", data := .seq #[] } }) F.called_list (F.typeCall_list_1 _) F.entry_list_init (code_list_new _ ⟨rfl, rfl⟩)
  rintro obj s₁ ⟨rfl, rfl⟩
  have fresh : (s.heap.push { cls := .type "list", data := .seq #[] }).get? s.heap.objs.size = some { cls := .type "list", data := .seq #[] } := Heap.get?_push_size _ rfl
  refine ⟨⟨_, fresh, rfl⟩, F.args_list_init_2 _ _, ?_⟩
  have W := (Walks.listRev (prog := prog) (w := w) (A := A.in1.in1) calm it l hne items).toS
  show wpAny _ _ (do let old ← Builtin.List.listItems (.ref s.heap.objs.size); Builtin.List.listUpdate (.ref s.heap.objs.size) (fun _ => #[]); letGo old.toList.reverse; Builtin.List.listExtendWith (.ref s.heap.objs.size) (.ref it) .none) _ _ _
  apply wpAny_bind
  unfold Builtin.List.listItems
  apply wpAny_bind
  refine wpAny_seqItems fresh rfl (wpAny_pure ?_)
  show wpAny _ _ (updateSeq s.heap.objs.size (fun _ => #[]) >>= fun _ => letGo (#[] : Array Value).toList.reverse >>= fun _ => Builtin.List.listExtendWith (.ref s.heap.objs.size) (.ref it) .none) _ _ _
  apply wpAny_bind
  refine wpAny_updateSeq fresh rfl ?_
  have fresh2 := Heap.get?_update_self (Obj.mapSeq (fun _ => (#[] : Array Value))) fresh rfl
  generalize eh : (s.heap.push { cls := .type "list", data := .seq #[] }).update s.heap.objs.size (Obj.mapSeq (fun _ => (#[] : Array Value))) = h2 at fresh2 ⊢
  have keep2 : ∀ b o, b ≠ s.heap.objs.size → s.heap.get? b = some o → h2.get? b = some o := by
    intro b o nb e
    rw [← eh, Heap.get?_update_other _ _ (Ne.symm nb)]
    exact Heap.get?_push_of_some _ e
  have hit2 : h2.IsRevIter it l ((items.size : Int) - 1) := hit.at fun o e => keep2 _ o (Ne.symm ni) e
  have hl2 : h2.IsList l items := by
    obtain ⟨o, e, r⟩ := hl
    exact ⟨o, keep2 _ o (Ne.symm nl) e, r⟩
  have tI : ({ s with heap := h2 } : Shared).TypeIs (.ref it) "list_reverseiterator" := Heap.IsRevIter.typeIs (s := { s with heap := h2 }) hit2
  have n1 : Builtin.List.listSameRef (.ref s.heap.objs.size) (.ref it) = false := by simp [Builtin.List.listSameRef, ni]
  apply wpAny_bind
  apply wpAny_letGo
  unfold Builtin.List.listExtendWith
  apply wpAny_bind
  refine wpAny_typeOf tI ?_
  rw [if_neg (by rw [n1]; decide)]
  apply wpAny_bind
  refine wpAny_pyIter_revIter (s := { s with heap := h2 }) hit2 ?_
  apply wpAny_bind
  apply wpAny_holding
  unfold Builtin.List.listLengthHint
  apply wpAny_bind
  refine wpAny_specialOf tI RT.nolen_lri ?_
  show wpAny _ _ (specialOf (Value.ref it) (Str.ofString "__length_hint__") >>= _) _ _ _
  apply wpAny_bind
  refine wpAny_specialOf tI RT.hint_lri ?_
  generalize idq : ("list_reverseiterator.__length_hint__" : String) = idr
  wp_delta
  rw [show splitId idr = some ("list_reverseiterator", "__length_hint__") from by subst idq; decide +kernel]
  subst idq
  apply wpAny_bind
  refine wpAny_isInstance (b := true) tI (by rw [isSubtype_type]; kernel_rfl) ?_
  apply wpAny_pure
  rw [if_neg (by decide)]
  have z0 : ((items.size : Nat) : Int) - 1 - ((0 : Nat) : Int) = (items.size : Int) - 1 := by omega
  refine wpAny_pure ⟨plainId_quiet F.plain_extend_loop _, codeAny_extend_loopS W few _ out _ items.size 0 _ _ _ rfl (Nat.zero_le _) ⟨Nat.zero_le _, by rw [z0]; exact hit2, hl2⟩ fresh2 (ItemsOf.nil _) ?_⟩
  intro s' acc c moved at' given
  rw [Moved.eq_with moved]
  refine ⟨rfl, hQ s'.heap s'.toks acc c (fun b o nb e => moved.heap b o (fun z => ?_) (keep2 b o (Nat.ne_of_lt (Heap.lt_size e)) e)) at' given⟩
  rcases List.mem_cons.mp z with z | z
  · exact Nat.ne_of_lt (Heap.lt_size e) z
  · exact nb (List.mem_singleton.mp z)
end
def tLstRev (K : PySem.W.Frag) (te : TE) : TE := fun σ H Q => te σ H fun v H1 => ∃ (a : Addr) (xs : List V), v = .ref a ∧ SqL K H1 a xs ∧ ∀ q, H1 q = none → Q (.ref q) (upd H1 q (.lst xs.reverse))
theorem pe_lstRev {X : Cx} {e : Expr} {te : TE} {p p2 pos pos2 : Pos} (hc : X.calm = true) (g1 : Gl X "list") (m1 : X.mg "list" = none) (g2 : Gl X "reversed") (m2 : X.mg "reversed" = none) (he : PE X e te)
    (h1 : starEach [e] X.env = (false, eval e X.env) :: starEach [] X.env := by rfl)
    (h2 : starEach [.Call (.Name "reversed" p2) [e] [] pos2] X.env = (false, eval (.Call (.Name "reversed" p2) [e] [] pos2) X.env) :: starEach [] X.env := by rfl) :
    PE X (.Call (.Name "list" p) [.Call (.Name "reversed" p2) [e] [] pos2] [] pos) (tLstRev X.K te) := by
  refine ⟨fun pins s σ H Q I h => Call_ (ld_blt I g1 m1 boot_list (PyProof.Rows.callWith_type1 (args_cons (Call_ (ld_blt I g2 m2 PyProof.Rows.boot_reversed (PyProof.Rows.callWith_type1 (args_cons (thn (he.run pins s σ H _ I h) ?_) h1) h1 rfl))) h2) h2 rfl))⟩
  rintro u s1 ⟨v, H1, I1, r1, a, xs, rfl, hq, q⟩
  obtain rfl : u = Value.ref a := r1
  apply args_nil
  obtain ⟨its, rv, pl, few⟩ := I1.list hq
  apply call_reversed_list pl.isList
  apply args_nil
  have keep0 : ∀ b o, s1.heap.get? b = some o → (s1.heap.push (revObj a ((its.toArray.size : Int) - 1))).get? b = some o := fun b o e => Heap.get?_push_of_some _ e
  have I2 : Inv X pins σ H1 { s1 with heap := s1.heap.push (revObj a ((its.toArray.size : Int) - 1)) } := I1.kept (t' := s1.toks) keep0
  have fp := I1.fpOk (H' := H1) (b := s1.heap.objs.size) (Nat.le_refl _) (I1.hok.fresh (Nat.le_refl _))
  have hl := pl.isList
  obtain ⟨ol, el, _⟩ := id hl
  have hne : a ≠ s1.heap.objs.size := Nat.ne_of_lt (Heap.lt_size el)
  refine call_list_back (s := { s1 with heap := s1.heap.push (revObj a ((its.toArray.size : Int) - 1)) }) (I1.ok.hd hc) ⟨_, Heap.get?_push_size _ rfl, rfl, rfl⟩ (hl.push _) hne (by rw [List.size_toArray, ← rv.length]; exact few) fun h' tk acc c kp at' given => ?_
  refine ⟨.ref _, _, Inv.turnedNew (ch := [s1.heap.objs.size]) (t' := tk) (ob := .lst xs.reverse) I2 (fun b o nb e => kp b o (fun z => nb (by rw [z]; exact List.mem_cons_self ..)) e) (fun b hb => ?_) (Nat.le_refl _) ?_, rfl, q _ (I2.hok.fresh (Nat.le_refl _))⟩
  · rw [List.mem_singleton.mp hb]
    exact fp
  · exact (show ObjOk X.prog X.w _ _ _ (.lst xs.reverse) from ⟨by rw [List.length_reverse]; exact few, acc.toList, c, RT.vals_rev rv given, by rw [Array.toArray_toList]; exact at'⟩)
/-! ### set(a list of ints) -/
section
variable {P : Program} {w : World} {A : Around} {E : Value → Shared → Prop} {s : Shared}
/-- T(args), its __new__ giving an object of T, its __init__'s own check told by hand -/
theorem callT_by {T newId initId : String} {Bi : Builtin} {args : List Value} {Q Q₁ : Value → Shared → Prop} (ft : TypeCalled T newId initId) (ok : checkTypeCall T ⟨args, []⟩ = pure ()) (entryI : entryFor table initId = some Bi)
    (made : codeAny (model P w) A.in1 (.call (.builtin newId) ⟨.type T :: args, []⟩) (wants Q₁ E) s)
    (next : ∀ obj s₁, Q₁ obj s₁ → s₁.TypeIs obj T ∧ codeAny (model P w) A.in1 (.call (.builtin initId) ⟨obj :: args, []⟩) (wants (fun r s₂ => r = .none ∧ Q obj s₂) E) s₁) :
    wpAny (model P w) A (call (.type T) args) Q E s := by
  obtain ⟨c, tl, m1⟩ := ft.mro
  have m2 := ft.made
  have m3 := ft.sub
  have m4 := ft.notType
  have m5 := ft.canCreate
  apply wpAny_call
  apply codeAny_of_tree
  show wpAny _ _ (callAny (.type T) _) _ _ _
  refine wpAny_pure ⟨Code.quiet_builtin _ (by decide +kernel), codeAny_builtin F.entry_type_call ?_⟩
  rw [Around.under_plain (weight_type_call_type T args []) rfl]
  repeat any_goals first | assumption | wp_step
  refine codeAny_mono made ?_
  rintro r s₁ hr
  match r, hr with
  | .error _, hr => exact hr
  | .ok .next, hr => exact False.elim hr
  | .ok .brk, hr => exact False.elim hr
  | .ok .cont, hr => exact False.elim hr
  | .ok (.ret obj), hr =>
    obtain ⟨tO, run⟩ := next _ _ hr
    have q1 := ft.init.lookup
    have q2 := ft.init.bind obj
    repeat any_goals first | assumption | wp_step
    refine codeAny_mono run ?_
    rintro r2 s₂ hr2
    match r2, hr2 with
    | .error _, hr2 => exact hr2
    | .ok .next, hr2 => exact False.elim hr2
    | .ok .brk, hr2 => exact False.elim hr2
    | .ok .cont, hr2 => exact False.elim hr2
    | .ok (.ret u), hr2 =>
      obtain ⟨rfl, hq⟩ := hr2
      repeat any_goals first | assumption | wp_step
theorem call_set_listI {l : Addr} {items : Array Value} (ks : List Int) {Q : Value → Shared → Prop} (calm : A.handled = none) (hl : s.heap.IsList l items) (hi : IntsAre items.toList ks) (few : ks.length + 1 < scanBound)
    (hQ : ∀ (h' : Heap) (tk c : Nat), SetR w h' s.heap.objs.size (fun j => decide (j ∈ ks)) c → c ≤ ks.length → (∀ b o, s.heap.get? b = some o → h'.get? b = some o) → Q (.ref s.heap.objs.size) { s with heap := h', toks := tk }) :
    wpAny (model P w) A (call (.type "set") [.ref l]) Q E s := by
  have size : items.size = ks.length := by rw [← Array.length_toList]; exact IntsAre.length hi
  apply callT_by (Q₁ := fun obj s₁ => obj = .ref s.heap.objs.size ∧ s₁ = { s with heap := s.heap.push { cls := .type "set", dict := none, data := .set #[] 0 (.fresh 0 0 (!w.params.followText "set-order")) } }) F.called_set (F.typeCall_set_1 _) F.entry_set_init (code_set_led1 _ ⟨rfl, rfl⟩)
  rintro obj s₁ ⟨rfl, rfl⟩
  generalize en : ({ cls := .type "set", dict := none, data := .set #[] 0 (.fresh 0 0 (!w.params.followText "set-order")) } : Obj) = new
  have fresh : (s.heap.push new).get? s.heap.objs.size = some new := Heap.get?_push_size _ (by rw [← en]; rfl)
  have clsNew : new.cls = .type "set" := by rw [← en]
  have tNew : Shared.TypeIs { s with heap := s.heap.push new } (.ref s.heap.objs.size) "set" := ⟨_, fresh, clsNew⟩
  refine ⟨tNew, codeAny_call_builtin F.called_set.init.plain F.entry_set_init (check_set_init_1 tNew ?_)⟩
  obtain ⟨ol, el, cl, nl, dl⟩ := hl
  obtain ⟨c1, d1, a1, b1⟩ := ol
  simp only at cl dl
  subst cl
  subst dl
  have el' : (s.heap.push new).get? l = some { cls := .type "list", dict := d1, data := .seq items nl, slots := b1 } := Heap.get?_push_of_some _ el
  have k1 := F.sub_list_set
  have k2 := F.sub_list_frozenset
  have k3 : (Value.type "list" == Value.type "dict") = false := by decide
  have hl1 : (s.heap.push new).IsList l items := ⟨_, el', rfl, nl, rfl⟩
  subst en
  unfold Builtin.«set.__init__» noKeywords Builtin.Frozenset.updateFrom
  generalize ePI : pyIter = PI
  wp_walk
  subst ePI
  apply wpAny_pyIter_list hl1
  apply wpAny_bind
  apply wpAny_runValue
  have lS : l < s.heap.objs.size := Heap.lt_size el
  generalize en : ({ cls := .type "set", dict := none, data := .set #[] 0 (.fresh 0 0 (!w.params.followText "set-order")) } : Obj) = new at *
  have sz1 : (s.heap.push new).objs.size = s.heap.objs.size + 1 := Heap.size_push ..
  have nI : l ≠ (s.heap.push new).objs.size := by
    rw [sz1]
    exact Nat.ne_of_lt (Nat.lt_succ_of_lt lS)
  have nS : s.heap.objs.size ∉ [(s.heap.push new).objs.size, l] := by
    intro z
    rcases List.mem_cons.mp z with z | z
    · rw [sz1] at z
      exact Nat.ne_of_lt (Nat.lt_succ_self _) z
    · exact Nat.ne_of_lt lS (List.mem_singleton.mp z).symm
  have each : ∀ (i : Nat) (v : Value), items[i]? = some v → ∃ k t, ks[i]? = some k ∧ v = .int k t := by
    intro i v hv
    have hi' : i < ks.length := by
      rw [← size]
      exact (Array.getElem?_eq_some_iff.mp hv).1
    obtain ⟨t, e⟩ := PyProof.Rows.IntsAre.int_at hi i v (by rw [Array.getElem?_toList]; exact hv)
    refine ⟨ks[i], t, List.getElem?_eq_getElem hi', ?_⟩
    rw [e, List.getD_eq_getElem?_getD, List.getElem?_eq_getElem hi'] <;> rfl
  have calm3 : A.in1.in1.in1.handled = none := calm
  refine set_update_ints ((Walks.list calm3 _ l nI items).toS) s.heap.objs.size nS ks size few each (items.size - 0) 0 _ (by omega) (Nat.zero_le _) ⟨⟨_, Heap.get?_push_size _ rfl, rfl, rfl⟩, hl1.push _⟩ ?start ?fin
  case start =>
    subst en
    exact ⟨0, Nat.le_refl 0, setR_new_at (Heap.get?_push_of_some _ fresh)⟩
  case fin =>
    rintro ⟨h', g2, d', tk', os'⟩ c' moved le R
    obtain rfl : g2 = s.gens := moved.gens
    obtain rfl : d' = s.drawn := moved.drawn
    obtain rfl : os' = s.os := moved.os
    show wpAny _ _ _ _ _ _
    apply wpAny_pure
    show wpAny _ _ (ret Value.none) _ _ _
    refine wpAny_pure ⟨rfl, hQ h' tk' c' R (by omega) fun b o e => moved.heap b o (fun z => ?_) (Heap.get?_push_of_some _ (Heap.get?_push_of_some _ e))⟩
    have lb := Heap.lt_size e
    rcases List.mem_cons.mp z with z | z
    · exact Nat.ne_of_lt lb z
    · have z2 := List.mem_singleton.mp z
      rw [sz1] at z2
      exact Nat.ne_of_lt (Nat.lt_succ_of_lt lb) z2
end
/-- set(a list of ints) -/
def rSetL (K : PySem.W.Frag) (w : World) : List V → Hp → VK → Prop := fun xs H Q => ∃ (l : Addr) (ks : List Int), xs = [V.ref l] ∧ SqL K H l (ks.map V.int) ∧ ks.length ≤ 1000 ∧ ∀ (p : Addr) (c : Nat), H p = none → c ≤ ks.length → Q (.ref p) (upd H p (SetO w p (fun j => decide (j ∈ ks)) c))
theorem cr_setL {X : Cx} (hc : X.calm = true) : CallR X (.type "set") (rSetL X.K X.w) := by
  rintro pins s σ H xs us Q I r ⟨l, ks, rfl, hq, few, q⟩
  rw [Vals.ref1 r]
  obtain ⟨its, rv, pl, _⟩ := I.list hq
  refine call_set_listI ks (I.ok.hd hc) pl.isList (by simpa using ints_of_vals rv) (by unfold scanBound; omega) fun h' tk c R le keep => ?_
  exact ⟨.ref _, _, I.laid keep (Nat.le_refl _) (setO_new R), rfl, q _ c (I.hok.fresh (Nat.le_refl _)) le⟩
end My
set_option Elab.async false
set_option linter.all false
set_option maxRecDepth 100000
set_option maxHeartbeats 4000000
namespace My
open PySem PySem.Spec PyProof.Rows L2
/-! ### calls that may raise, what they raise wished for at the caller's slots -/
def tMkS (C : Addr) (sp : Sp) (E : L2.St → XK) (t : TA) : TE := fun σ H Q => t σ H fun vs H1 => ∀ x dx, H1 x = none → H1 dx = none → dx ≠ x →
  sp (.ref x :: vs) (upd (upd H1 dx (.own x)) x (.ins C dx [])) (fun v H2 => v = .non ∧ Q (.ref x) H2) (E σ)
def tMtS (C : Addr) (m : Str) (sp : Sp) (dvs : List V) (E : L2.St → XK) (ta : TE) (t : TA) : TE := fun σ H Q => ta σ H fun x H1 => ∃ a dx fs, x = .ref a ∧ H1 a = some (.ins C dx fs) ∧ fs.lookup m = none ∧
  t σ H1 fun vs H2 => sp (x :: (vs ++ dvs)) H2 Q (E σ)
section
variable {X : Cx} {CX : CXT} {k : Nat} {f C : Addr} {fd : FuncData} {ps : List Str} {sp : Sp} {dvs : List V} {ds : List Value} {E : L2.St → XK} {x m : Str} {p pos apos : Pos} {e o : Expr} {es : List Expr} {ta : TE} {t : TA}
theorem run_at {pins : List (Addr × Obj)} {σ : L2.St} {H : Hp} {s : Shared} {Q : VK} {us : List Value} {vs : List V} (F : FnOk X.prog X.w X.K X.mg X.base CX k f fd ps sp) (hr : Room k X.A) (hb : Binds X.K fd ps ds) (hd : Vals dvs ds) (hx : PassesAt CX X σ (E σ))
    (I : Inv X pins σ H s) (rel : Vals vs us) (h : sp (vs ++ dvs) H Q (E σ)) : wpAny (model X.prog X.w) X.A (call (.ref f) us) (EP X pins σ Q) X.xe s := by
  have rel2 : Vals (vs ++ dvs) (us ++ ds) := rel.append hd
  have lens : (us ++ ds).length = ps.length := rel2.length.symm.trans (F.len _ _ _ _ h)
  have ran := F.run X.A X.stack s H ⟨us, []⟩ (us ++ ds) (vs ++ dvs) Q (E σ) hr I.env0 (hb s us I.kIn lens) rel2 h
  apply wpAny_call
  refine codeAny_mono ran ?_
  rintro r s' ended
  match r, ended with
  | .error u, z => exact hx pins H s u s' I z
  | .ok (.ret u), z => exact I.after z
  | .ok .next, z => exact False.elim z
  | .ok .brk, z => exact False.elim z
  | .ok .cont, z => exact False.elim z
theorem pe_mtS {pl : Sem Bool} (he : PE X o ta) (c : Cls X.K C) (hm : Meth X.K C m f) (F : FnOk X.prog X.w X.K X.mg X.base CX k f fd ps sp) (hr : Room k X.A) (hb : Binds X.K fd ps ds) (hd : Vals dvs ds) (hx : ∀ σ, PassesAt CX X σ (E σ)) (ha : PA X (e :: es) t)
    (h1 : starEach (e :: es) X.env = (false, eval e X.env) :: starEach es X.env := by rfl) (h2 : (backTo pos (starEach es X.env)).any (·.1) = false := by rfl)
    (h3 : eval (.Call (.Attribute o m apos) (e :: es) [] pos) X.env = (do
      let ov ← eval o X.env
      standAt apos.atName
      let (f, first) ← holding [ov] (getMethod ov m pl)
      callWith pos f first (backTo pos (starEach (e :: es) X.env)) (backToKw pos (keywordEach [] X.env))) := by rfl) :
    PE X (.Call (.Attribute o m apos) (e :: es) [] pos) (tMtS C m sp dvs E ta t) := by
  constructor
  intro pins s σ H Q I h
  apply PySem.W.methodCall_KW (pl := pl) (thn (he.run pins s σ H _ I h) _) h3
  rintro u s1 ⟨y, H1, I1, ry, a, dx, fs, rfl, ea, l, q⟩
  obtain rfl : u = Value.ref a := ry
  apply getmeth_ok I1 ea c hm l
  apply PySem.W.callWith_K (first := [.ref a]) (h₀ := X.base) I.ok.mod.kin hm.kp (thn (ha.run pos pins s1 σ H1 _ I1 q) _) h1 h2
  rintro us s2 ⟨vs, H2, I2, r, q2⟩
  exact ⟨I2.kIn, run_at (us := .ref a :: us) (vs := .ref a :: vs) F hr hb hd (hx σ) I2 (.cons rfl r) q2⟩
theorem pe_mkS (M : Mk X.K C f) (F : FnOk X.prog X.w X.K X.mg X.base CX k f fd ps sp) (hr : Room (k + 1) X.A) (hg : Gl X x) (hm : X.mg x = some (.ref C)) (hb : Binds X.K fd ps []) (hx : ∀ σ, PassesAt CX X σ (E σ))
    (ha : PA X (e :: es) t) (h0 : (x == ("__debug__" : Str)) = false := by decide) (h1 : starEach (e :: es) X.env = (false, eval e X.env) :: starEach es X.env := by rfl) (h2 : (backTo pos (starEach es X.env)).any (·.1) = false := by rfl) :
    PE X (.Call (.Name x p) (e :: es) [] pos) (tMkS C sp E t) := by
  constructor
  intro pins s0 σ H Q I h
  apply wpAny_Call_Name_kw
  apply ld_glob I hg hm _ h0
  apply PySem.W.callWith_K (h₀ := X.base) I.ok.mod.kin M.kp (thn (ha.run pos pins s0 σ H _ I h) _) h1 h2
  rintro us s ⟨vs, H1, I1, rel, q⟩
  refine ⟨I1.kIn, ?_⟩
  show wpAny _ _ (call (.ref C) us) _ _ _
  have wish := q (s.heap.objs.size + 1) s.heap.objs.size (I1.hok.fresh (Nat.le_succ _)) (I1.hok.fresh (Nat.le_refl _)) (Nat.ne_of_lt (Nat.lt_succ_self _))
  have J := Inv.made (C := C) I1
  have rel2 : Vals (V.ref (s.heap.objs.size + 1) :: vs) (Value.ref (s.heap.objs.size + 1) :: us) := .cons rfl rel
  have lens : (Value.ref (s.heap.objs.size + 1) :: us).length = ps.length := rel2.length.symm.trans (F.len _ _ _ _ wish)
  have bound := hb _ (Value.ref (s.heap.objs.size + 1) :: us) J.kIn (by rw [List.append_nil]; exact lens)
  rw [List.append_nil] at bound
  have ran := F.run _ X.stack _ _ ⟨Value.ref (s.heap.objs.size + 1) :: us, []⟩ (Value.ref (s.heap.objs.size + 1) :: us) _ _ (E σ) (hr.make C us []) (J.env0.make C us []) bound rel2 wish
  refine wpAny_call (make_map (f := f) I1.kIn M.makes M.init (beq_iff_eq.mp M.fn) (codeAny_mono ran ?_))
  rintro r s' ended
  match r, ended with
  | .error u, z => exact hx σ pins _ _ u s' J z
  | .ok .next, z => exact False.elim z
  | .ok .brk, z => exact False.elim z
  | .ok .cont, z => exact False.elim z
  | .ok (.ret u), z =>
    obtain ⟨v, H', J2, rv, rfl, q3⟩ := J.after z
    exact ⟨rv, V.ref (s.heap.objs.size + 1), H', J2, rfl, q3⟩
end
/-! ### raise C(e, ..), C with an __init__ of its own, its context None -/
section
variable {X : Cx} {e : Expr} {es : List Expr} {ta : TA} {p pos : Pos}
/-- what a new exception's __init__ must promise -/
def mkWish (C : Addr) (sp : Sp) (vs : List V) (H1 : Hp) (Q : XK) : Prop := vs.length ≤ 1000 ∧ ∀ a, H1 a = none → sp (.ref a :: vs) (upd H1 a (exo a C none))
  (fun v H2 => v = .non ∧ ∃ (d : Addr) (fs : List (Str × V)), H2 a = some (exo a C (some d)) ∧ H2 d = some (exd d fs) ∧ H1 d = none ∧ Q (.ref C) (some d) (upd (del H2 a) d (.xd fs))) E0
theorem pmk_oexN {CX : CXT} {x : Str} {C fI : Addr} {k : Nat} {fd : FuncData} {ps : List Str} {sp : Sp} {R : List V → Hp → XK → Prop} (cv : ∀ vs H1 Q, R vs H1 Q → mkWish C sp vs H1 Q) (T : OexC X.K C) (iC : PySem.W.findIn X.K (.ref C) "__init__" = some (some (.ref fI))) (tI : PySem.W.typeIn X.K (.ref fI) = some (.type "function"))
    (F1 : FnOk X.prog X.w X.K X.mg X.base CX k fI fd ps sp) (hr : Room (k + 1) X.A) (hb : Binds X.K fd ps []) (hx : Passes CX X (fun _ _ _ => False)) (hg : Gl X x) (hm : X.mg x = some (.ref C)) (ha : PA X (e :: es) ta)
    (h0 : (x == ("__debug__" : Str)) = false := by decide) (h1 : starEach (e :: es) X.env = (false, eval e X.env) :: starEach es X.env := by rfl) (h2 : (backTo pos (starEach es X.env)).any (·.1) = false := by rfl) :
    L2N.PMk X (.Call (.Name x p) (e :: es) [] pos) (fun σ H Q => ta σ H fun vs H1 => R vs H1 Q) := by
  obtain ⟨nm, qn, N, bs, bm, sn, sub, ab, col, dd, k0, k1, k2, k3, k5, hC, hbm⟩ := T.cls
  intro pins s0 σ H Q I h
  apply wpAny_Call_Name_kw
  apply ld_glob I hg hm _ h0
  apply PySem.W.callWith_K (h₀ := X.base) I.ok.mod.kin T.kC (thn (ha.run pos pins s0 σ H _ I h) _) h1 h2
  rintro us ⟨heap, gens, drawn, toks, world⟩ ⟨vs, H1, I1, rel, told⟩
  obtain ⟨few, q⟩ := cv _ _ _ told
  refine ⟨I1.kIn, ?_⟩
  show wpAny _ _ (call (.ref C) us) _ _ _
  have le1 : heap.objs.size ≤ heap.objs.size + 1 := Nat.le_succ _
  have wish := q (heap.objs.size + 1) (I1.hok.fresh le1)
  have keep : ∀ b o, heap.get? b = some o → ((heap.push (PySem.W.kdv_tup us)).push (PySem.HandSPX.excO C heap.objs.size)).get? b = some o := fun b o z => Heap.get?_push_of_some _ (Heap.get?_push_of_some _ z)
  have lies : ((heap.push (PySem.W.kdv_tup us)).push (PySem.HandSPX.excO C heap.objs.size)).get? (heap.objs.size + 1) = some (PySem.HandSPX.excO C heap.objs.size) := by heap_get
  have J : Inv X pins σ (upd H1 (heap.objs.size + 1) (exo (heap.objs.size + 1) C none)) ⟨(heap.push (PySem.W.kdv_tup us)).push (PySem.HandSPX.excO C heap.objs.size), gens, drawn, toks, world⟩ := Inv.laid (t' := toks) I1 keep le1 (exo_ok lies)
  have rel2 : Vals (V.ref (heap.objs.size + 1) :: vs) (Value.ref (heap.objs.size + 1) :: us) := .cons rfl rel
  have lens : (Value.ref (heap.objs.size + 1) :: us).length = ps.length := rel2.length.symm.trans (F1.len _ _ _ _ wish)
  have fits : us.length ≤ sizeLine := by
    rw [← rel.length, sizeLine_eq]
    omega
  have bound := hb _ (Value.ref (heap.objs.size + 1) :: us) J.kIn (by rw [List.append_nil]; exact lens)
  rw [List.append_nil] at bound
  have ran := F1.run _ X.stack _ _ ⟨Value.ref (heap.objs.size + 1) :: us, []⟩ (Value.ref (heap.objs.size + 1) :: us) _ _ (fun _ _ _ => False) (hr.make C us []) (J.env0.make C us []) bound rel2 wish
  refine wpAny_call (PySem.HandSPX.call_own F.excBase_ValueError (fun Y => PySem.HandSPX.refsVE_contains Y bm hbm) (I1.kIn _ _ hC) (PySem.W.looks_findIn I1.kIn iC) (fun self => PySem.W.bind_fn I1.kIn self tI) fits (codeAny_mono ran ?_))
  rintro r s' ended
  match r, ended with
  | .error u, z => exact hx pins σ _ _ u s' J z
  | .ok .next, z => exact False.elim z
  | .ok .brk, z => exact False.elim z
  | .ok .cont, z => exact False.elim z
  | .ok (.ret u), ⟨v, H2, os2, bare2, un2, hok2, rv, ev, d, fs, ea, ed, hd1, q2⟩ =>
    subst ev
    obtain ⟨h2', g2, d2, t2, os'⟩ := s'
    obtain ⟨t0, G, J2, kG, ge, hoe, na⟩ := mk_end0 (d2 := d2) (t2 := t2) I1 le1 keep un2 hok2 os2 bare2 ea ed hd1
    refine ⟨rv, _, _, _, ⟨G, g2, d2, t2, os'⟩, _, .ref C, some d, rfl, J2, kG, ge, hoe, ⟨rfl, rfl, ?_⟩, rfl, rfl, na, rfl, bare2, raises_own T.exC T.tyC, q2⟩
    intro ws ew
    cases ew
    rfl
end
/-! ### == by an own __eq__, whatever it says -/
def rEqOwn (K : PySem.W.Frag) (C : Addr) (sp : Sp) : R2 := fun x y H Q => ∃ (a dx : Addr) (fs : List (Str × V)) (tb : Value), x = .ref a ∧ H a = some (.ins C dx fs) ∧ TyX K H y tb ∧ PySem.W.notFirst K C tb = true ∧
  sp [x, y] H (fun v H' => (∃ b, v = .bl b) ∧ Q v H') E0
theorem op_eqOwn {X : Cx} {n : Nat} {C f : Addr} {fd : FuncData} {ps : List Str} {sp : Sp} (F : FnOk X.prog X.w X.K X.mg X.base CX0 n f fd ps sp) (hr : Room n X.A)
    (hs : PySem.W.findIn X.K (.ref C) "__eq__" = some (some (.ref f))) (hf : PySem.W.isFn X.K (.ref f) = true) (hb : Binds X.K fd ps []) : OpR X (compareOp .Eq) (rEqOwn X.K C sp) := by
  rintro pins s σ H x y v u Q I rx ry ⟨a, dx, fs, tb, rfl, ha, ty, nf, h⟩
  obtain rfl : v = Value.ref a := rx
  show wpAny (model X.prog X.w) X.A (richCompare .Eq (.ref a) u) (EP X pins σ Q) X.xe s
  obtain ⟨mA, J, _⟩ := ins_get I.hok ha
  obtain ⟨od, J, _⟩ := J.look
  obtain ⟨m, hF⟩ := I.fr
  obtain ⟨P, kx, px, _⟩ := kit_of I ry ty
  have rel : Vals [V.ref a, y] [Value.ref a, u] := .cons rfl (.cons ry .nil)
  have lens := F.len _ _ _ _ h
  have bound := hb s [.ref a, u] I.kIn (by simpa using lens)
  rw [List.append_nil] at bound
  refine PySem.W.cmp_K (op := .Eq) (tb := tb) hr.units0 hF I.ok.mod.kin J ?looks nf hs hf ?_
  case looks => exact kx.ty _ _ I.kIn px
  refine wpAny_call (codeAny_mono (F.run X.A X.stack s H ⟨[.ref a, u], []⟩ [.ref a, u] [.ref a, y] _ E0 hr I.env0 bound rel h) ?_)
  rintro r s' ended
  match r, ended with
  | .error u, z => exact False.elim z
  | .ok .next, z => exact False.elim z
  | .ok .brk, z => exact False.elim z
  | .ok .cont, z => exact False.elim z
  | .ok (.ret w), z =>
    obtain ⟨v, H', J2, rv, ⟨b, rfl⟩, q⟩ := I.after z
    obtain rfl : w = Value.bool b := rv
    exact ⟨.bl b, H', J2, rfl, q⟩
end My
set_option Elab.async false
set_option linter.all false
set_option maxRecDepth 100000
set_option maxHeartbeats 4000000
namespace My
open PySem PySem.Spec PyProof.Rows L2
/-! ### data that values stand for -/
/-! no list and no dict in it -/
mutual
def tupD : PyData → Bool
  | .list _ => false
  | .dict _ => false
  | .tuple ds => decide (ds.length ≤ 1000) && tupDs ds
  | .none => true
  | .bool _ => true
  | .int _ => true
  | .str _ => true
def tupDs : List PyData → Bool
  | [] => true
  | d :: ds => tupD d && tupDs ds
end
/-! how deep tuples stand in one another -/
mutual
def dep : PyData → Nat
  | .tuple ds => depAll ds + 1
  | .list ds => depAll ds + 1
  | .dict _ => 0
  | .none => 0
  | .bool _ => 0
  | .int _ => 0
  | .str _ => 0
def depAll : List PyData → Nat
  | [] => 0
  | d :: ds => max (dep d) (depAll ds)
end
theorem tupDs_mem : ∀ {ds : List PyData} {d : PyData}, tupDs ds = true → d ∈ ds → tupD d = true
  | e :: ds, d, h, m => by
    have h' : (tupD e && tupDs ds) = true := by rw [tupDs] at h; exact h
    rw [Bool.and_eq_true] at h'
    rcases List.mem_cons.mp m with z | z
    · rw [z]; exact h'.1
    · exact tupDs_mem h'.2 z
theorem tupDs_of : ∀ {ds : List PyData}, (∀ d ∈ ds, tupD d = true) → tupDs ds = true
  | [], _ => by rw [tupDs]
  | e :: ds, h => by
    rw [tupDs, h e (List.mem_cons_self ..), tupDs_of fun d m => h d (List.mem_cons_of_mem _ m)]
    rfl
theorem depAll_mem : ∀ {ds : List PyData} {d : PyData}, d ∈ ds → dep d ≤ depAll ds
  | e :: ds, d, m => by
    rw [depAll]
    rcases List.mem_cons.mp m with z | z
    · rw [z]; exact Nat.le_max_left _ _
    · exact Nat.le_trans (depAll_mem z) (Nat.le_max_right _ _)
section
variable {K : PySem.W.Frag} {H H' : Hp}
mutual
theorem dp_keep (s : Same H H') : ∀ (d : PyData) (v : V), Dp K H v d → Dp K H' v d
  | .none, _, .non => .non
  | .bool b, _, .bl _ => .bl b
  | .int i, _, .int _ => .int i
  | .str x, _, .str _ => .str x
  | .list ds, _, .lst h a => .lst (s.seq h) (dpAll_keep s ds _ a)
  | .tuple ds, _, .tup h a => .tup (seqT_keep h s) (dpAll_keep s ds _ a)
theorem dpAll_keep (s : Same H H') : ∀ (ds : List PyData) (vs : List V), DpAll K H vs ds → DpAll K H' vs ds
  | [], _, .nil => .nil
  | d :: ds, _, .cons h a => .cons (dp_keep s d _ h) (dpAll_keep s ds _ a)
end
theorem dpAll_len : ∀ {vs : List V} {ds : List PyData}, DpAll K H vs ds → vs.length = ds.length
  | _, _, .nil => rfl
  | _, _, .cons _ a => congrArg (· + 1) (dpAll_len a)
theorem dpAll_get : ∀ {vs : List V} {ds : List PyData}, DpAll K H vs ds → ∀ {i : Nat} {x : V}, vs[i]? = some x → ∃ d, ds[i]? = some d ∧ Dp K H x d
  | _, _, .nil, i, x, e => by simp at e
  | _, _, @DpAll.cons _ _ v vs d ds h a, 0, x, e => ⟨d, rfl, by
      have z : v = x := Option.some.inj e
      rw [← z]; exact h⟩
  | _, _, .cons _ a, i + 1, x, e => dpAll_get a (i := i) e
theorem dpAll_getD : ∀ {vs : List V} {ds : List PyData}, DpAll K H vs ds → ∀ {i : Nat} {d : PyData}, ds[i]? = some d → ∃ x, vs[i]? = some x ∧ Dp K H x d
  | _, _, .nil, i, x, e => by simp at e
  | _, _, @DpAll.cons _ _ v vs d ds h a, 0, x, e => ⟨v, rfl, by
      have z : d = x := Option.some.inj e
      rw [← z]; exact h⟩
  | _, _, .cons _ a, i + 1, x, e => dpAll_getD a (i := i) e
theorem dpAll_snoc : ∀ {vs : List V} {ds : List PyData} {v : V} {d : PyData}, DpAll K H vs ds → Dp K H v d → DpAll K H (vs ++ [v]) (ds ++ [d])
  | _, _, _, _, .nil, h => .cons h .nil
  | _, _, _, _, .cons h a, g => .cons h (dpAll_snoc a g)
theorem dpAll_ints : ∀ {ns : List Int}, DpAll K H (ns.map V.int) (ns.map PyData.int)
  | [] => .nil
  | n :: ns => .cons (.int n) dpAll_ints
theorem dpAll_intsV : ∀ {ns : List Int} {vs : List V}, DpAll K H vs (ns.map PyData.int) → vs = ns.map V.int
  | [], _, .nil => rfl
  | n :: ns, _, .cons h a => by
    cases h
    rw [dpAll_intsV a]
    rfl
/-! such data do not mind what a list holds -/
mutual
theorem dp_put {a : Addr} {xs ys : List V} (e : H a = some (.lst xs)) : ∀ (d : PyData) (v : V), tupD d = true → Dp K H v d → Dp K (upd H a (.lst ys)) v d
  | .none, _, _, .non => .non
  | .bool b, _, _, .bl _ => .bl b
  | .int i, _, _, .int _ => .int i
  | .str x, _, _, .str _ => .str x
  | .list ds, _, t, _ => by rw [tupD] at t; cases t
  | .tuple ds, _, t, @Dp.tup _ _ b zs _ h al => by
    rw [tupD, Bool.and_eq_true] at t
    refine .tup ?_ (dpAll_put e ds _ t.2 al)
    rcases h with (h | ⟨o, h⟩) | h
    · exact .inl (.inl (by rw [upd_ne (fun z => by rw [z, e] at h; cases h)]; exact h))
    · exact .inl (.inr ⟨o, by rw [upd_ne (fun z => by rw [z, e] at h; cases h)]; exact h⟩)
    · exact .inr h
theorem dpAll_put {a : Addr} {xs ys : List V} (e : H a = some (.lst xs)) : ∀ (ds : List PyData) (vs : List V), tupDs ds = true → DpAll K H vs ds → DpAll K (upd H a (.lst ys)) vs ds
  | [], _, _, .nil => .nil
  | d :: ds, _, t, .cons h al => by
    rw [tupDs, Bool.and_eq_true] at t
    exact .cons (dp_put e d _ t.1 h) (dpAll_put e ds _ t.2 al)
end
def tyD : PyData → String
  | .none => "NoneType"
  | .bool _ => "bool"
  | .int _ => "int"
  | .str _ => "str"
  | .list _ => "list"
  | .tuple _ => "tuple"
  | .dict _ => "dict"
theorem dp_ty {x : V} {d : PyData} (h : Dp K H x d) : TyX K H x (.type (tyD d)) := by
  cases h with
  | non => exact .base .non
  | bl b => exact .base (.bl b)
  | int i => exact .base (.int i)
  | str z => exact .base (.str z)
  | lst h _ =>
    rcases h with (h | ⟨o, h⟩) | ⟨o, its, n, h, c, _⟩
    · exact .base (.lst h)
    · exact .base (.frz h)
    · exact .kList h c
  | tup h _ =>
    rcases h with (h | ⟨o, h⟩) | ⟨o, its, n, h, c, _⟩
    · exact .base (.tup h)
    · exact .fTuple h
    · exact .kTuple h c
theorem tyD_cases (d : PyData) : tyD d = "NoneType" ∨ tyD d = "bool" ∨ tyD d = "int" ∨ tyD d = "str" ∨ tyD d = "list" ∨ tyD d = "tuple" ∨ tyD d = "dict" := by
  cases d <;> simp [tyD]
theorem kit_dTuple (d : PyData) : PySem.W.kitOne K (.type (tyD d)) (.type "tuple") = some (decide (tyD d = "tuple")) := by
  rcases tyD_cases d with h | h | h | h | h | h | h <;> (rw [h]; exact kit_ty (by decide +kernel))
theorem kit_dList (d : PyData) : PySem.W.kitOne K (.type (tyD d)) (.type "list") = some (decide (tyD d = "list")) := by
  rcases tyD_cases d with h | h | h | h | h | h | h <;> (rw [h]; exact kit_ty (by decide +kernel))
theorem kit_dBool (d : PyData) : PySem.W.kitOne K (.type (tyD d)) (.type "bool") = some (decide (tyD d = "bool")) := by
  rcases tyD_cases d with h | h | h | h | h | h | h <;> (rw [h]; exact kit_ty (by decide +kernel))
theorem kit_dStr (d : PyData) : PySem.W.kitOne K (.type (tyD d)) (.type "str") = some (decide (tyD d = "str")) := by
  rcases tyD_cases d with h | h | h | h | h | h | h <;> (rw [h]; exact kit_ty (by decide +kernel))
theorem kit_dInt (d : PyData) : PySem.W.kitOne K (.type (tyD d)) (.type "int") = some (decide (tyD d = "int") || decide (tyD d = "bool")) := by
  rcases tyD_cases d with h | h | h | h | h | h | h <;> (rw [h]; exact kit_ty (by decide +kernel))
theorem kit_dSeq (d : PyData) : PySem.W.kitAny K (.type (tyD d)) [.type "list", .type "tuple"] = some (seqT (tyD d)) := by
  have h1 := kit_dList (K := K) d
  have h2 := kit_dTuple (K := K) d
  unfold seqT
  refine kitAny_cons h1 (fun e1 => ?_) (fun e1 => by rw [e1]; rfl)
  rw [e1, Bool.false_or]
  exact kitAny_cons h2 (fun e2 => by rw [e2]; exact kitAny_nil) (fun e2 => by rw [e2])
/-- [f(x) for x in xs] over a list or a tuple of data, the results' data tuples at most -/
theorem lcDg {te ti : TE} {j : Nat} {vs : List Nat} {σ : L2.St} {a : Addr} {xs : List V} {ds : List PyData} {g : PyData → PyData} {Q : VK} (hv : ∀ R : VK, R (.ref a) H → ti σ H R) (hs : SqV K H a xs) (hz : xs.length ≤ sizeLine) (hd : DpAll K H xs ds) (hg : ∀ d ∈ ds, tupD (g d) = true)
    (hw : ∀ x, wipe ((wipe σ vs).set j (some x)) vs = wipe σ vs)
    (ht : ∀ (x : V) (d : PyData), d ∈ ds → ∀ (H' : Hp) (R : VK), Same H H' → Dp K H' x d → (∀ y H'', Same H' H'' → Dp K H'' y (g d) → R y H'') → te ((wipe σ vs).set j (some x)) H' R)
    (hq : ∀ (D : Addr) (ys : List V) (H' : Hp), Same H H' → H D = none → H' D = some (.lst ys) → DpAll K H' ys (ds.map g) → Q (.ref D) H') : tLc (iSeq K ti) (gName j) tYes te vs σ H Q := by
  have len := dpAll_len hd
  have step : ∀ (D : Addr), H D = none → ∀ i x H', xs[i]? = some x → (Same H H' ∧ ∃ ys, H' D = some (.lst ys) ∧ DpAll K H' ys ((ds.take i).map g)) → gName j x (wipe σ vs) H' fun σ2 H2 => wipe σ2 vs = wipe σ vs ∧ tYes σ2 H2 fun b H3 =>
      if b = true then te σ2 H3 fun y H4 => ∃ acc, H4 D = some (.lst acc) ∧ acc.length < sizeLine ∧ (Same H (upd H4 D (.lst (acc ++ [y]))) ∧ ∃ ys, (upd H4 D (.lst (acc ++ [y]))) D = some (.lst ys) ∧ DpAll K (upd H4 D (.lst (acc ++ [y]))) ys ((ds.take (i + 1)).map g)) else (Same H H3 ∧ ∃ ys, H3 D = some (.lst ys) ∧ DpAll K H3 ys ((ds.take (i + 1)).map g)) := by
    rintro D nD i x H' hi ⟨s1, ys, hD, hys⟩
    refine ⟨hw x, ?_⟩
    unfold tYes
    dsimp only
    rw [if_pos rfl]
    obtain ⟨d, ed, hxd⟩ := dpAll_get (dpAll_keep s1 _ _ hd) hi
    have md := List.mem_of_getElem? ed
    have hlt : i < xs.length := (List.getElem?_eq_some_iff.mp hi).1
    refine ht x d md H' _ s1 hxd fun y H4 s4 hy => ⟨ys, s4 _ _ hD, ?_, same_but (s1.trans s4) nD, ys ++ [y], upd_same, ?_⟩
    · rw [dpAll_len hys, List.length_map, List.length_take]
      omega
    · rw [List.take_add_one, ed, List.map_append]
      refine dpAll_put (s4 _ _ hD) _ _ (tupDs_of fun e he => ?_) (dpAll_snoc (dpAll_keep s4 _ _ hys) hy)
      rcases List.mem_append.mp he with z | z
      · obtain ⟨d', m', rfl⟩ := List.mem_map.mp z
        exact hg d' (List.mem_of_mem_take m')
      · rw [List.mem_singleton.mp z]
        exact hg d md
  rcases hs with hs | hs
  · refine .inl (hv _ ⟨a, rfl, ⟨xs, hs⟩, fun D nD => lc_list (xs := xs) (fun i H' => Same H H' ∧ ∃ ys, H' D = some (.lst ys) ∧ DpAll K H' ys ((ds.take i).map g)) ⟨same_upd nD, [], upd_same, .nil⟩ (fun _ _ _ h => h.1.seq hs) (step D nD) ?_⟩)
    rintro H' ⟨s1, ys, hD, hys⟩
    rw [len, List.take_length] at hys
    exact hq D ys H' s1 nD hD hys
  · refine .inr (hv _ ⟨a, rfl, ⟨xs, hs⟩, fun D nD => lc_tup (xs := xs) (fun i H' => Same H H' ∧ ∃ ys, H' D = some (.lst ys) ∧ DpAll K H' ys ((ds.take i).map g)) ⟨same_upd nD, [], upd_same, .nil⟩ (fun _ _ _ h => seqT_keep hs h.1) (step D nD) ?_⟩)
    rintro H' ⟨s1, ys, hD, hys⟩
    rw [len, List.take_length] at hys
    exact hq D ys H' s1 nD hD hys
theorem lcD {te : TE} {i j : Nat} {vs : List Nat} {σ : L2.St} {a : Addr} {xs : List V} {ds : List PyData} {g : PyData → PyData} {Q : VK} (hv : σ[i]? = some (some (.ref a))) (hs : SqV K H a xs) (hz : xs.length ≤ sizeLine) (hd : DpAll K H xs ds) (hg : ∀ d ∈ ds, tupD (g d) = true)
    (hw : ∀ x, wipe ((wipe σ vs).set j (some x)) vs = wipe σ vs)
    (ht : ∀ (x : V) (d : PyData), d ∈ ds → ∀ (H' : Hp) (R : VK), Same H H' → Dp K H' x d → (∀ y H'', Same H' H'' → Dp K H'' y (g d) → R y H'') → te ((wipe σ vs).set j (some x)) H' R)
    (hq : ∀ (D : Addr) (ys : List V) (H' : Hp), Same H H' → H D = none → H' D = some (.lst ys) → DpAll K H' ys (ds.map g) → Q (.ref D) H') : tLc (iSeq K (tVar i)) (gName j) tYes te vs σ H Q :=
  lcDg (fun _ h => ⟨_, hv, h⟩) hs hz hd hg hw ht hq
end
end My
set_option Elab.async false
set_option linter.all false
set_option maxRecDepth 100000
set_option maxHeartbeats 4000000
namespace My
open PySem PySem.Spec PyProof.Rows L2
open PySem.W (EachIs AllAlike Sortable dataLe dataKind sortVals sorted_vals SortsAt sortingHeap copyHeap sorting_copy_old sortVals_each each_keys alike dataLt keyToks)
/-! ### sorted(a list of alike data), of any length: THE sorted list -/
theorem each_vals {R : V × PyData → Prop} : ∀ {bs : List (V × PyData)} {us : List Value}, Vals (bs.map (·.1)) us → (∀ b ∈ bs, R b) → EachIs (fun u b => RelV b.1 u ∧ R b) us bs
  | [], us, r, _ => by
    cases us with
    | nil => exact .nil
    | cons u us => cases r
  | b :: bs, us, r, h => by
    cases us with
    | nil => cases r
    | cons u us =>
      cases r with
      | cons r1 r2 => exact .cons ⟨r1, h b (List.mem_cons_self ..)⟩ (each_vals r2 fun c m => h c (List.mem_cons_of_mem _ m))
theorem vals_each : ∀ {bs : List (V × PyData)} {us : List Value}, EachIs (fun u (b : V × PyData) => RelV b.1 u) us bs → Vals (bs.map (·.1)) us
  | [], _, h => by cases h; exact .nil
  | b :: bs, _, h => by
    cases h with
    | cons h1 h2 => exact .cons h1 (vals_each h2)
theorem each_map_data {S : Value → PyData → Prop} : ∀ {us : List Value} {bs : List (V × PyData)}, EachIs (fun u (b : V × PyData) => S u b.2) us bs → EachIs S us (bs.map (·.2))
  | _, _, .nil => .nil
  | _, _, .cons h t => .cons h (each_map_data t)
/-- the order of couples by their data -/
abbrev leB : V × PyData → V × PyData → Bool := dataLe false (fun b : V × PyData => b.2)
def rSortedD (K : PySem.W.Frag) : List V → Hp → VK → Prop := fun vs H Q => ∃ (a : Addr) (bs : List (V × PyData)), vs = [V.ref a] ∧ SqL K H a (bs.map (·.1)) ∧ (∀ b ∈ bs, Dp K H b.1 b.2) ∧ AllAlike (bs.map (·.2)) ∧ Sortable (bs.map (·.2)) ∧ (∀ b ∈ bs, b.2.depth ≤ 20) ∧
  ∀ p, H p = none → Q (.ref p) (upd H p (.lst ((bs.mergeSort leB).map (·.1))))
theorem cr_sortedD {X : Cx} (hu : X.A.units + 40 < cLine) : CallR X (.builtin "sorted") (rSortedD X.K) := by
  intro pins s σ H vs us Q I r h
  obtain ⟨a, bs, rfl, hs, hd, al, so, dp, q⟩ := h
  obtain ⟨its, rv, hl, hz⟩ := I.list hs
  rw [Vals.ref1 r]
  have e0 := each_vals (R := fun b => (∀ u, RelV b.1 u → ∃ as, Reads s.heap u b.2 as)) rv fun b m u ru => Dp.reads I b.2 b.1 u (hd b m) ru
  have len : its.length ≤ sizeLine := by rw [← rv.length]; exact hz
  have e1 : EachIs (fun v d => ∃ as, Reads (sortingHeap (copyHeap s.heap its) (s.heap.objs.size + 1) its) v d as) its (bs.map (·.2)) := each_map_data (e0.mono fun u b z => by
    obtain ⟨as, rd⟩ := z.2 u z.1
    exact ⟨as, Reads.keeps (fun b o e => sorting_copy_old e) rd⟩)
  have un : ∀ d, d ∈ bs.map (·.2) → X.A.in1.in1.units + d.depth < cLine := fun d m => by
    obtain ⟨b, mb, rfl⟩ := List.mem_map.mp m
    have := dp b mb
    show X.A.units + 1 + 1 + b.2.depth < cLine
    omega
  refine sorted_vals hl.isList (SortsAt.data (s := { s with heap := sortingHeap (copyHeap s.heap its) (s.heap.objs.size + 1) its }) e1 al so un) len ?_
  have keys := each_keys al e1
  have out := sortVals_each (κ := dataKind (sortingHeap (copyHeap s.heap its) (s.heap.objs.size + 1) its) (bs.map (·.2))) (rev := false) (R := fun u (b : V × PyData) => RelV b.1 u) (fun b : V × PyData => keyToks b.2) (e0.mono fun _ _ z => z.1) (PySem.W.each_of_map (fun b : V × PyData => b.2) keys)
  have rel := vals_each out
  obtain ⟨ep, at_⟩ := PyProof.Rows.sortedAll_at s.heap its (sortVals (dataKind (sortingHeap (copyHeap s.heap its) (s.heap.objs.size + 1) its) (bs.map (·.2))) false its its).toArray
  have hlen : ((bs.mergeSort leB).map (·.1)).length ≤ sizeLine := by
    rw [List.length_map, List.length_mergeSort]
    rw [List.length_map] at hz
    exact hz
  exact ⟨.ref _, upd H (s.heap.objs.size + 1) (.lst ((bs.mergeSort leB).map (·.1))), I.laid (t' := s.toks) (fun _ _ => PyProof.Rows.sortedAll_old) (Nat.le_succ _) ⟨hlen, _, ep, rel, at_⟩, rfl, q _ (I.hok.fresh (Nat.le_succ _))⟩
end My
set_option Elab.async false
set_option linter.all false
set_option maxRecDepth 100000
set_option maxHeartbeats 2000000
/-! sets whose members are objects of one kind (tuples within tuples): the search, adding, the loop of set(list) -/
namespace NS
open PySem PySem.Spec PyProof.Rows L2
/-- what a set asks of the kind of its members -/
structure SKind (P : Program) (w : World) (K : Type) [DecidableEq K] where
  kd : HeapKind P w K
  near : ∀ {h h' : Heap} {k : K} {a : Addr}, kd.is h k a → (∀ b o vs n, h.get? b = some o → o.data = .seq vs n → h'.get? b = some o) → kd.is h' k a
  stmt : ∀ {A : Around} {E : Value → Shared → Prop} {s : Shared} {k : K} {a : Addr} {Q : Bool → Shared → Prop}, kd.is s.heap k a → Q false s → wpAny (model P w) A (ofAClassStatement 8 (.ref a)) Q E s
  flat : ∀ {A : Around} {E : Value → Shared → Prop} {s : Shared} {k : K} {a : Addr} {Q : Bool → Shared → Prop}, kd.is s.heap k a → Q true s → wpAny (model P w) A (hashByValue 8 (.ref a)) Q E s
section
variable {P : Program} {w : World} {A : Around} {E : Value → Shared → Prop} {s : Shared} {K : Type} [DecidableEq K] (D : SKind P w K)
/-- the rows of the table -/
abbrev ents (L : List (Addr × K)) : List (Int × Value) := L.map fun m => (D.kd.hash m.2, Value.ref m.1)
abbrev hashes (L : List (Addr × K)) : List Int := L.map fun m => D.kd.hash m.2
abbrev keysOf (L : List (Addr × K)) : List K := L.map Prod.snd
structure Ta (h : Heap) (a : Addr) (L : List (Addr × K)) (es : Array (Int × Value)) (ep : Nat) (t : SetTable) : Prop where
  obj : ∃ o, h.get? a = some o ∧ o.ExactSet ∧ o.data = .set es ep t
  rws : es.toList = ents D L
  tab : TabOk t (hashes D L)
  once : (keysOf L).Nodup
  mem : ∀ m ∈ L, D.kd.is h m.2 m.1
  flat : t.plain = true
  led : w.params.followText "set-order" = true ∨ t.led = true
  room : L.length * 5 < t.mask * 3
  few : L.length < 64
variable {D} {a : Addr} {L : List (Addr × K)} {es : Array (Int × Value)} {ep : Nat} {t : SetTable}
theorem rws_len (e : es.toList = ents D L) : es.size = L.length := by
  rw [← Array.length_toList, e, List.length_map]
theorem rws_at (e : es.toList = ents D L) {i : Nat} {m : Addr × K} (g : L[i]? = some m) : es[i]? = some (D.kd.hash m.2, Value.ref m.1) := by
  rw [← Array.getElem?_toList, e, List.getElem?_map, g]; rfl
theorem fits_of {n : Nat} (dm : t.dummies = #[]) (sz : t.place.size = n) (le : n ≤ t.mask) : t.fits n = true := by
  simp only [SetTable.fits, SetTable.fill, dm, Bool.and_eq_true, beq_iff_eq, decide_eq_true_eq]
  exact ⟨sz, by rw [sz]; exact le⟩
theorem Ta.fits (R : Ta D s.heap a L es ep t) : t.fits es.size = true := by
  have z := R.tab.sz
  rw [List.length_map] at z
  have r := R.room
  rw [rws_len R.rws]
  exact fits_of R.tab.dm z (by omega)
/-- a state is asked -/
theorem Ta.ask {α : Type} {f : (Array (Int × Value) × Nat × SetTable) → Sem α} {Q : α → Shared → Prop} (R : Ta D s.heap a L es ep t) (h : wpAny (model P w) A (f (es, ep, t)) Q E s) : wpAny (model P w) A (setState a >>= f) Q E s := by
  obtain ⟨o, ho, _, hd⟩ := R.obj
  exact wpAny_bind (wpAny_setState_of ho hd R.fits h)
/-- nothing is told by a search among such members -/
theorem none_seen {k : K} {b : Addr} {Q : Bool → Shared → Prop} (hk : D.kd.is s.heap k b) {ys : List Value} (hy : ∀ y ∈ ys, ∃ k' c, y = Value.ref c ∧ D.kd.is s.heap k' c) (fin : Q false s) : wpAny (model P w) A (searchCouldBeSeen (.ref b) ys) Q E s := by
  unfold searchCouldBeSeen
  refine wpAny_bind (wpAny_forIn_list _ (fun more r s1 => (r.1 = none ∧ s1 = s) ∧ ∀ y ∈ more, ∃ k' c, y = Value.ref c ∧ D.kd.is s.heap k' c) _ (fun y more r s1 hyp => ?_) (fun r s1 hyp => ?_) _ _ ⟨⟨rfl, rfl⟩, hy⟩)
  · obtain ⟨⟨_, rfl⟩, all⟩ := hyp
    obtain ⟨k', c, rfl, hc⟩ := all y (List.mem_cons_self ..)
    have left := fun u hu => all u (List.mem_cons_of_mem _ hu)
    dsimp only
    cases very : (b == c || (carriedByValue (.ref b) && carriedByValue (.ref c))) with
    | true =>
      simp only [very, if_true]
      exact wpAny_pure ⟨⟨rfl, rfl⟩, left⟩
    | false =>
      simp only [very, Bool.false_eq_true, if_false]
      refine wpAny_bind (D.kd.quiet hk ?_)
      simp only [Bool.not_true, Bool.false_eq_true, if_false]
      refine wpAny_bind (D.kd.quiet hc ?_)
      simp only [Bool.not_true, Bool.false_eq_true, if_false]
      refine wpAny_bind (D.stmt hk ?_)
      simp only [Bool.false_eq_true, if_false]
      refine wpAny_bind (D.stmt hc ?_)
      simp only [Bool.false_eq_true, if_false]
      exact wpAny_pure ⟨⟨rfl, rfl⟩, left⟩
  · obtain ⟨r1, r2⟩ := r
    obtain ⟨⟨e1, rfl⟩, _⟩ := hyp
    simp only at e1
    subst e1
    exact wpAny_pure fin
/-- the c-th stop of a hash's way -/
abbrev stop (m : Nat) (h : Int) (c : Nat) : SetTable.Probe := L2.nth m (runAt m (SetTable.bits h % (m + 1)) (SetTable.bits h)) c
theorem stop_add (m : Nat) (h : Int) (c q : Nat) : L2.nth m (stop m h c) q = stop m h (c + q) := (nth_add m c _ q).symm
theorem stop_dummy (m : Nat) (h : Int) (c : Nat) : (stop m h c).dummy = none := by
  induction c with
  | zero => rfl
  | succ c ih =>
    show (L2.nth m _ (c + 1)).dummy = none
    rw [nth_succ]
    unfold adv
    split
    · exact ih
    · exact ih
/-- the search goes on from the c-th stop; the K-th is the first that is free -/
theorem seek (R : Ta D s.heap a L es ep t) {x : Addr} {k : K} (hx : D.kd.is s.heap k x) (hr : D.kd.room A) {N : Nat} (lim : N < 10 * SetTable.turns t.mask)
    (free : way t.mask (D.kd.hash k) N ∉ t.place.toList) (full : ∀ c, c < N → way t.mask (D.kd.hash k) c ∈ t.place.toList) {Q : SetFound → Shared → Prop}
    (yes : k ∈ keysOf L → Q (.there none) s) (no : k ∉ keysOf L → Q (.free (way t.mask (D.kd.hash k) N) false) s) :
    ∀ (f c : Nat) (from_ : Option SetTable.Probe), from_.getD (t.probeStart (D.kd.hash k)) = stop t.mask (D.kd.hash k) c → c ≤ N → N - c < f →
      (∀ (i : Nat) m, L[i]? = some m → m.2 = k → ∃ c', c ≤ c' ∧ c' < N ∧ t.place.toList[i]? = some (way t.mask (D.kd.hash k) c')) →
      wpAny (model P w) A (setSearchFrom a (.ref x) (D.kd.hash k) true f from_) Q E s := by
  intro f
  induction f with
  | zero => intro c _ _ _ z _; exact absurd z (Nat.not_lt_zero _)
  | succ f ih =>
    intro c fr efr hc hf ahead
    have stopj : ∀ q, (L2.nth t.mask (stop t.mask (D.kd.hash k) c) q).j = way t.mask (D.kd.hash k) (c + q) := fun q => by rw [stop_add]
    have storedAt : ∀ (i : Nat) m, L[i]? = some m → (es[i]?.map (·.1)).getD 0 = D.kd.hash m.2 := fun i m g => by rw [rws_at R.rws g]; rfl
    have back : N - c + c = N := Nat.sub_add_cancel hc
    have goes := go_spec t R.tab.ris R.tab.dm (fun i => (es[i]?.map (·.1)).getD 0) (D.kd.hash k) (10 * SetTable.turns t.mask) (N - c) (stop t.mask (D.kd.hash k) c) (stop_dummy ..) (Nat.lt_of_le_of_lt (Nat.sub_le ..) lim)
      (fun q hq => by rw [stopj]; exact full _ (by omega)) (by rw [stopj, Nat.add_comm c, back]; exact free)
    rw [setSearchFrom_succ]
    refine R.ask ?_
    dsimp only
    have odd : t.gaveWay = false := by unfold SetTable.gaveWay; rw [mask_odd R.tab.mok]; rfl
    simp only [odd, Bool.false_eq_true, if_false]
    rcases goes with ⟨q, i, hq, hi, hh, before, pr⟩ | ⟨before, pr⟩
    · have pr' : t.probe (fun i => (es[i]?.map (·.1)).getD 0) (D.kd.hash k) (fr.getD (t.probeStart (D.kd.hash k))) = some (.candidate (way t.mask (D.kd.hash k) (c + q)) i (stop t.mask (D.kd.hash k) (c + (q + 1)))) := by
        rw [efr, ← stopj, ← stop_add]; exact pr
      rw [pr']
      dsimp only
      rw [stopj] at hi
      have il : i < L.length := by
        have h1 := (List.getElem?_eq_some_iff.mp hi).1
        have h2 := R.tab.sz
        rw [List.length_map] at h2
        rw [Array.length_toList] at h1
        omega
      obtain ⟨m, hm⟩ : ∃ m, L[i]? = some m := ⟨L[i], List.getElem?_eq_getElem il⟩
      have mL : m ∈ L := List.mem_of_getElem? hm
      have live : t.slot (way t.mask (D.kd.hash k) (c + q)) = .live i := slot_live R.tab.ris hi
      have tail : wpAny (model P w) A (searchRest a (.ref x) (D.kd.hash k) true f es t (way t.mask (D.kd.hash k) (c + q)) i (stop t.mask (D.kd.hash k) (c + (q + 1)))) Q E s := by
        unfold searchRest
        rw [rws_at R.rws hm]
        dsimp only
        refine wpAny_bind (wpAny_holding (D.kd.eqBool hr (R.mem m mL) hx ?_))
        refine R.ask ?_
        dsimp only
        rcases Classical.em (m.2 = k) with ek | nk
        · simp only [ek, decide_true, Bool.and_self, if_true]
          exact wpAny_pure (yes (List.mem_map.mpr ⟨m, mL, ek⟩))
        · simp only [nk, decide_false, Bool.and_false, Bool.false_eq_true, if_false]
          rw [sameMem]
          simp only [if_true, live, rws_at R.rws hm]
          refine wpAny_bind (wpAny_isSame_ref_self (wpAny_bind (wpAny_pure ?_)))
          simp only [if_true]
          refine ih (c + (q + 1)) _ rfl (by omega) (by omega) fun i0 m0 g0 e0 => ?_
          obtain ⟨c', le, lt, pl⟩ := ahead i0 m0 g0 e0
          refine ⟨c', ?_, lt, pl⟩
          have n1 : ¬ c' < c + q := fun z => before (c' - c) i0 (by omega) (by rw [stopj, Nat.add_comm c, Nat.sub_add_cancel le]; exact pl) ((storedAt i0 m0 g0).trans (congrArg D.kd.hash e0))
          have n2 : c' ≠ c + q := fun z => by
            rw [z] at pl
            have two := (slot_live R.tab.ris pl).symm.trans live
            injection two with two
            rw [two, hm] at g0
            exact nk ((congrArg Prod.snd (Option.some.inj g0)).trans e0)
          omega
      cases el : t.led with
      | true =>
        simp only [Bool.not_true, Bool.false_eq_true, if_false]
        exact tail
      | false =>
        simp only [Bool.not_false, if_true]
        refine wpAny_bind (none_seen hx (fun y hy => ?_) ?_)
        · obtain ⟨e, he, rfl⟩ := List.mem_map.mp hy
          have he2 : e ∈ es.toList := by
            have : e ∈ es ∧ e.1 = D.kd.hash k := by simpa using he
            simpa using this.1
          rw [R.rws] at he2
          obtain ⟨m2, hm2, rfl⟩ := List.mem_map.mp he2
          exact ⟨m2.2, m2.1, rfl, R.mem m2 hm2⟩
        · simp only [Bool.false_eq_true, if_false]
          exact tail
    · have pr' : t.probe (fun i => (es[i]?.map (·.1)).getD 0) (D.kd.hash k) (fr.getD (t.probeStart (D.kd.hash k))) = some (.empty (way t.mask (D.kd.hash k) N) none) := by
        have e2 := stopj (N - c)
        rw [Nat.add_comm c, back] at e2
        rw [efr, ← e2]
        exact pr
      rw [pr']
      dsimp only
      refine wpAny_pure (no fun there => ?_)
      obtain ⟨m0, g0, e0⟩ := List.mem_map.mp there
      obtain ⟨i0, l0, g1⟩ := List.getElem_of_mem g0
      have g2 : L[i0]? = some m0 := by rw [List.getElem?_eq_getElem l0, g1]
      obtain ⟨c', le, lt, pl⟩ := ahead i0 m0 g2 e0
      exact before (c' - c) i0 (by omega) (by rw [stopj, Nat.add_comm c, Nat.sub_add_cancel le]; exact pl) ((storedAt i0 m0 g2).trans (congrArg D.kd.hash e0))
/-- the search for adding -/
theorem seek_all (R : Ta D s.heap a L es ep t) {x : Addr} {k : K} (hx : D.kd.is s.heap k x) (hr : D.kd.room A) {Q : SetFound → Shared → Prop} (yes : k ∈ keysOf L → Q (.there none) s)
    (no : ∀ N, k ∉ keysOf L → way t.mask (D.kd.hash k) N ∉ t.place.toList → (∀ c, c < N → way t.mask (D.kd.hash k) c ∈ t.place.toList) → Q (.free (way t.mask (D.kd.hash k) N) false) s) :
    wpAny (model P w) A (setSearch a (.ref x) (D.kd.hash k) true) Q E s := by
  have rm := R.room
  obtain ⟨N, lim, free, full⟩ := R.tab.first (by rw [List.length_map]; omega) (D.kd.hash k)
  have lim2 : N < 100000 := by
    unfold SetTable.turns at lim
    rcases R.tab.mok with e | e | e <;> rw [e] at lim <;> omega
  unfold setSearch
  refine seek R hx hr lim free full yes (fun n => no N n free full) 100000 0 none rfl (Nat.zero_le _) (by omega) fun i m g e => ?_
  have hi : (hashes D L)[i]? = some (D.kd.hash k) := by rw [List.getElem?_map, g, ← e]; rfl
  have il : i < t.place.toList.length := by
    have h1 := (List.getElem?_eq_some_iff.mp g).1
    have h2 := R.tab.sz
    rw [List.length_map] at h2
    rw [Array.length_toList]
    omega
  obtain ⟨c, lt, ec⟩ := R.tab.before free hi (List.getElem?_eq_getElem il)
  exact ⟨c, Nat.zero_le _, lt, by rw [List.getElem?_eq_getElem il, ec]⟩
end
end NS
set_option Elab.async false
set_option linter.all false
set_option maxRecDepth 100000
set_option maxHeartbeats 2000000
/-! adding to such a set; the table laid anew -/
namespace NS
open PySem PySem.Spec PyProof.Rows L2
section
variable {P : Program} {w : World} {A : Around} {E : Value → Shared → Prop} {s : Shared} {K : Type} [DecidableEq K] {D : SKind P w K} {a : Addr} {L : List (Addr × K)} {es : Array (Int × Value)} {ep : Nat} {t : SetTable}
/-- a member stays when the set at a alone is changed -/
theorem aside {h h' : Heap} {k : K} {b : Addr} {o : Obj} (x : D.kd.is h k b) (ho : h.get? a = some o) (hd : o.data = .set es ep t) (hs : Heap.SameBut a h h') : D.kd.is h' k b :=
  D.near x fun c u vs n g gd => (hs.2 c (by
    rintro rfl
    rw [ho] at g
    rw [← Option.some.inj g, hd] at gd
    exact nomatch gd)).trans g
theorem stays {h h' : Heap} {k : K} {b : Addr} (x : D.kd.is h k b) (hk : ∀ c o, h.get? c = some o → h'.get? c = some o) : D.kd.is h' k b := D.near x fun c o _ _ g _ => hk c o g
/-- the rows in another order -/
theorem reordered {order : Array Nat} (rw_ : es.toList = ents D L) (perm : order.toList.Perm (List.range L.length)) :
    ∃ M : List (Addr × K), (order.filterMap (es[·]?)).toList = ents D M ∧ M.Perm L ∧ hashes D M = order.toList.map fun i => (es.map (·.1)).getD i 0 := by
  have one : ∀ l : List Nat, (∀ i ∈ l, i < L.length) → l.filterMap (fun i => es[i]?) = ents D (l.filterMap fun i => L[i]?) ∧ hashes D (l.filterMap fun i => L[i]?) = l.map fun i => (es.map (·.1)).getD i 0 := by
    intro l
    induction l with
    | nil => intro _; exact ⟨rfl, rfl⟩
    | cons i l ih =>
      intro all
      obtain ⟨e1, e2⟩ := ih fun j hj => all j (List.mem_cons_of_mem _ hj)
      have g := List.getElem?_eq_getElem (all i (List.mem_cons_self ..))
      have g2 := rws_at rw_ g
      rw [List.filterMap_cons_some g2, List.filterMap_cons_some g, e1]
      refine ⟨rfl, ?_⟩
      rw [List.map_cons]
      have e3 : (es.map (·.1)).getD i 0 = D.kd.hash (L[i]'(all i (List.mem_cons_self ..))).2 := by rw [Array.getD_eq_getD_getElem?, Array.getElem?_map, g2]; rfl
      rw [e3, ← e2]; rfl
  obtain ⟨e1, e2⟩ := one order.toList fun i hi => List.mem_range.mp (perm.mem_iff.mp hi)
  refine ⟨_, by rw [Array.toList_filterMap]; exact e1, ?_, e2⟩
  have whole : ∀ n, n ≤ L.length → (List.range n).filterMap (fun i => L[i]?) = L.take n := by
    intro n
    induction n with
    | zero => intro _; rfl
    | succ n ih =>
      intro le
      rw [List.range_succ, List.filterMap_append, ih (Nat.le_of_succ_le le), List.take_succ, List.filterMap_cons_some (List.getElem?_eq_getElem le), List.getElem?_eq_getElem le]; rfl
  have p := perm.filterMap fun i => L[i]?
  rw [whole _ (Nat.le_refl _), List.take_length] at p
  exact p
/-- the table laid anew, larger -/
theorem again_laid {o : Obj} (ho : s.heap.get? a = some o) (ex : o.ExactSet) (hd : o.data = .set es ep t) (rw_ : es.toList = ents D L) (sz : t.place.size = es.size) (dm : t.dummies = #[]) (le : es.size ≤ t.mask)
    (once : (keysOf L).Nodup) (mem : ∀ m ∈ L, D.kd.is s.heap m.2 m.1) (fl : t.plain = true) (ld : w.params.followText "set-order" = true ∨ t.led = true) (few : L.length < 64) {want M : Nat}
    (wM : SetTable.sizeAbove want - 1 = M) (okM : MaskOk M) (small : SetTable.sizeAbove want ≤ 128) (room : L.length * 5 < M * 3) {Q : Unit → Shared → Prop}
    (fin : ∀ h' L' es' ep' t', Heap.SameBut a s.heap h' → Ta D h' a L' es' ep' t' → L'.Perm L → Q () { s with heap := h' }) : wpAny (model P w) A (setRelay a want) Q E s := by
  have n := rws_len rw_
  obtain ⟨t', order, e, pm, T, em, el, epl, edm⟩ := relaid_ok t (hs := es.map (·.1)) wM okM (by rw [Array.size_map, n]; omega)
  rw [Array.size_map, n] at pm
  obtain ⟨L2, r1, r2, r3⟩ := reordered rw_ pm
  rw [← r3] at T
  have n2 : (order.filterMap (es[·]?)).size = es.size := by rw [rws_len r1, r2.length_eq, n]
  rw [setRelay_eq]
  refine wpAny_bind (wpAny_setState_of ho hd (fits_of dm sz le) ?_)
  dsimp only
  have big : ¬ SetTable.sizeAbove want > sizeLine := by rw [sizeLine_eq]; omega
  simp only [big, if_false, e, n2, bne_self_eq_false, Bool.false_eq_true]
  refine wpAny_bind (wpAny_pure ?_)
  dsimp only
  have sb : Heap.SameBut a s.heap (s.heap.update a (Obj.putSet (order.filterMap (es[·]?)) t')) := Heap.SameBut.update ..
  refine wpAny_storeSet_of ho hd (fin _ L2 _ (ep + 1) t' sb ⟨⟨_, store_at ho hd, ⟨ex.1, ex.2.1, ex.2.2⟩, rfl⟩, r1, T, (r2.map Prod.snd).nodup_iff.mpr once, fun m hm => aside (mem m (r2.mem_iff.mp hm)) ho hd sb, epl.trans fl, ?_, ?_, ?_⟩ r2) (by rw [n2, n, sizeLine_eq]; omega)
  · rw [el]; exact ld
  · rw [r2.length_eq, em]; exact room
  · rw [r2.length_eq]; exact few
/-- ADDING -/
theorem put_in (R : Ta D s.heap a L es ep t) {x : Addr} {k : K} (hx : D.kd.is s.heap k x) (hr : D.kd.room A) (few : L.length + 1 < 64) {Q : Bool → Shared → Prop}
    (fin : ∀ b h' L' es' ep' t', Heap.SameBut a s.heap h' → Ta D h' a L' es' ep' t' → (k ∈ keysOf L → L' = L) → (k ∉ keysOf L → L'.Perm ((x, k) :: L)) → Q b { s with heap := h' }) :
    wpAny (model P w) A (setAddHashed a (.ref x) (D.kd.hash k)) Q E s := by
  obtain ⟨o, ho, ex, hd⟩ := R.obj
  have n := rws_len R.rws
  have rm := R.room
  unfold setAddHashed
  refine wpAny_holding ?_
  rw [show (100000 : Nat) = 99999 + 1 from rfl, setAddHashedIn_succ]
  refine R.ask ?_
  have ns : byScan (.ref x) es = false := rfl
  simp only [ns, Bool.false_eq_true, if_false]
  refine wpAny_bind (seek_all R hx hr (fun there => ?_) fun N new free full => ?_)
  · exact wpAny_pure (fin false s.heap L es ep t (Heap.SameBut.refl ..) R (fun _ => rfl) fun z => absurd there z)
  · dsimp only
    refine R.ask ?_
    dsimp only
    obtain ⟨q1, q2, q3, q4, q5, q6, q7, q8, q9⟩ := R.tab.put free full
    have fl1 := q6.trans R.flat
    generalize hpt : t.put (way t.mask (D.kd.hash k) N) = pt at q1 q3 q4 q5 q6 q7 q8 q9 fl1 ⊢
    obtain ⟨t1, p⟩ := pt
    dsimp only at q1 q3 q4 q5 q6 q7 q8 q9 fl1 ⊢
    subst q1
    simp only [fl1, if_true]
    refine wpAny_bind (D.flat hx ?_)
    simp only [if_true]
    generalize SetTable.below t.place (way t.mask (D.kd.hash k) N) = p at q2 q3 ⊢
    have pm : (L.take p ++ (x, k) :: L.drop p).Perm ((x, k) :: L) := put_perm L p (x, k)
    have rw1 : (SetTable.insertAt es p (D.kd.hash k, Value.ref x)).toList = ents D (L.take p ++ (x, k) :: L.drop p) := by
      rw [SetTable.toList_insertAt, R.rws]
      simp only [ents, List.map_append, List.map_cons, List.map_take, List.map_drop]
    have hs1 : hashes D (L.take p ++ (x, k) :: L.drop p) = (hashes D L).take p ++ D.kd.hash k :: (hashes D L).drop p := by
      simp only [hashes, List.map_append, List.map_cons, List.map_take, List.map_drop]
    have T1 : TabOk t1 (hashes D (L.take p ++ (x, k) :: L.drop p)) := by rw [hs1]; exact q3
    have once1 : (keysOf (L.take p ++ (x, k) :: L.drop p)).Nodup := (pm.map Prod.snd).nodup_iff.mpr (List.nodup_cons.mpr ⟨new, R.once⟩)
    have n1 := rws_len rw1
    rw [pm.length_eq, List.length_cons] at n1
    have len1 : (L.take p ++ (x, k) :: L.drop p).length = L.length + 1 := pm.length_eq
    generalize SetTable.insertAt es p (D.kd.hash k, Value.ref x) = es1 at rw1 n1 ⊢
    generalize L.take p ++ (x, k) :: L.drop p = L1 at pm T1 once1 rw1 len1
    refine wpAny_bind (wpAny_storeSet_of ho hd ?_ (by rw [n1, sizeLine_eq]; omega))
    have sb : Heap.SameBut a s.heap (s.heap.update a (Obj.putSet es1 t1)) := Heap.SameBut.update ..
    have ho1 := store_at (es' := es1) (t' := t1) ho hd
    generalize s.heap.update a (Obj.putSet es1 t1) = h1 at sb ho1 ⊢
    have mem1 : ∀ m ∈ L1, D.kd.is h1 m.2 m.1 := fun m hm => by
      rcases List.mem_cons.mp (pm.mem_iff.mp hm) with rfl | hm
      · exact aside hx ho hd sb
      · exact aside (R.mem m hm) ho hd sb
    have ld1 : w.params.followText "set-order" = true ∨ t1.led = true := by rw [q5]; exact R.led
    rw [List.length_map] at q9
    cases full1 : t1.tooFull with
    | true =>
      have lots : (L.length + 1) * 5 ≥ t1.mask * 3 := by
        unfold SetTable.tooFull at full1
        rw [decide_eq_true_eq, q9] at full1
        exact full1
      have sz1 : t1.place.size = es1.size := by rw [T1.sz, List.length_map, len1, n1]
      simp only [Bool.not_false, Bool.and_self, if_true, n]
      have go : ∀ M, SetTable.sizeAbove (SetTable.grown (L.length + 1)) - 1 = M → MaskOk M → SetTable.sizeAbove (SetTable.grown (L.length + 1)) ≤ 128 → (L.length + 1) * 5 < M * 3 → es1.size ≤ t1.mask →
          wpAny (model P w) A (setRelay a (SetTable.grown (L.length + 1))) (fun _ s' => wpAny (model P w) A (pure true) Q E s') E { s with heap := h1 } := fun M g1 g2 g3 g4 g5 =>
        again_laid (s := { s with heap := h1 }) ho1 ⟨ex.1, ex.2.1, ex.2.2⟩ rfl rw1 sz1 T1.dm g5 once1 mem1 fl1 ld1 (by rw [len1]; exact few) g1 g2 g3 (by rw [len1]; exact g4) fun h2 L2 es2 ep2 t2 sb2 R2 pm2 =>
          wpAny_pure (fin true h2 L2 es2 ep2 t2 (sb.trans sb2) R2 (fun z => absurd z new) fun _ => pm2.trans pm)
      refine wpAny_bind ?_
      rw [q4] at lots
      rcases R.tab.mok with e | e | e
      · have l4 : L.length = 4 := by rw [e] at lots rm; omega
        rw [l4] at go ⊢
        exact go 31 (by rw [size_20]) (.inr (.inl rfl)) (by rw [size_20]; decide) (by decide) (by rw [n1, q4, e, l4]; decide)
      · have l18 : L.length = 18 := by rw [e] at lots rm; omega
        rw [l18] at go ⊢
        exact go 127 (by rw [size_76]) (.inr (.inr rfl)) (by rw [size_76]; decide) (by decide) (by rw [n1, q4, e, l18]; decide)
      · exact absurd lots (by rw [e]; omega)
    | false =>
      simp only [Bool.not_false, Bool.and_false, Bool.false_eq_true, if_false]
      refine wpAny_pure (fin true h1 L1 es1 (ep + 1) t1 sb ⟨⟨_, ho1, ⟨ex.1, ex.2.1, ex.2.2⟩, rfl⟩, rw1, T1, once1, mem1, fl1, ld1, ?_, by rw [len1]; exact few⟩ (fun z => absurd z new) fun _ => pm)
      unfold SetTable.tooFull at full1
      rw [decide_eq_false_iff_not, q9] at full1
      rw [len1]
      omega
end
end NS
set_option Elab.async false
set_option linter.all false
set_option maxRecDepth 100000
set_option maxHeartbeats 4000000
/-! set(a list of such members) -/
namespace NS
open PySem PySem.Spec PyProof.Rows L2
section
variable {P : Program} {w : World} {A : Around} {E : Value → Shared → Prop} {s : Shared} {K : Type} [DecidableEq K] {D : SKind P w K} {a : Addr} {L : List (Addr × K)} {es : Array (Int × Value)} {ep : Nat} {t : SetTable}
/-- what stands in the set behind the first i members of the list -/
def Has (ks : List (Addr × K)) (i : Nat) (L : List (Addr × K)) : Prop := (∀ m ∈ L, m ∈ ks.take i) ∧ (∀ m ∈ ks.take i, m.2 ∈ keysOf L) ∧ L.length ≤ i
theorem Has.next {ks L L' : List (Addr × K)} {i : Nat} {m : Addr × K} (g : Has ks i L) (at_ : ks[i]? = some m) (old : m.2 ∈ keysOf L → L' = L) (new : m.2 ∉ keysOf L → L'.Perm (m :: L)) : Has ks (i + 1) L' := by
  have more : ks.take (i + 1) = ks.take i ++ [m] := by rw [List.take_succ, at_]; rfl
  obtain ⟨g1, g2, g3⟩ := g
  rcases Classical.em (m.2 ∈ keysOf L) with c | c
  · rw [old c]
    refine ⟨fun q hq => by rw [more]; exact List.mem_append_left _ (g1 q hq), fun q hq => ?_, Nat.le_succ_of_le g3⟩
    rw [more] at hq
    rcases List.mem_append.mp hq with z | z
    · exact g2 q z
    · rw [List.mem_singleton.mp z]; exact c
  · have pm := new c
    refine ⟨fun q hq => ?_, fun q hq => ?_, by rw [pm.length_eq]; exact Nat.succ_le_succ g3⟩
    · rw [more]
      rcases List.mem_cons.mp (pm.mem_iff.mp hq) with rfl | z
      · exact List.mem_append_right _ (List.mem_singleton.mpr rfl)
      · exact List.mem_append_left _ (g1 q z)
    · refine (pm.map Prod.snd).mem_iff.mpr ?_
      rw [more] at hq
      rcases List.mem_append.mp hq with z | z
      · exact List.mem_cons_of_mem _ (g2 q z)
      · rw [List.mem_singleton.mp z]; exact List.mem_cons_self ..
theorem Ta.later {h h' : Heap} (R : Ta D h a L es ep t) (ha : ∀ o, h.get? a = some o → h'.get? a = some o) (hm : ∀ m ∈ L, D.kd.is h' m.2 m.1) : Ta D h' a L es ep t :=
  let ⟨o, ho, r⟩ := R.obj
  ⟨⟨o, ha o ho, r⟩, R.rws, R.tab, R.once, hm, R.flat, R.led, R.room, R.few⟩
/-- a new set's object -/
abbrev bare (w : World) : Obj := { cls := .type "set", dict := none, data := .set #[] 0 (.fresh 0 0 (!w.params.followText "set-order")) }
theorem Ta.new {h : Heap} (ho : h.get? a = some (bare w)) : Ta D h a [] #[] 0 (.fresh 0 0 (!w.params.followText "set-order")) := by
  refine ⟨⟨_, ho, ⟨rfl, rfl, rfl⟩, rfl⟩, rfl, ⟨List.Pairwise.nil, rfl, rfl, .inl rfl, fun x hx => (by cases hx), fun i _ j hi => (by simp at hi)⟩, List.nodup_nil, fun m hm => (by cases hm), rfl, ?_, (show 0 * 5 < 7 * 3 by decide), (show 0 < 64 by decide)⟩
  show w.params.followText "set-order" = true ∨ (!w.params.followText "set-order") = true
  cases w.params.followText "set-order" with
  | true => exact .inl rfl
  | false => exact .inr rfl
/-- the loop of set.update over what hands out such members -/
theorem each_in {I : Addr} {fp wr : List Addr} {G : Array GenState → Array GenState → Prop} {n : Nat} {Pv : Nat → Value → Prop} {St : Nat → Shared → Prop} {R : Result → Shared → Prop}
    (W : WalksS P w A.in1 I fp wr G n Pv St) (S : Addr) (out : S ∉ fp) (ks : List (Addr × K)) (hn : n = ks.length) (few : ks.length < 64) (val : ∀ i v, Pv i v → ∃ m, ks[i]? = some m ∧ v = .ref m.1)
    (h0 : Heap) (mem : ∀ m ∈ ks, D.kd.is h0 m.2 m.1) (S0 : h0.get? S = none) (w0 : ∀ b ∈ wr, h0.get? b = none) (hr : D.kd.room A.in1)
    (fin : ∀ s' L es ep t, Moved (S :: wr) G s s' → Ta D s'.heap S L es ep t → Has ks n L → (∀ b o, h0.get? b = some o → s'.heap.get? b = some o) → R (.ok (.ret .none)) s') :
    ∀ (d i : Nat) (s1 : Shared), i + d = n → St i s1 → (∀ b o, h0.get? b = some o → s1.heap.get? b = some o) → (∃ L es ep t, Ta D s1.heap S L es ep t ∧ Has ks i L) → Moved (S :: wr) G s s1 →
      codeAny (model P w) A (.builtin "set.update.loop" ⟨[.ref S, .ref I], []⟩) R s1 := by
  have Sw : S ∉ wr := fun h => out (W.sub _ h)
  have kept : ∀ {s1 s2 : Shared}, Moved wr G s1 s2 → (∀ b o, h0.get? b = some o → s1.heap.get? b = some o) → ∀ b o, h0.get? b = some o → s2.heap.get? b = some o := fun mv k b o e =>
    mv.heap b o (fun hb => by rw [w0 b hb] at e; cases e) (k b o e)
  intro d
  induction d with
  | zero =>
    intro i s1 hi st k ⟨L, es, ep, t, R1, g⟩ mv
    obtain rfl : i = n := hi
    refine codeAny_builtin F.entry_set_update_loop ?_
    rw [Around.under_plainId F.plain_set_update_loop _]
    show wpAny _ A.in1 (pyNext (.ref I) >>= _) _ _ s1
    refine wpAny_bind (W.done s1 _ _ st fun s2 mv2 => ?_)
    show wpAny _ A.in1 (ret Value.none) _ _ s2
    have k2 := kept mv2 k
    exact wpAny_pure (fin s2 L es ep t (Moved.trans W.gtrans mv (mv2.mono fun b hb => List.mem_cons_of_mem _ hb)) (R1.later (fun o e => mv2.heap S o Sw e) fun m hm => stays (mem m (List.mem_of_mem_take (g.1 m hm))) k2) g k2)
  | succ d ih =>
    intro i s1 hi st k ⟨L, es, ep, t, R1, g⟩ mv
    refine codeAny_builtin F.entry_set_update_loop ?_
    rw [Around.under_plainId F.plain_set_update_loop _]
    show wpAny _ A.in1 (pyNext (.ref I) >>= _) _ _ s1
    refine wpAny_bind (W.item i s1 _ _ (by omega) st fun v s2 pv st2 mv2 => ?_)
    obtain ⟨m, at_, rfl⟩ := val i v pv
    have k2 := kept mv2 k
    have R2 : Ta D s2.heap S L es ep t := R1.later (fun o e => mv2.heap S o Sw e) fun q hq => stays (mem q (List.mem_of_mem_take (g.1 q hq))) k2
    have hx : D.kd.is s2.heap m.2 m.1 := stays (mem m (List.mem_of_getElem? at_)) k2
    show wpAny _ A.in1 (holding [Value.ref m.1] (setAdd S (.ref m.1)) >>= _) _ _ s2
    unfold setAdd
    refine wpAny_bind (wpAny_holding (wpAny_holding (wpAny_bind (D.kd.pyHash hr hx ?_))))
    refine put_in (s := { s2 with toks := s2.toks + D.kd.draws m.2 }) R2 hx hr (by have := g.2.2; omega) fun b h' L' es' ep' t' sb R3 c1 c2 => ?_
    have k3 : ∀ b o, h0.get? b = some o → h'.get? b = some o := fun b o e => (sb.2 b (fun z => by rw [z, S0] at e; cases e)).trans (k2 b o e)
    have mv3 : Moved (S :: wr) G s1 { s2 with heap := h', toks := s2.toks + D.kd.draws m.2 } := Moved.then_heap (mv2.mono fun b hb => List.mem_cons_of_mem _ hb) (Nat.le_add_right ..) fun b o hb e => (sb.2 b fun z => hb (by rw [z]; exact List.mem_cons_self ..)).trans e
    exact wpAny_pure ⟨plainId_quiet F.plain_set_update_loop _, ih (i + 1) _ (by omega) (W.frame _ s2 _ _ st2 (Nat.le_add_right ..) fun b hb o e => (sb.2 b fun z => out (by rw [← z]; exact hb)).trans e) k3 ⟨L', es', ep', t', R3, g.next at_ c1 c2⟩ (Moved.trans W.gtrans mv mv3)⟩
end
end NS
set_option Elab.async false
set_option linter.all false
set_option maxRecDepth 100000
set_option maxHeartbeats 6400000
namespace NS
open PySem PySem.Spec PyProof.Rows L2
section
variable {P : Program} {w : World} {A : Around} {E : Value → Shared → Prop} {s : Shared} {K : Type} [DecidableEq K] {D : SKind P w K}
/-- set(xs) -/
theorem set_of_list {l : Addr} {items : Array Value} (ks : List (Addr × K)) {Q : Value → Shared → Prop} (hh : A.handled = none) (hl : s.heap.IsList l items) (its : items.toList = ks.map fun m => Value.ref m.1)
    (mem : ∀ m ∈ ks, D.kd.is s.heap m.2 m.1) (few : ks.length < 64) (hr : ∀ B : Around, B.units ≤ A.units + 4 → D.kd.room B)
    (fin : ∀ (h' : Heap) (tk : Nat) L es ep t, Ta D h' s.heap.objs.size L es ep t → Has ks ks.length L → (∀ b o, s.heap.get? b = some o → h'.get? b = some o) → Q (.ref s.heap.objs.size) { s with heap := h', toks := tk }) :
    wpAny (model P w) A (call (.type "set") [.ref l]) Q E s := by
  have size_ : items.size = ks.length := by rw [← Array.length_toList, its, List.length_map]
  obtain ⟨cset, tset, hmro⟩ := F.called_set.mro
  have hmade := F.called_set.made; have hsub := F.called_set.sub
  refine wpAny_call (codeAny_of_tree (show wpAny _ _ (callAny (.type "set") _) _ _ _ from ?_))
  refine wpAny_pure ⟨Code.quiet_builtin _ (by decide +kernel), codeAny_builtin F.entry_type_call ?_⟩
  rw [Around.under_plain (weight_type_call_type "set" [.ref l] []) rfl]
  have i1 := F.called_set.notType; have i2 := F.called_set.canCreate; have i3 := F.typeCall_set_1 (.ref l)
  repeat (any_goals (first | assumption | wp_step))
  refine codeAny_mono (code_set_led1 (.ref l) (E := E) (Q₁ := fun ob s1 => ob = .ref s.heap.objs.size ∧ s1 = { s with heap := s.heap.push (bare w) }) ⟨rfl, rfl⟩) fun r s1 made => ?_
  rcases r with x | fl
  · exact made
  cases fl with
  | ret ob =>
    obtain ⟨rfl, rfl⟩ := made
    have at0 : (s.heap.push (bare w)).get? s.heap.objs.size = some (bare w) := Heap.get?_push_size _ rfl
    have ty0 : Shared.TypeIs { s with heap := s.heap.push (bare w) } (.ref s.heap.objs.size) "set" := ⟨_, at0, rfl⟩
    have j1 := F.called_set.init.lookup; have j2 := F.called_set.init.bind (.ref s.heap.objs.size)
    repeat (any_goals (first | assumption | wp_step))
    refine codeAny_mono (codeAny_call_builtin (R := wants (fun r s2 => r = .none ∧ ∃ h' tk L es ep t, s2 = { s with heap := h', toks := tk } ∧ Ta D h' s.heap.objs.size L es ep t ∧ Has ks ks.length L ∧
      (∀ b o, s.heap.get? b = some o → h'.get? b = some o)) E) F.called_set.init.plain F.entry_set_init (check_set_init_1 ty0 ?_)) fun r2 s2 done => ?_
    · obtain ⟨⟨_, ldict, _, lslots⟩, hol, rfl, nl, rfl⟩ := hl
      have hol2 : (s.heap.push (bare w)).get? l = some { cls := .type "list", dict := ldict, data := .seq items nl, slots := lslots } := Heap.get?_push_of_some _ hol
      have k1 := F.sub_list_set; have k2 := F.sub_list_frozenset
      have k3 : (Value.type "list" == Value.type "dict") = false := by decide
      have lis : (s.heap.push (bare w)).IsList l items := ⟨_, hol2, rfl, nl, rfl⟩
      unfold Builtin.«set.__init__» noKeywords Builtin.Frozenset.updateFrom
      generalize hPI : pyIter = PI
      wp_walk
      subst hPI
      refine wpAny_pyIter_list lis (wpAny_bind (wpAny_runValue ?_))
      have below : l < s.heap.objs.size := Heap.lt_size hol
      have hh3 : A.in1.in1.in1.handled = none := by simp [hh]
      have sz1 : (s.heap.push (bare w)).objs.size = s.heap.objs.size + 1 := Heap.size_push ..
      have gone : ∀ b, s.heap.objs.size ≤ b → s.heap.get? b = none := fun b hb => by
        cases q : s.heap.get? b with
        | none => rfl
        | some o => exact absurd (Heap.lt_size q) (Nat.not_lt.mpr hb)
      have far : l ≠ (s.heap.push (bare w)).objs.size := by rw [sz1]; exact Nat.ne_of_lt (Nat.lt_succ_of_lt below)
      have away : s.heap.objs.size ∉ [(s.heap.push (bare w)).objs.size, l] := by
        rw [sz1, List.mem_cons, List.mem_singleton]
        exact fun z => z.elim (fun z => absurd z (Nat.ne_of_lt (Nat.lt_succ_self _))) fun z => absurd z (Nat.ne_of_gt below)
      have val : ∀ (i : Nat) (v : Value), items[i]? = some v → ∃ m, ks[i]? = some m ∧ v = .ref m.1 := fun i v hv => by
        rw [← Array.getElem?_toList, its, List.getElem?_map] at hv
        cases q : ks[i]? with
        | none => rw [q] at hv; cases hv
        | some m => rw [q] at hv; exact ⟨m, rfl, (Option.some.inj hv).symm⟩
      have now : ((s.heap.push (bare w)).push { cls := .type "list_iterator", data := .fields #[.ref l, .int 0 0] }).get? s.heap.objs.size = some (bare w) := Heap.get?_push_of_some _ at0
      refine each_in (s := { s with heap := (s.heap.push (bare w)).push { cls := .type "list_iterator", data := .fields #[.ref l, .int 0 0] } }) (Walks.list hh3 _ l far items).toS s.heap.objs.size away ks size_ few val s.heap mem (gone _ (Nat.le_refl _))
        (fun b hb => gone b (by rw [List.mem_singleton.mp hb, sz1]; exact Nat.le_succ _)) (hr _ (Nat.le_succ _)) ?_ items.size 0 _ (Nat.zero_add _) ⟨⟨_, Heap.get?_push_size _ rfl, rfl, rfl⟩, lis.push _⟩
        (fun b o e => Heap.get?_push_of_some _ (Heap.get?_push_of_some _ e)) ⟨[], #[], 0, _, Ta.new now, ⟨fun m hm => (by cases hm), fun m hm => (by simp at hm), Nat.le_refl _⟩⟩ ⟨fun _ _ _ e => e, rfl, rfl, rfl, Nat.le_refl _⟩
      intro s3 L es ep t mv R3 g3 kept
      obtain ⟨h', g2, d', tk', os'⟩ := s3
      have eg : g2 = s.gens := mv.gens
      have ed : d' = s.drawn := mv.drawn
      have eo : os' = s.os := mv.os
      subst eg; subst ed; subst eo
      refine wpAny_pure (show wpAny _ _ (ret Value.none) _ _ _ from wpAny_pure ⟨rfl, h', tk', L, es, ep, t, rfl, R3, by rw [← size_] ; exact size_ ▸ g3, kept⟩)
    · rcases r2 with x2 | fl2
      · exact done
      cases fl2 with
      | ret r =>
        obtain ⟨rfl, h', tk, L, es, ep, t, rfl, R', g', k'⟩ := done
        repeat (any_goals (first | assumption | wp_step))
        exact fin _ _ _ _ _ _ R' g' k'
      | _ => exact done.elim
  | _ => exact made.elim
end
end NS
set_option Elab.async false
set_option linter.all false
set_option maxRecDepth 100000
set_option maxHeartbeats 4000000
/-! keys of numbers and tuples of such: the kind of a set's members -/
namespace NS
open PySem PySem.Spec PyProof.Rows L2
mutual
/-- whole numbers, None, and tuples of such -/
def pure_ : NestedKey → Bool
  | .none => true
  | .num _ => true
  | .text _ => false
  | .tup ks => pures ks
def pures : List NestedKey → Bool
  | [] => true
  | k :: ks => pure_ k && pures ks
end
section
variable {P : Program} {w : World} {s : Shared}
mutual
theorem stmt_key : ∀ (k : NestedKey) (v : Value) (n : Nat) (A : Around) (E : Value → Shared → Prop) (Q : Bool → Shared → Prop), NestedIs s.heap k v → k.depth ≤ n → Q false s → wpAny (model P w) A (ofAClassStatement n v) Q E s
  | .none, _, n, A, E, Q, h, _, q => by cases h; unfold ofAClassStatement; exact wpAny_pure q
  | .num _, _, n, A, E, Q, h, _, q => by cases h <;> (unfold ofAClassStatement; exact wpAny_pure q)
  | .text _, _, n, A, E, Q, h, _, q => by cases h; unfold ofAClassStatement; exact wpAny_pure q
  | .tup ks, _, 0, A, E, Q, h, d, q => absurd d (by simp [NestedKey.depth])
  | .tup ks, _, n + 1, A, E, Q, h, d, q => by
    cases h with
    | @tup a o vs m ks ho hc hd hv =>
      have d2 : NestedKey.depthAll ks ≤ n := by simp only [NestedKey.depth] at d; omega
      have all := fun v hv' (A : Around) (E : Value → Shared → Prop) (Q : Bool → Shared → Prop) (q : Q false s) => stmt_keys ks vs.toList n hv d2 v hv' A E Q q
      unfold ofAClassStatement
      refine wpAny_bind (wpAny_typeOf (show Shared.TypeIs s (.ref a) "tuple" from ⟨o, ho, hc⟩) ?_)
      simp only [show (("tuple" : String) == "tuple") = true from by decide, if_true]
      refine wpAny_bind (wpAny_pure ?_)
      simp only [Bool.not_true, Bool.false_eq_true, if_false]
      refine wpAny_bind (wpAny_seqItems ho hd ?_)
      dsimp only
      refine wpAny_bind ?_
      rw [← Array.forIn_toList]
      refine wpAny_forIn_list _ (fun more r s1 => (r.1 = none ∧ s1 = s) ∧ ∀ y ∈ more, y ∈ vs.toList) _ (fun y more r s1 hyp => ?_) (fun r s1 hyp => ?_) _ _ ⟨⟨rfl, rfl⟩, fun y hy => hy⟩
      · obtain ⟨⟨_, rfl⟩, left⟩ := hyp
        refine wpAny_bind (all y (left y (List.mem_cons_self ..)) _ _ _ ?_)
        simp only [Bool.false_eq_true, if_false]
        exact wpAny_pure ⟨⟨rfl, rfl⟩, fun u hu => left u (List.mem_cons_of_mem _ hu)⟩
      · obtain ⟨r1, r2⟩ := r
        obtain ⟨⟨e1, rfl⟩, _⟩ := hyp
        simp only at e1
        subst e1
        exact wpAny_pure q
theorem stmt_keys : ∀ (ks : List NestedKey) (vs : List Value) (n : Nat), NestedAll s.heap ks vs → NestedKey.depthAll ks ≤ n → ∀ v ∈ vs, ∀ (A : Around) (E : Value → Shared → Prop) (Q : Bool → Shared → Prop), Q false s → wpAny (model P w) A (ofAClassStatement n v) Q E s
  | [], _, n, h, _, v, hv, A, E, Q, q => by cases h; cases hv
  | k :: ks, _, n, h, d, v, hv, A, E, Q, q => by
    cases h with
    | @cons _ u _ us h1 h2 =>
      simp only [NestedKey.depthAll] at d
      rcases List.mem_cons.mp hv with rfl | hv
      · exact stmt_key k _ n A E Q h1 (by omega) q
      · exact stmt_keys ks us n h2 (by omega) v hv A E Q q
end
mutual
theorem flat_key : ∀ (k : NestedKey) (v : Value) (n : Nat) (A : Around) (E : Value → Shared → Prop) (Q : Bool → Shared → Prop), NestedIs s.heap k v → k.depth ≤ n → pure_ k = true → Q true s → wpAny (model P w) A (hashByValue n v) Q E s
  | .none, _, n, A, E, Q, h, _, _, q => by cases h; cases n <;> exact wpAny_pure q
  | .num _, _, n, A, E, Q, h, _, _, q => by cases h <;> (cases n <;> exact wpAny_pure q)
  | .text _, _, n, A, E, Q, h, _, p, q => by cases p
  | .tup ks, _, 0, A, E, Q, h, d, _, q => absurd d (by simp [NestedKey.depth])
  | .tup ks, _, n + 1, A, E, Q, h, d, p, q => by
    cases h with
    | @tup a o vs m ks ho hc hd hv =>
      have d2 : NestedKey.depthAll ks ≤ n := by simp only [NestedKey.depth] at d; omega
      have all := fun v hv' (A : Around) (E : Value → Shared → Prop) (Q : Bool → Shared → Prop) (q : Q true s) => flat_keys ks vs.toList n hv d2 p v hv' A E Q q
      unfold hashByValue
      refine wpAny_bind (wpAny_specialOf (show Shared.TypeIs s (.ref a) "tuple" from ⟨o, ho, hc⟩) F.slot_tuple_hash.lookup ?_)
      dsimp only
      refine wpAny_bind (wpAny_seqItems ho hd ?_)
      dsimp only [Option.getD]
      refine wpAny_bind ?_
      rw [← Array.forIn_toList]
      refine wpAny_forIn_list _ (fun more r s1 => (r.1 = none ∧ s1 = s) ∧ ∀ y ∈ more, y ∈ vs.toList) _ (fun y more r s1 hyp => ?_) (fun r s1 hyp => ?_) _ _ ⟨⟨rfl, rfl⟩, fun y hy => hy⟩
      · obtain ⟨⟨_, rfl⟩, left⟩ := hyp
        refine wpAny_bind (all y (left y (List.mem_cons_self ..)) _ _ _ ?_)
        simp only [Bool.not_true, Bool.false_eq_true, if_false]
        exact wpAny_pure ⟨⟨rfl, rfl⟩, fun u hu => left u (List.mem_cons_of_mem _ hu)⟩
      · obtain ⟨r1, r2⟩ := r
        obtain ⟨⟨e1, rfl⟩, _⟩ := hyp
        simp only at e1
        subst e1
        exact wpAny_pure q
theorem flat_keys : ∀ (ks : List NestedKey) (vs : List Value) (n : Nat), NestedAll s.heap ks vs → NestedKey.depthAll ks ≤ n → pures ks = true → ∀ v ∈ vs, ∀ (A : Around) (E : Value → Shared → Prop) (Q : Bool → Shared → Prop), Q true s → wpAny (model P w) A (hashByValue n v) Q E s
  | [], _, n, h, _, _, v, hv, A, E, Q, q => by cases h; cases hv
  | k :: ks, _, n, h, d, p, v, hv, A, E, Q, q => by
    cases h with
    | @cons _ u _ us h1 h2 =>
      simp only [NestedKey.depthAll] at d
      simp only [pures, Bool.and_eq_true] at p
      rcases List.mem_cons.mp hv with rfl | hv
      · exact flat_key k _ n A E Q h1 (by omega) p.1 q
      · exact flat_keys ks us n h2 (by omega) p.2 v hv A E Q q
end
end
/-- the kind: tuples of whole numbers, None, and such tuples -/
def pureKind (P : Program) (w : World) : SKind P w NestedKey where
  kd := { nestedKind P w with
    is := fun h k a => (NestedIs h k (.ref a) ∧ k.depth ≤ 8) ∧ pure_ k = true
    inj := fun hx hy => (nestedKind P w).inj hx.1 hy.1
    keeps := fun x ho hd hs => ⟨(nestedKind P w).keeps x.1 ho hd hs, x.2⟩
    pyHash := fun hu hk h => (nestedKind P w).pyHash hu hk.1 h
    eqBool := fun hu hx hy h => (nestedKind P w).eqBool hu hx.1 hy.1 h
    quiet := fun hk h => (nestedKind P w).quiet hk.1 h }
  near := fun x k => ⟨⟨NestedIs.at (fun b o vs n g d => k b o vs n g d) _ _ x.1.1, x.1.2⟩, x.2⟩
  stmt := fun hk q => stmt_key _ _ 8 _ _ _ hk.1.1 hk.1.2 q
  flat := fun hk q => flat_key _ _ 8 _ _ _ hk.1.1 hk.1.2 hk.2 q
end NS
set_option Elab.async false
set_option linter.all false
set_option maxRecDepth 100000
set_option maxHeartbeats 4000000
/-! set(list of data) and sorted(of such a set) among the hand's words -/
namespace My
open PySem PySem.Spec PyProof.Rows L2
open PySem.W (EachIs AllAlike Sortable dataLe dataKind sortVals SortsAt sortingHeap sortVals_each each_keys alike dataLt keyToks)
/-! whole numbers, None and tuples of such -/
mutual
def pureD : PyData → Bool
  | .none => true
  | .int _ => true
  | .tuple ds => pureDs ds
  | .bool _ => false
  | .str _ => false
  | .list _ => false
  | .dict _ => false
def pureDs : List PyData → Bool
  | [] => true
  | d :: ds => pureD d && pureDs ds
end
mutual
def keyD : PyData → NestedKey
  | .int i => .num i
  | .tuple ds => .tup (keyDs ds)
  | .none => .none
  | .bool _ => .none
  | .str _ => .none
  | .list _ => .none
  | .dict _ => .none
def keyDs : List PyData → List NestedKey
  | [] => []
  | d :: ds => keyD d :: keyDs ds
end
mutual
theorem keyD_pure : ∀ d : PyData, NS.pure_ (keyD d) = true
  | .int _ => rfl
  | .tuple ds => by rw [keyD, NS.pure_]; exact keyDs_pure ds
  | .none => rfl
  | .bool _ => rfl
  | .str _ => rfl
  | .list _ => rfl
  | .dict _ => rfl
theorem keyDs_pure : ∀ ds : List PyData, NS.pures (keyDs ds) = true
  | [] => rfl
  | d :: ds => by rw [keyDs, NS.pures, keyD_pure d, keyDs_pure ds]; rfl
end
mutual
theorem keyD_depth : ∀ d : PyData, (keyD d).depth ≤ d.depth
  | .int _ => Nat.zero_le _
  | .tuple ds => by rw [keyD, NestedKey.depth, PyData.depth]; exact Nat.succ_le_succ (keyDs_depth ds)
  | .none => Nat.zero_le _
  | .bool _ => Nat.zero_le _
  | .str _ => Nat.zero_le _
  | .list _ => Nat.zero_le _
  | .dict _ => Nat.zero_le _
theorem keyDs_depth : ∀ ds : List PyData, NestedKey.depthAll (keyDs ds) ≤ PyData.depthAll ds
  | [] => Nat.zero_le _
  | d :: ds => by
    rw [keyDs, NestedKey.depthAll, PyData.depthAll]
    have := keyD_depth d
    have := keyDs_depth ds
    omega
end
mutual
theorem keyD_inj : ∀ d e : PyData, pureD d = true → pureD e = true → keyD d = keyD e → d = e
  | .none, .none, _, _, _ => rfl
  | .int i, .int j, _, _, h => by rw [keyD, keyD] at h; injection h with h; rw [h]
  | .tuple ds, .tuple es, hd, he, h => by
    rw [keyD, keyD] at h
    injection h with h
    rw [pureD] at hd he
    rw [keyDs_inj ds es hd he h]
  | .none, .int _, _, _, h => by cases h
  | .none, .tuple _, _, _, h => by rw [keyD, keyD] at h; cases h
  | .int _, .none, _, _, h => by cases h
  | .int _, .tuple _, _, _, h => by rw [keyD, keyD] at h; cases h
  | .tuple _, .none, _, _, h => by rw [keyD, keyD] at h; cases h
  | .tuple _, .int _, _, _, h => by rw [keyD, keyD] at h; cases h
  | .bool _, _, h, _, _ => by cases h
  | .str _, _, h, _, _ => by cases h
  | .list _, _, h, _, _ => by cases h
  | .dict _, _, h, _, _ => by cases h
  | _, .bool _, _, h, _ => by cases h
  | _, .str _, _, h, _ => by cases h
  | _, .list _, _, h, _ => by cases h
  | _, .dict _, _, h, _ => by cases h
theorem keyDs_inj : ∀ ds es : List PyData, pureDs ds = true → pureDs es = true → keyDs ds = keyDs es → ds = es
  | [], [], _, _, _ => rfl
  | d :: ds, e :: es, hd, he, h => by
    rw [keyDs, keyDs] at h
    injection h with h1 h2
    rw [pureDs, Bool.and_eq_true] at hd he
    rw [keyD_inj d e hd.1 he.1 h1, keyDs_inj ds es hd.2 he.2 h2]
  | [], _ :: _, _, _, h => by rw [keyDs, keyDs] at h; cases h
  | _ :: _, [], _, _, h => by rw [keyDs, keyDs] at h; cases h
end
section
variable {X : Cx} {pins : List (Addr × Obj)} {σ : L2.St} {H : Hp} {s : Shared}
mutual
theorem key_of (I : L2.Inv X pins σ H s) : ∀ (d : PyData) (v : V) (u : Value), pureD d = true → Dp X.K H v d → RelV v u → NestedIs s.heap (keyD d) u
  | .none, _, _, _, .non, r => by cases r; exact .none
  | .int i, _, _, _, .int _, r => by obtain ⟨t, rfl⟩ := r; exact .int i t
  | .tuple ds, _, _, p, .tup h a, r => by
    cases r
    obtain ⟨its, rv, ⟨o, ho, hc, n, hd⟩, _⟩ := I.tuple h
    rw [pureD] at p
    exact .tup ho hc hd (by simpa using keys_of I ds _ its p a rv)
  | .bool _, _, _, p, _, _ => by cases p
  | .str _, _, _, p, _, _ => by cases p
  | .list _, _, _, p, _, _ => by cases p
  | .dict _, _, _, p, _, _ => by cases p
theorem keys_of (I : L2.Inv X pins σ H s) : ∀ (ds : List PyData) (vs : List V) (us : List Value), pureDs ds = true → DpAll X.K H vs ds → Vals vs us → NestedAll s.heap (keyDs ds) us
  | [], _, _, _, .nil, r => by cases r; exact .nil
  | d :: ds, _, _, p, .cons h a, r => by
    cases r with
    | cons r1 r2 =>
      rw [pureDs, Bool.and_eq_true] at p
      exact .cons (key_of I d _ _ p.1 h r1) (keys_of I ds _ _ p.2 a r2)
end
end
/-- members as the table knows them -/
abbrev asKeys (L : List (Addr × PyData)) : List (Addr × NestedKey) := L.map fun m => (m.1, keyD m.2)
/-- the set at a, without its members' own objects -/
def Set0 (P : Program) (w : World) (h : Heap) (a : Addr) (M : List (Addr × NestedKey)) : Prop :=
  ∃ (es : Array (Int × Value)) (ep : Nat) (t : SetTable), (∃ o, h.get? a = some o ∧ o.ExactSet ∧ o.data = .set es ep t) ∧ es.toList = NS.ents (NS.pureKind P w) M ∧ TabOk t (NS.hashes (NS.pureKind P w) M) ∧ (NS.keysOf M).Nodup ∧ t.plain = true ∧
    (w.params.followText "set-order" = true ∨ t.led = true) ∧ M.length * 5 < t.mask * 3 ∧ M.length < 64
/-- a set of data -/
def SetD (P : Program) (w : World) (a : Addr) (L : List (Addr × PyData)) : HO := .ext fun h => Set0 P w h a (asKeys L)
theorem set0_new {P : Program} {w : World} {H : Hp} {h : Heap} {a : Addr} {L : List (Addr × PyData)} (z : Set0 P w h a (asKeys L)) : ObjOk P w H h a (SetD P w a L) := by
  have ⟨es, ep, t, ⟨o, ho, r⟩, q⟩ := id z
  refine ⟨z, ⟨o, ho⟩, fun h1 h2 p k => ?_⟩
  obtain ⟨es', ep', t', ⟨o', ho', r'⟩, q'⟩ := p
  exact ⟨es', ep', t', ⟨o', k o' ho', r'⟩, q'⟩
/-- data that may stand in such a set -/
def InSet (K : PySem.W.Frag) (H : Hp) (m : Addr × PyData) : Prop := Dp K H (.ref m.1) m.2 ∧ pureD m.2 = true ∧ m.2.depth ≤ 8
theorem keysOf_nodup {L : List (Addr × PyData)} (h : (NS.keysOf (asKeys L)).Nodup) : (L.map Prod.snd).Nodup := by
  have e : NS.keysOf (asKeys L) = (L.map Prod.snd).map keyD := by simp [NS.keysOf, asKeys, List.map_map, Function.comp_def]
  rw [e] at h
  exact List.Pairwise.of_map keyD (fun _ _ ne z => ne (congrArg keyD z)) h
section
variable {X : Cx}
theorem in_kind {pins : List (Addr × Obj)} {σ : L2.St} {H : Hp} {s : Shared} (I : L2.Inv X pins σ H s) {m : Addr × PyData} (h : InSet X.K H m) : (NS.pureKind X.prog X.w).kd.is s.heap (keyD m.2) m.1 :=
  ⟨⟨key_of I m.2 (.ref m.1) (.ref m.1) h.2.1 h.1 rfl, Nat.le_trans (keyD_depth _) h.2.2⟩, keyD_pure _⟩
theorem valsD_eq : ∀ {ks : List (Addr × PyData)} {us : List Value}, Vals (ks.map fun m => V.ref m.1) us → us = (asKeys ks).map fun m => Value.ref m.1
  | [], _, .nil => rfl
  | m :: ks, _, .cons r t => by cases r; rw [valsD_eq t]; rfl
/-- set(list of data) -/
def rSetD (K : PySem.W.Frag) (P : Program) (w : World) : List V → Hp → VK → Prop := fun xs H Q => ∃ (l : Addr) (ks : List (Addr × PyData)), xs = [V.ref l] ∧ SqL K H l (ks.map fun m => V.ref m.1) ∧ (∀ m ∈ ks, InSet K H m) ∧ ks.length < 64 ∧
  ∀ a L, H a = none → (∀ m ∈ L, m ∈ ks) → (∀ m ∈ ks, m.2 ∈ L.map Prod.snd) → (L.map Prod.snd).Nodup → L.length ≤ ks.length → Q (.ref a) (upd H a (SetD P w a L))
theorem cr_setD (hc : X.calm = true) (hu : X.A.units + 64 < cLine) : CallR X (.type "set") (rSetD X.K X.prog X.w) := by
  intro pins s σ H xs us Q I r h
  obtain ⟨l, ks, rfl, hl, hk, few, q⟩ := h
  rw [Vals.ref1 r]
  obtain ⟨its, rv, pl, hz⟩ := I.list hl
  have hn : H s.heap.objs.size = none := I.hok.fresh (Nat.le_refl _)
  refine NS.set_of_list (D := NS.pureKind X.prog X.w) (asKeys ks) (I.ok.hd hc) pl.isList (by simpa using valsD_eq rv) (fun m hm => ?_) (by rw [List.length_map]; exact few) (fun B le => show B.units + 8 < cLine by omega) fun h' tk M es ep t R g k => ?_
  · obtain ⟨m0, h0, rfl⟩ := List.mem_map.mp hm
    exact in_kind I (hk m0 h0)
  · obtain ⟨g1, g2, g3⟩ := g
    rw [List.length_map] at g3
    rw [List.take_length] at g1 g2
    have pick : ∀ M : List (Addr × NestedKey), (∀ m ∈ M, m ∈ asKeys ks) → ∃ L : List (Addr × PyData), asKeys L = M ∧ ∀ m ∈ L, m ∈ ks := by
      intro M
      induction M with
      | nil => intro _; exact ⟨[], rfl, fun m hm => (by cases hm)⟩
      | cons m M ih =>
        intro all
        obtain ⟨L, e, sub⟩ := ih fun n hn => all n (List.mem_cons_of_mem _ hn)
        obtain ⟨m0, h0, rfl⟩ := List.mem_map.mp (all m (List.mem_cons_self ..))
        exact ⟨m0 :: L, by rw [← e]; rfl, fun n hn => (List.mem_cons.mp hn).elim (fun z => by rw [z]; exact h0) (sub n)⟩
    obtain ⟨L, rfl, sub⟩ := pick M g1
    have z0 : Set0 X.prog X.w h' s.heap.objs.size (asKeys L) := ⟨es, ep, t, R.obj, R.rws, R.tab, R.once, R.flat, R.led, R.room, R.few⟩
    refine ⟨.ref s.heap.objs.size, upd H s.heap.objs.size (SetD X.prog X.w s.heap.objs.size L), I.laid (t' := tk) k (Nat.le_refl _) (set0_new z0), rfl, q _ L hn sub (fun m hm => ?_) (keysOf_nodup R.once) (by rw [List.length_map] at g3; exact g3)⟩
    have there := g2 (m.1, keyD m.2) (List.mem_map.mpr ⟨m, hm, rfl⟩)
    obtain ⟨n, hn', e⟩ := List.mem_map.mp there
    obtain ⟨n0, h0, rfl⟩ := List.mem_map.mp hn'
    have e2 : n0.2 = m.2 := keyD_inj _ _ (hk n0 (sub n0 h0)).2.1 (hk m hm).2.1 e
    exact List.mem_map.mpr ⟨n0, h0, e2⟩
end
end My
set_option Elab.async false
set_option linter.all false
set_option maxRecDepth 100000
set_option maxHeartbeats 4000000
/-! sorted(a set), of whole numbers or of data, fewer than 4096 -/
namespace My
open PySem PySem.Spec PyProof.Rows L2
open PySem.W (EachIs AllAlike Sortable dataLe dataKind sortVals SortsAt sortingHeap sortVals_each each_keys alike dataLt keyToks)
/-- in rising order of the data -/
abbrev Rising {β : Type} (dt : β → PyData) (M : List β) : Prop := M.Pairwise fun x y => dataLe false dt x y = true
theorem perm_pull {α β : Type} {f : α → β} : ∀ {L : List α} {vs : List β}, vs.Perm (L.map f) → ∃ M : List α, vs = M.map f ∧ M.Perm L
  | [], vs, p => ⟨[], p.eq_nil, .refl _⟩
  | x :: L, vs, p => by
    obtain ⟨u, v, rfl⟩ := List.append_of_mem (p.symm.mem_iff.mp (List.mem_cons_self (a := f x) (l := L.map f)))
    have p2 : (u ++ v).Perm (L.map f) := by
      have q := (List.perm_middle (a := f x) (l₁ := u) (l₂ := v)).symm.trans p
      exact List.Perm.cons_inv q
    obtain ⟨M, e, pm⟩ := perm_pull p2
    obtain ⟨M1, M2, rfl, rfl, rfl⟩ := List.append_eq_map_iff.mp e
    exact ⟨M1 ++ x :: M2, by simp, List.perm_middle.trans (pm.cons x)⟩
theorem each_vs {β : Type} {R : Value → β → Prop} (val : β → Value) : ∀ (M : List β), (∀ b ∈ M, R (val b) b) → EachIs R (M.map val) M
  | [], _ => .nil
  | b :: M, h => .cons (h b (List.mem_cons_self ..)) (each_vs val M fun c m => h c (List.mem_cons_of_mem _ m))
theorem each_map_r {β γ : Type} {R : Value → γ → Prop} (f : β → γ) : ∀ {vs : List Value} {M : List β}, EachIs (fun v b => R v (f b)) vs M → EachIs R vs (M.map f)
  | _, _, .nil => .nil
  | _, _, .cons h t => .cons h (each_map_r f t)
theorem vs_each {β : Type} (val : β → Value) : ∀ {vs : List Value} {M : List β}, EachIs (fun v b => v = val b) vs M → vs = M.map val
  | _, _, .nil => rfl
  | _, _, .cons h t => by rw [h, vs_each val t]; rfl
section
variable {P : Program} {w : World} {A : Around} {E : Value → Shared → Prop} {s : Shared}
theorem sorted_set {β : Type} {a : Addr} {es : Array (Int × Value)} {ep : Nat} {t : SetTable} (L : List β) (val : β → Value) (dt : β → PyData) (hh : A.handled = none) (at_ : SetAt s.heap a es ep t) (fit : t.fits es.size = true)
    (small : es.size < scanBound) (ri : Ris t.place.toList) (led : w.params.followText "set-order" = true ∨ t.led = true) (ev : es.toList.map (·.2) = L.map val) (rd : ∀ b ∈ L, ∃ as, Reads s.heap (val b) (dt b) as)
    (al : AllAlike (L.map dt)) (so : Sortable (L.map dt)) (un : ∀ b ∈ L, A.units + 2 + (dt b).depth < cLine) {Q : Value → Shared → Prop}
    (fin : ∀ s' p (out : Array Value) (c : Nat) (M : List β), (∀ b o, s.heap.get? b = some o → s'.heap.get? b = some o) → s'.gens = s.gens → s'.os = s.os → s.heap.objs.size ≤ p → s'.heap.get? p = some (seqObj "list" out c) →
      out.toList = M.map val → M.Perm L → Rising dt M → Q (.ref p) s') : wpAny (model P w) A (call (.builtin "sorted") [.ref a]) Q E s := by
  refine Calls.call_function_entry kind_sorted plain_sorted entry_sorted (args_sorted1 _) ?_
  unfold Builtin.«sorted»
  refine wpAny_bind (m := checkCount "sorted" 1 1 _) (wpAny_pure (wpAny_bind (collect_set (A := A.in1) hh at_ fit small ri led fun s1 vs k1 hz g1 o1 pm => ?_)))
  rw [ev] at pm
  obtain ⟨N, rfl, pN⟩ := perm_pull pm
  have n64 : N.length < scanBound := by rw [pN.length_eq, ← List.length_map (f := val), ← ev, List.length_map, Array.length_toList]; exact small
  have len : (N.map val).length ≤ sizeLine := by rw [List.length_map]; exact fits_of_scanBound n64
  refine wpAny_bind (wpAny_newList ?_ len)
  have here : (s1.heap.push (seqObj "list" (N.map val).toArray 0)).get? s1.heap.objs.size = some (seqObj "list" (N.map val).toArray 0) := Heap.get?_push_size _ rfl
  have old : ∀ b o, s.heap.get? b = some o → (sortingHeap (s1.heap.push (seqObj "list" (N.map val).toArray 0)) s1.heap.objs.size (N.map val)).get? b = some o := fun b o e =>
    PySem.W.sortingHeap_old (Nat.ne_of_lt (Heap.lt_size (k1 b o e))) (Heap.get?_push_of_some _ (k1 b o e))
  have e1 : EachIs (fun v d => ∃ as, Reads (sortingHeap (s1.heap.push (seqObj "list" (N.map val).toArray 0)) s1.heap.objs.size (N.map val)) v d as) (N.map val) (N.map dt) :=
    each_map_r dt (each_vs val N fun b m => by
      obtain ⟨as, r⟩ := rd b (pN.mem_iff.mp m)
      exact ⟨as, Reads.keeps old r⟩)
  have mm : ∀ d, d ∈ N.map dt → d ∈ L.map dt := fun d m => (pN.map dt).mem_iff.mp m
  have al1 : AllAlike (N.map dt) := fun d m d' m' => al d (mm d m) d' (mm d' m')
  have so1 : Sortable (N.map dt) := so.imp (fun f d m => f d (mm d m)) fun f d m => f d (mm d m)
  have un1 : ∀ d, d ∈ N.map dt → A.in1.in1.units + d.depth < cLine := fun d m => by
    obtain ⟨b, mb, rfl⟩ := List.mem_map.mp (mm d m)
    exact un b mb
  refine wpAny_bind (wpAny_holding (wpAny_call_entry slot_list_sort ⟨_, here, rfl⟩ entry_list_sort (PySem.W.list_sort_vals (s := { s1 with heap := s1.heap.push (seqObj "list" (N.map val).toArray 0) }) here
    (SortsAt.data (s := { s1 with heap := sortingHeap (s1.heap.push (seqObj "list" (N.map val).toArray 0)) s1.heap.objs.size (N.map val) }) e1 al1 so1 un1) len ⟨_, rfl, ?_⟩) (args_list_sort _)))
  have out := sortVals_each (κ := dataKind (sortingHeap (s1.heap.push (seqObj "list" (N.map val).toArray 0)) s1.heap.objs.size (N.map val)) (N.map dt)) (rev := false) (R := fun u b => u = val b) (fun b => keyToks (dt b)) (each_vs val N fun _ _ => rfl) (PySem.W.each_of_map dt (each_keys al1 e1))
  have rel := vs_each val out
  obtain ⟨c, hc⟩ := sortedHeap_at (vs := N.map val) (out := (sortVals (dataKind (sortingHeap (s1.heap.push (seqObj "list" (N.map val).toArray 0)) s1.heap.objs.size (N.map val)) (N.map dt)) false (N.map val) (N.map val)).toArray) here
  have tl := PySem.W.sortLe_total (listOrd itemOrd) false fun b => keyToks (dt b)
  refine wpAny_pure ⟨_, rfl, fin _ s1.heap.objs.size _ c (N.mergeSort (dataLe false dt)) (fun b u e => ?_) g1 o1 hz hc rel ((List.mergeSort_perm ..).trans pN) (List.pairwise_mergeSort tl.trans (fun a b => by have := tl.total a b; simpa using this) _)⟩
  have q := k1 b u e
  show (sortedHeap _ _ _ _).get? b = some u
  rw [sortedHeap_old (Nat.ne_of_lt (Heap.lt_size q)) (by rw [size_push']; exact Nat.lt_succ_of_lt (Heap.lt_size q))]
  exact Heap.get?_push_of_some _ q
end
end My
set_option Elab.async false
set_option linter.all false
set_option maxRecDepth 100000
set_option maxHeartbeats 4000000
namespace My
open PySem PySem.Spec PyProof.Rows L2
open PySem.W (EachIs AllAlike Sortable dataLe dataKind alike dataLt keyToks)
/-! ### one order only -/
mutual
theorem eqv_pure : ∀ d e : PyData, pureD d = true → pureD e = true → PyData.eqv d e = true → d = e
  | .none, .none, _, _, _ => rfl
  | .int i, .int j, _, _, h => by rw [PyData.eqv] at h; rw [beq_iff_eq.mp h]
  | .tuple ds, .tuple es, hd, he, h => by
    rw [PyData.eqv] at h
    rw [pureD] at hd he
    rw [eqvs_pure ds es hd he h]
  | .none, .int _, _, _, h => by simp [PyData.eqv] at h
  | .none, .tuple _, _, _, h => by simp [PyData.eqv] at h
  | .int _, .none, _, _, h => by simp [PyData.eqv] at h
  | .int _, .tuple _, _, _, h => by simp [PyData.eqv] at h
  | .tuple _, .none, _, _, h => by simp [PyData.eqv] at h
  | .tuple _, .int _, _, _, h => by simp [PyData.eqv] at h
  | .bool _, _, h, _, _ => by cases h
  | .str _, _, h, _, _ => by cases h
  | .list _, _, h, _, _ => by cases h
  | .dict _, _, h, _, _ => by cases h
  | _, .bool _, _, h, _ => by cases h
  | _, .str _, _, h, _ => by cases h
  | _, .list _, _, h, _ => by cases h
  | _, .dict _, _, h, _ => by cases h
theorem eqvs_pure : ∀ ds es : List PyData, pureDs ds = true → pureDs es = true → PyData.eqvAll ds es = true → ds = es
  | [], [], _, _, _ => rfl
  | d :: ds, e :: es, hd, he, h => by
    rw [PyData.eqvAll, Bool.and_eq_true] at h
    rw [pureDs, Bool.and_eq_true] at hd he
    rw [eqv_pure d e hd.1 he.1 h.1, eqvs_pure ds es hd.2 he.2 h.2]
  | [], _ :: _, _, _, h => by simp [PyData.eqvAll] at h
  | _ :: _, [], _, _, h => by simp [PyData.eqvAll] at h
end
theorem toks_pure {d e : PyData} (hd : pureD d = true) (he : pureD e = true) (al : alike d e = true) (h : keyToks d = keyToks e) : d = e := by
  cases q : PyData.eqv d e with
  | true => exact eqv_pure d e hd he q
  | false =>
    exfalso
    have z := (PySem.W.toks_eqv d e al).2 q
    rw [h] at z
    have up : ∀ l m, lexLt itemOrd l m = false := fun l m => by
      rw [← PySem.W.lex_pre (keyToks e) l m, z]
      exact (listOrd itemOrd).irrefl _
    have no := up [] [.inl 0]
    exact absurd no (by decide +kernel)
/-- what rises, of the same things, is the same -/
theorem rising_one {β γ : Type} {dt : β → PyData} {dg : γ → PyData} {M : List β} {N : List γ} (r1 : Rising dt M) (r2 : Rising dg N) (pm : (M.map dt).Perm (N.map dg)) (al : AllAlike (M.map dt)) (pu : ∀ d ∈ M.map dt, pureD d = true) : M.map dt = N.map dg := by
  have le1 : (M.map dt).Pairwise fun x y => dataLe false id x y = true := List.pairwise_map.mpr r1
  have le2 : (N.map dg).Pairwise fun x y => dataLe false id x y = true := List.pairwise_map.mpr r2
  refine pm.eq_of_pairwise (fun x y mx my h1 h2 => ?_) le1 le2
  have my' : y ∈ M.map dt := pm.mem_iff.mpr my
  refine toks_pure (pu x mx) (pu y my') (al x mx y my') ?_
  have a1 : (!lexLt itemOrd (keyToks y) (keyToks x)) = true := h1
  have a2 : (!lexLt itemOrd (keyToks x) (keyToks y)) = true := h2
  rw [Bool.not_eq_true'] at a1 a2
  exact (listOrd itemOrd).total _ _ a2 a1
section
variable {X : Cx}
/-- sorted(a set of data) -/
def rSortedS (K : PySem.W.Frag) (P : Program) (w : World) : List V → Hp → VK → Prop := fun vs H Q => ∃ (a : Addr) (L : List (Addr × PyData)), vs = [V.ref a] ∧ H a = some (SetD P w a L) ∧ (∀ m ∈ L, InSet K H m) ∧ AllAlike (L.map Prod.snd) ∧ Sortable (L.map Prod.snd) ∧
  ∀ (M : List (Addr × PyData)) (p : Addr), M.Perm L → Rising Prod.snd M → H p = none → Q (.ref p) (upd H p (.lst (M.map fun m => V.ref m.1)))
theorem vals_refs {α : Type} : ∀ (M : List (Addr × α)), Vals (M.map fun m => V.ref m.1) (M.map fun m => Value.ref m.1)
  | [] => .nil
  | m :: M => .cons rfl (vals_refs M)
theorem cr_sortedS (hc : X.calm = true) (hu : X.A.units + 40 < cLine) : CallR X (.builtin "sorted") (rSortedS X.K X.prog X.w) := by
  intro pins s σ H vs us Q I r h
  obtain ⟨a, L, rfl, ha, hk, al, so, q⟩ := h
  obtain ⟨es, ep, t, ⟨o, ho, ex, hd⟩, rw_, tab, once, fl, led, room, few⟩ : Set0 X.prog X.w s.heap a (asKeys L) := (I.hok a _ ha).1
  rw [Vals.ref1 r]
  rw [List.length_map] at room few
  have n := NS.rws_len rw_
  rw [List.length_map] at n
  have sz := tab.sz
  rw [List.length_map, List.length_map] at sz
  refine sorted_set L (fun m => Value.ref m.1) Prod.snd (I.ok.hd hc) ⟨o, ho, ex.1, hd⟩ (by rw [n]; exact NS.fits_of tab.dm sz (by omega)) (by unfold scanBound; omega) tab.ris led (by rw [rw_]; simp [NS.ents, asKeys, List.map_map, Function.comp_def])
    (fun m hm => Dp.reads I m.2 (.ref m.1) (.ref m.1) (hk m hm).1 rfl) al so (fun m hm => by have := (hk m hm).2.2; omega) fun s' p out c M k g o2 hp hg hout pm ri => ?_
  have hlen : (M.map fun m => V.ref m.1).length ≤ sizeLine := by rw [List.length_map, pm.length_eq, sizeLine_eq]; omega
  have hn : H p = none := I.hok.fresh hp
  have J : L2.Inv X pins σ (upd H p (.lst (M.map fun m => V.ref m.1))) { s with heap := s'.heap, gens := s'.gens, drawn := s'.drawn, toks := s'.toks } :=
    I.call (ch := []) (Un.laid k hp hn) (I.hok.laid k hp ⟨hlen, out.toList, c, by rw [hout]; exact vals_refs M, hg⟩) (by rw [g]; exact I.bare) (fun _ z => nomatch z)
  have e : s' = { s with heap := s'.heap, gens := s'.gens, drawn := s'.drawn, toks := s'.toks } := by
    cases s'; cases s; cases o2; rfl
  rw [e]
  exact ⟨.ref p, _, J, rfl, q M p pm ri hn⟩
/-- sorted(a set of whole numbers), fewer than 4096 -/
def rSortedI (w : World) : List V → Hp → VK → Prop := fun vs H Q => ∃ (a : Addr) (S : Int → Bool) (n : Nat), vs = [V.ref a] ∧ H a = some (SetO w a S n) ∧
  ∀ (ns : List Int) (p : Addr), ns.Pairwise (· < ·) → (∀ k : Int, k ∈ ns ↔ S k = true) → H p = none → Q (.ref p) (upd H p (.lst (ns.map V.int)))
theorem ints_alike (L : List Int) {β : Type} (f : β → Int) (M : List β) : AllAlike (M.map fun b => .int (f b)) ∧ Sortable (M.map fun b => .int (f b)) := by
  refine ⟨fun d m d' m' => ?_, .inr fun d m => ?_⟩
  · obtain ⟨_, _, rfl⟩ := List.mem_map.mp m
    obtain ⟨_, _, rfl⟩ := List.mem_map.mp m'
    rfl
  · obtain ⟨_, _, rfl⟩ := List.mem_map.mp m
    exact And.intro (fun z => by cases z) (fun xs z => by cases z)
theorem cr_sortedI (hc : X.calm = true) (hu : X.A.units + 40 < cLine) : CallR X (.builtin "sorted") (rSortedI X.w) := by
  intro pins s σ H vs us Q I r h
  obtain ⟨a, S, n, rfl, ha, q⟩ := h
  obtain ⟨o, es, ep, t, ho, ex, hd, good, nd, mem, small, fit, _, ri, led⟩ := setO_get I ha
  rw [Vals.ref1 r]
  have rel : ∀ e ∈ es.toList, ∃ tk, e.2 = Value.int (keyOf e) tk := fun e m => by
    obtain ⟨k, tk, e1, _⟩ := good e m
    exact ⟨tk, by unfold keyOf; rw [e1]⟩
  refine sorted_set es.toList (fun e => e.2) (fun e => .int (keyOf e)) (I.ok.hd hc) ⟨o, ho, ex.1, hd⟩ fit small ri led rfl (fun e m => by obtain ⟨tk, z⟩ := rel e m; rw [z]; exact ⟨_, .int _ tk⟩)
    (ints_alike [] keyOf es.toList).1 (ints_alike [] keyOf es.toList).2 (fun e m => by show X.A.units + 2 + 0 < cLine; omega) fun s' p out c M k g o2 hp hg hout pm rise => ?_
  have hlen : ((M.map keyOf).map V.int).length ≤ sizeLine := by
    rw [List.length_map, List.length_map, pm.length_eq, Array.length_toList]
    exact fits_of_scanBound small
  have hn : H p = none := I.hok.fresh hp
  have vals : ∀ M : List (Int × Value), (∀ e ∈ M, e ∈ es.toList) → Vals ((M.map keyOf).map V.int) (M.map fun e => e.2) := by
    intro M
    induction M with
    | nil => intro _; exact .nil
    | cons e M ih =>
      intro h
      obtain ⟨tk, z⟩ := rel e (h e (List.mem_cons_self ..))
      exact .cons ⟨tk, z⟩ (ih fun x m => h x (List.mem_cons_of_mem _ m))
  have J : L2.Inv X pins σ (upd H p (.lst ((M.map keyOf).map V.int))) { s with heap := s'.heap, gens := s'.gens, drawn := s'.drawn, toks := s'.toks } :=
    I.call (ch := []) (Un.laid k hp hn) (I.hok.laid k hp ⟨hlen, out.toList, c, by rw [hout]; exact vals M fun e m => pm.mem_iff.mp m, hg⟩) (by rw [g]; exact I.bare) (fun _ z => nomatch z)
  have e : s' = { s with heap := s'.heap, gens := s'.gens, drawn := s'.drawn, toks := s'.toks } := by
    cases s'; cases s; cases o2; rfl
  rw [e]
  refine ⟨.ref p, _, J, rfl, q (M.map keyOf) p ?_ (fun k => ?_) hn⟩
  · have nd' : (M.map keyOf).Nodup := (pm.map keyOf).nodup_iff.mpr nd
    have le : (M.map keyOf).Pairwise (· ≤ ·) := List.pairwise_map.mpr (rise.imp fun {x y} h => by
      have a1 : (!dataLt (.int (keyOf y)) (.int (keyOf x))) = true := h
      rw [PySem.W.dataLt_int, Bool.not_eq_true', decide_eq_false_iff_not] at a1
      omega)
    exact (List.Pairwise.and le nd').imp fun h => by omega
  · rw [(pm.map keyOf).mem_iff, mem]
end
end My
set_option Elab.async false
set_option linter.all false
set_option maxRecDepth 100000
namespace My
open PySem
/-- the text, by places -/
def topS (i : Nat) : Stmt := PySem.Challenge.pw_meetwhere_k01_whole_stores_and_rows_judg.main.body.getD i (.Pass ⟨0, 0, 0, 0⟩)
end My
set_option Elab.async false
set_option linter.all false
set_option maxRecDepth 100000
set_option maxHeartbeats 4000000
namespace My
open PySem PySem.Spec PyProof.Rows L2
/-! ### data with lists and the one dict that the law hands in -/
mutual
inductive Dq (H : Hp) : V → PyData → Prop
  | non : Dq H .non .none
  | bl (b : Bool) : Dq H (.bl b) (.bool b)
  | int (i : Int) : Dq H (.int i) (.int i)
  | str (x : Str) : Dq H (.str x) (.str x)
  | lst {a : Addr} {xs : List V} {ds : List PyData} : H a = some (.lst xs) → DqAll H xs ds → Dq H (.ref a) (.list ds)
  | tup {a : Addr} {xs : List V} {ds : List PyData} : H a = some (.tup xs) → DqAll H xs ds → Dq H (.ref a) (.tuple ds)
  | dct {a : Addr} : H a = some (.dK [(Sum.inl 0, .int 1)]) → Dq H (.ref a) (.dict [(.int 0, .int 1)])
inductive DqAll (H : Hp) : List V → List PyData → Prop
  | nil : DqAll H [] []
  | cons {v : V} {vs : List V} {d : PyData} {ds : List PyData} : Dq H v d → DqAll H vs ds → DqAll H (v :: vs) (d :: ds)
end
def D01 : PyData := .dict [(.int 0, .int 1)]
section
variable {K : PySem.W.Frag} {H H' : Hp}
mutual
theorem dq_keep (s : Same H H') : ∀ (d : PyData) (v : V), Dq H v d → Dq H' v d
  | _, _, .non => .non
  | _, _, .bl b => .bl b
  | _, _, .int i => .int i
  | _, _, .str x => .str x
  | .list ds, _, .lst h a => .lst (s _ _ h) (dqAll_keep s ds _ a)
  | .tuple ds, _, .tup h a => .tup (s _ _ h) (dqAll_keep s ds _ a)
  | _, _, .dct h => .dct (s _ _ h)
theorem dqAll_keep (s : Same H H') : ∀ (ds : List PyData) (vs : List V), DqAll H vs ds → DqAll H' vs ds
  | [], _, .nil => .nil
  | d :: ds, _, .cons h a => .cons (dq_keep s d _ h) (dqAll_keep s ds _ a)
end
theorem Dq.keep {v : V} {d : PyData} (h : Dq H v d) (s : Same H H') : Dq H' v d := dq_keep s d v h
theorem DqAll.keep {vs : List V} {ds : List PyData} (h : DqAll H vs ds) (s : Same H H') : DqAll H' vs ds := dqAll_keep s ds vs h
theorem DqAll.len : ∀ {vs : List V} {ds : List PyData}, DqAll H vs ds → vs.length = ds.length
  | _, _, .nil => rfl
  | _, _, .cons _ a => congrArg (· + 1) a.len
theorem DqAll.get : ∀ {vs : List V} {ds : List PyData}, DqAll H vs ds → ∀ {i : Nat} {x : V}, vs[i]? = some x → ∃ d, ds[i]? = some d ∧ Dq H x d
  | _, _, .nil, i, x, e => by simp at e
  | _, _, @DqAll.cons _ v vs d ds h a, 0, x, e => ⟨d, rfl, by
      have z : v = x := Option.some.inj e
      rw [← z]; exact h⟩
  | _, _, .cons _ a, i + 1, x, e => a.get (i := i) e
theorem DqAll.getD : ∀ {vs : List V} {ds : List PyData}, DqAll H vs ds → ∀ {i : Nat} {d : PyData}, ds[i]? = some d → ∃ x, vs[i]? = some x ∧ Dq H x d
  | _, _, .nil, i, x, e => by simp at e
  | _, _, @DqAll.cons _ v vs d ds h a, 0, x, e => ⟨v, rfl, by
      have z : d = x := Option.some.inj e
      rw [← z]; exact h⟩
  | _, _, .cons _ a, i + 1, x, e => a.getD (i := i) e
theorem DqAll.snoc : ∀ {vs : List V} {ds : List PyData} {v : V} {d : PyData}, DqAll H vs ds → Dq H v d → DqAll H (vs ++ [v]) (ds ++ [d])
  | _, _, _, _, .nil, h => .cons h .nil
  | _, _, _, _, .cons h a, g => .cons h (a.snoc g)
theorem DqAll.app : ∀ {vs : List V} {ds : List PyData} {us : List V} {es : List PyData}, DqAll H vs ds → DqAll H us es → DqAll H (vs ++ us) (ds ++ es)
  | _, _, _, _, .nil, g => g
  | _, _, _, _, .cons h a, g => .cons h (a.app g)
theorem DqAll.drop : ∀ {vs : List V} {ds : List PyData} (n : Nat), DqAll H vs ds → DqAll H (vs.drop n) (ds.drop n)
  | _, _, 0, h => h
  | _, _, n + 1, .nil => .nil
  | _, _, n + 1, .cons _ a => a.drop n
theorem DqAll.take : ∀ {vs : List V} {ds : List PyData} (n : Nat), DqAll H vs ds → DqAll H (vs.take n) (ds.take n)
  | _, _, 0, _ => .nil
  | _, _, n + 1, .nil => .nil
  | _, _, n + 1, .cons h a => .cons h (a.take n)
theorem DqAll.set : ∀ {vs : List V} {ds : List PyData} {v : V} {d : PyData} (n : Nat), DqAll H vs ds → Dq H v d → DqAll H (vs.set n v) (ds.set n d)
  | _, _, _, _, _, .nil, _ => .nil
  | _, _, _, _, 0, .cons _ a, g => .cons g a
  | _, _, _, _, n + 1, .cons h a, g => .cons h (a.set n g)
theorem dqAll_ints : ∀ {ns : List Int}, DqAll H (ns.map V.int) (ns.map PyData.int)
  | [] => .nil
  | n :: ns => .cons (.int n) dqAll_ints
theorem Dq.ty {x : V} {d : PyData} (h : Dq H x d) : TyOf K H x (.type (tyD d)) := by
  cases h with
  | non => exact .non
  | bl b => exact .bl b
  | int i => exact .int i
  | str z => exact .str z
  | lst h _ => exact .lst h
  | tup h _ => exact .tup h
  | dct h => exact .dK h
/-! what the program asks of data -/
def seqOf : PyData → Option (List PyData)
  | .list ds => some ds
  | .tuple ds => some ds
  | _ => none
def intD : PyData → Bool
  | .int _ => true
  | _ => false
def wholeD (l h : Int) : PyData → Bool
  | .int i => decide (l ≤ i) && decide (i ≤ h)
  | _ => false
def valueD : PyData → Bool := wholeD 0 1000000000
theorem seqT_d (d : PyData) : seqT (tyD d) = (seqOf d).isSome := by cases d <;> rfl
theorem Dq.whole {x : V} {d : PyData} (h : Dq H x d) : wholeV x none none = intD d := by cases h <;> rfl
theorem Dq.wholeB {x : V} {d : PyData} {l g : Int} (h : Dq H x d) : wholeV x (some l) (some g) = wholeD l g d := by cases h <;> rfl
theorem Dq.value {x : V} {d : PyData} (h : Dq H x d) : valueV x = valueD d := h.wholeB
/-- a sequence of data: where it lies -/
theorem Dq.seq {x : V} {d : PyData} {ds : List PyData} (h : Dq H x d) (e : seqOf d = some ds) : ∃ a xs, x = .ref a ∧ (H a = some (.lst xs) ∨ H a = some (.tup xs)) ∧ DqAll H xs ds := by
  cases h with
  | lst h a =>
    have z := Option.some.inj e
    subst z
    exact ⟨_, _, rfl, .inl h, a⟩
  | tup h a =>
    have z := Option.some.inj e
    subst z
    exact ⟨_, _, rfl, .inr h, a⟩
  | _ => cases e
theorem sqv_of {a : Addr} {xs : List V} (h : H a = some (.lst xs) ∨ H a = some (.tup xs)) : SqV K H a xs := h.imp SqL.of SqT.of
end
/-! ### snapshots: the part of the heap in which the data lie, without the hand and without lists that still grow -/
structure Ext (a : Addr) (H G H' G' : Hp) : Prop where
  old : ∀ b o, b ≠ a → H b = some o → H' b = some o
  hand : H' a ≠ none
  up : Same G G'
  sub : Same G' H'
  off : G' a = none
  new : ∀ b o, G' b = some o → G b = some o ∨ H b = none
section
variable {a : Addr} {H G H1 G1 H2 G2 : Hp}
theorem Ext.refl (ha : H a ≠ none) (s : Same G H) (o : G a = none) : Ext a H G H G :=
  ⟨fun _ _ _ h => h, ha, Same.refl _, s, o, fun _ _ h => .inl h⟩
theorem Ext.trans (x : Ext a H G H1 G1) (y : Ext a H1 G1 H2 G2) : Ext a H G H2 G2 where
  old := fun b o n h => y.old b o n (x.old b o n h)
  hand := y.hand
  up := x.up.trans y.up
  sub := y.sub
  off := y.off
  new := fun b o h => by
    rcases y.new b o h with z | z
    · exact x.new b o z
    · right
      by_cases hb : b = a
      · rw [hb, y.off] at h
        cases h
      · cases e : H b with
        | none => rfl
        | some u => rw [x.old b u hb e] at z; cases z
theorem Ext.ha {o : HO} (x : Ext a H G H1 G1) (h : H a = some o) : a = a := rfl
/-- a new thing among the data -/
theorem Ext.mk_ {p : Addr} {o : HO} (x : Ext a H G H1 G1) (n : H1 p = none) : Ext a H G (upd H1 p o) (upd G1 p o) where
  old := fun b u hb h => by
    have e := x.old b u hb h
    rw [upd_ne (ne_of_none e n)]
    exact e
  hand := by
    have z : a ≠ p := fun z => x.hand (by rw [z]; exact n)
    rw [upd_ne z]
    exact x.hand
  up := fun b u h => by
    have e := x.up b u h
    rw [upd_ne (ne_of_none (x.sub _ _ e) n)]
    exact e
  sub := fun b u h => by
    by_cases hb : b = p
    · rw [hb, upd_same] at h ⊢
      exact h
    · rw [upd_ne hb] at h ⊢
      exact x.sub _ _ h
  off := by
    have z : a ≠ p := fun z => x.hand (by rw [z]; exact n)
    rw [upd_ne z]
    exact x.off
  new := fun b u h => by
    by_cases hb : b = p
    · right
      rw [hb]
      cases e : H p with
      | none => rfl
      | some w =>
        by_cases ha : p = a
        · exact absurd n (by rw [ha]; exact x.hand)
        · rw [x.old p w ha e] at n; cases n
    · rw [upd_ne hb] at h
      exact x.new b u h
/-- a new thing beside the data -/
theorem Ext.mk0 {p : Addr} {o : HO} (x : Ext a H G H1 G1) (n : H1 p = none) : Ext a H G (upd H1 p o) G1 where
  old := fun b u hb h => by
    have e := x.old b u hb h
    rw [upd_ne (ne_of_none e n)]
    exact e
  hand := by
    have z : a ≠ p := fun z => x.hand (by rw [z]; exact n)
    rw [upd_ne z]
    exact x.hand
  up := x.up
  sub := fun b u h => by
    rw [upd_ne (ne_of_none (x.sub _ _ h) n)]
    exact x.sub _ _ h
  off := x.off
  new := x.new
/-- a list of one's own grows -/
theorem Ext.put {p : Addr} {o : HO} (x : Ext a H G H1 G1) (n : H p = none) (g : G1 p = none) (pa : p ≠ a) : Ext a H G (upd H1 p o) G1 where
  old := fun b u hb h => by
    rw [upd_ne (ne_of_none h n)]
    exact x.old b u hb h
  hand := by
    rw [upd_ne (Ne.symm pa)]
    exact x.hand
  up := x.up
  sub := fun b u h => by
    rw [upd_ne (ne_of_none h g)]
    exact x.sub _ _ h
  off := x.off
  new := x.new
/-- .. and is among the data at last -/
theorem Ext.ice {p : Addr} {o : HO} (x : Ext a H G H1 G1) (n : H p = none) (h1 : H1 p = some o) (g : G1 p = none) (pa : p ≠ a) : Ext a H G H1 (upd G1 p o) where
  old := x.old
  hand := x.hand
  up := fun b u h => by
    have e := x.up b u h
    rw [upd_ne (ne_of_none e g)]
    exact e
  sub := fun b u h => by
    by_cases hb : b = p
    · rw [hb, upd_same] at h
      rw [hb, h1]
      exact h
    · rw [upd_ne hb] at h
      exact x.sub _ _ h
  off := by
    rw [upd_ne (Ne.symm pa)]
    exact x.off
  new := fun b u h => by
    by_cases hb : b = p
    · right
      rw [hb]
      exact n
    · rw [upd_ne hb] at h
      exact x.new b u h
/-- what changes nothing that stands -/
theorem Ext.pure (x : Ext a H G H1 G1) (s : Same H1 H2) : Ext a H G H2 G1 where
  old := fun b u hb h => s _ _ (x.old b u hb h)
  hand := fun z => by
    cases e : H1 a with
    | none => exact x.hand e
    | some u => rw [s _ _ e] at z; cases z
  up := x.up
  sub := x.sub.trans s
  off := x.off
  new := x.new
theorem Ext.draw {l : List V} (x : Ext a H G H1 G1) : Ext a H G (upd H1 a (.lst l)) G1 where
  old := fun b u hb h => by
    rw [upd_ne hb]
    exact x.old b u hb h
  hand := by
    rw [upd_same]
    intro z
    cases z
  up := x.up
  sub := fun b u h => by
    rw [upd_ne (ne_of_none h x.off)]
    exact x.sub _ _ h
  off := x.off
  new := x.new
/-- what is not among the data and stands, stays so -/
theorem Ext.stays {D : Addr} {o : HO} (x : Ext a H G H1 G1) (hD : H D = some o) (gD : G D = none) (da : D ≠ a) : H1 D = some o ∧ G1 D = none := by
  refine ⟨x.old _ _ da hD, ?_⟩
  cases e : G1 D with
  | none => rfl
  | some u =>
    rcases x.new D u e with z | z
    · rw [gD] at z; cases z
    · rw [hD] at z; cases z
end
end My
set_option Elab.async false
set_option linter.all false
set_option maxRecDepth 100000
set_option maxHeartbeats 4000000
namespace My
open PySem PySem.Spec PyProof.Rows L2
section
variable {P : Program} {w : World} {K : PySem.W.Frag} {mg : Str → Option Value} {base : Heap}
/-! ### widths, stores -/
theorem sc_is_whole : FnScope ["thing", "low", "high"] ["thing", "low", "high"] (defScope (topS 8)) := ⟨rfl, rfl, rfl, by decide +kernel, rfl, by decide +kernel, by decide +kernel⟩
theorem ok_is_whole {f : Addr} {fd : FuncData} {dvs : List V} (F : FunD K "is_whole" "is_whole" (defArgs (topS 8)) (defBody (topS 8)) (defScope (topS 8)) dvs [] f fd) (m_isinstance : mg "isinstance" = none) (m_int : mg "int" = none) (m_bool : mg "bool" = none) : FnOk P w K mg base CX0 1 f fd ["thing", "low", "high"] (spWhole K) := by
  refine F.ok sc_is_whole (fun vs H Q E h => ?_) (fun cdv A outer s H vs Q E hr h => ?_)
  · obtain ⟨x, t, l, h, rfl, _⟩ := h
    rfl
  · obtain ⟨x, t, l, h, rfl, ty, k⟩ := h
    refine ⟨_, PSs.nox ((pss_cons (ps_if (PW.pt (pw_or (pt_not (pt_val (pe_callB call_isi (by rfl) m_isinstance (by decide +kernel) (pa_cons (pv 0) (pa_cons (pe_bltn (v := .ty "int") (by rfl) m_int (by decide +kernel) rfl) pa_nil))))) (pw_or1 (pt_val (pe_callB call_isi (by rfl) m_isinstance (by decide +kernel) (pa_cons (pv 0) (pa_cons (pe_bltn (v := .ty "bool") (by rfl) m_bool (by decide +kernel) rfl) pa_nil))))))) (pss_one (ps_ret pe_bl)) pss_nil)
      (pss_one (ps_ret (pe_and (pe_or (pe_cmpR op_isN (pv 1) pe_non (nomark _)) (pe_one (pe_cmpR op_ge (pv 0) (pv 1) (nomark _)))) (pe_one (pe_or (pe_cmpR op_isN (pv 2) pe_non (nomark _)) (pe_one (pe_cmpR op_le (pv 0) (pv 2) (nomark _)))))))))), ?_⟩
    refine ⟨_, rfl, x, .ty "int", _, _, _, rfl, .ty _, .base ty, kit_int ty, _, rfl, ?_⟩
    have kb := kit_bool ty
    cases ty with
    | int i =>
      refine iteF ⟨_, rfl, _, .ty "bool", _, _, _, rfl, .ty _, .base (.int i), kb, _, rfl, iteF ?_⟩
      have e : wholeV (.int i) l h = (loOk i l && hiOk i h) := rfl
      rw [e] at k
      have last : (hiOk i h = true → Q (.bl true) H) → (hiOk i h = false → Q (.bl false) H) → tOrV (tOp (fun x y H Q => y = .non ∧ Q (.bl (decide (x = .non))) H) (tVar 2) (tC .non)) (tOp (rI0 fun i j => .bl (decide (i ≤ j))) (tVar 0) (tVar 2)) (start ["thing", "low", "high"] [.int i, optV l, optV h]) H Q := fun k1 k2 => by
        cases h with
        | none => exact ⟨_, rfl, rfl, _, rfl, k1 rfl⟩
        | some z =>
          refine ⟨_, rfl, rfl, _, rfl, ⟨_, rfl, _, rfl, _, _, rfl, rfl, ?_⟩⟩
          by_cases hz : i ≤ z
          · show Q (.bl (decide (i ≤ z))) H
            rw [decide_eq_true hz]
            exact k1 (decide_eq_true hz)
          · show Q (.bl (decide (i ≤ z))) H
            rw [decide_eq_false hz]
            exact k2 (decide_eq_false hz)
      cases l with
      | none =>
        refine ⟨_, rfl, rfl, _, rfl, _, rfl, last (fun z => ?_) (fun z => ?_)⟩ <;> (rw [z] at k; exact k)
      | some z =>
        refine ⟨_, rfl, rfl, _, rfl, ⟨_, rfl, _, rfl, _, _, rfl, rfl, _, rfl, ite2 (fun q => ?_) (fun q => ?_)⟩⟩
        · have hz : z ≤ i := of_decide_eq_true q
          rw [show loOk i (some z) = true from decide_eq_true hz, Bool.true_and] at k
          exact last (fun q => by rw [q] at k; exact k) (fun q => by rw [q] at k; exact k)
        · have hz : ¬ z ≤ i := fun y => q (decide_eq_true y)
          rw [show loOk i (some z) = false from decide_eq_false hz, Bool.false_and] at k
          exact k
    | bl b => exact iteF ⟨_, rfl, _, .ty "bool", _, _, _, rfl, .ty _, .base (.bl b), kb, _, rfl, iteT k⟩
    | _ => exact iteT k
end
end My
set_option Elab.async false
set_option linter.all false
set_option maxRecDepth 100000
set_option maxHeartbeats 4000000
namespace My
open PySem PySem.Spec PyProof.Rows L2
section
variable {P : Program} {w : World} {K : PySem.W.Frag} {mg : Str → Option Value} {base : Heap}
theorem sc_is_sequence : FnScope ["thing"] ["thing"] (defScope (topS 9)) := ⟨rfl, rfl, rfl, by decide +kernel, rfl, by decide +kernel, by decide +kernel⟩
theorem ok_is_sequence {f : Addr} {fd : FuncData} (F : Fun K "is_sequence" "is_sequence" (topS 9) f fd) (m_isinstance : mg "isinstance" = none) (m_list : mg "list" = none) (m_tuple : mg "tuple" = none) : FnOk P w K mg base CX0 1 f fd ["thing"] (spSeq K) := by
  refine F.ok sc_is_sequence (fun vs H Q E h => ?_) (fun cdv A outer s H vs Q E hr h => ?_)
  · obtain ⟨x, t, rfl, _⟩ := h
    rfl
  · obtain ⟨x, t, rfl, ty, k⟩ := h
    refine ⟨_, (pss_one (ps_ret (pe_callB call_isiT (by rfl) m_isinstance (by decide +kernel) (pa_cons (pv 0) (pa_cons (pe_tup (pa_cons (pe_bltn (v := .ty "list") (by rfl) m_list (by decide +kernel) rfl) (pa_cons (pe_bltn (v := .ty "tuple") (by rfl) m_tuple (by decide +kernel) rfl) pa_nil))) pa_nil))))), ?_⟩
    refine ⟨_, rfl, (by show 2 ≤ sizeLine; decide), fun p np => ⟨x, p, _, _, _, _, rfl, upd_same, .cons (.ty "list") (.cons (.ty "tuple") .nil), .base (TyOf.keep ty (same_upd np)), kit_seq ty, k _ (same_upd np)⟩⟩
theorem sc_is_value : FnScope ["thing"] ["thing"] (defScope (topS 15)) := ⟨rfl, rfl, rfl, by decide +kernel, rfl, by decide +kernel, by decide +kernel⟩
theorem ok_is_value {f : Addr} {fd : FuncData} (F : Fun K "is_value" "is_value" (topS 15) f fd) (cw : Cal P w K mg base 1 "is_whole" (spWhole K)) (gv : ∃ u, mg "GREATEST_VALUE" = some u ∧ RelV (.int 1000000000) u) : FnOk P w K mg base CX0 2 f fd ["thing"] (spValue K) := by
  refine F.ok sc_is_value (fun vs H Q E h => ?_) (fun cdv A outer s H vs Q E hr h => ?_)
  · obtain ⟨x, t, rfl, _⟩ := h
    rfl
  · obtain ⟨x, t, rfl, ty, k⟩ := h
    refine ⟨_, (pss_one (ps_ret (pe_c (cw) hr (by decide) rfl (pa_cons (pv 0) (pa_cons pe_int (pa_cons (C8.pe_gc rfl gv) pa_nil)))))), ?_⟩
    exact ⟨_, rfl, x, t, some 0, some 1000000000, rfl, ty, k⟩
end
end My
set_option Elab.async false
set_option linter.all false
set_option maxRecDepth 100000
set_option maxHeartbeats 4000000
namespace My
open PySem PySem.Spec PyProof.Rows L2
/-- __init__ of an error whose fields are kept as they come -/
def spErrF (K : PySem.W.Frag) (C : Addr) (fs : List Str) : Sp := fun vs H Q _ => ∃ (a : Addr) (xs : List V), vs = .ref a :: xs ∧ xs.length = fs.length ∧ H a = some (exo a C none) ∧
  ∀ (dx : Addr) (H' : Hp), H dx = none → dx ≠ a → (∀ b o, H b = some o → b ≠ a → H' b = some o) → H' a = some (exo a C (some dx)) → H' dx = some (exd dx (fs.zip xs).reverse) → Q .non H'
def spDE (K : PySem.W.Frag) : Sp := fun vs H Q _ => ∃ (a C : Addr) (x : V), vs = [.ref a, x] ∧ OexC K C ∧ H a = some (exo a C none) ∧ Q .non H
/-- an error of the program's own, its name x, with these fields -/
structure ErrF (P : Program) (w : World) (K : PySem.W.Frag) (mg : Str → Option Value) (base : Heap) (x : Str) (C : Addr) (fs : List Str) : Prop where
  t : ExT K C
  xf : XfC K C
  nf : ∀ f ∈ fs, PySem.W.findIn K (.ref C) f = some none
  gx : mg x = some (.ref C)
  ex : ∃ (fI : Addr) (fd : FuncData) (ps : List Str), FnOk P w K mg base CX0 2 fI fd ps (spErrF K C fs) ∧ PySem.W.findIn K (.ref C) "__init__" = some (some (.ref fI)) ∧ PySem.W.typeIn K (.ref fI) = some (.type "function") ∧ Binds K fd ps []
/-- what a raise of it asks: the fields' values; what it gives: the class, its dict -/
def rErrF (C : Addr) (fs : List Str) (vs : List V) (H1 : Hp) (Q : XK) : Prop := vs.length = fs.length ∧ vs.length ≤ 1000 ∧
  ∀ (dd : Addr) (H' : Hp), Same H1 H' → H1 dd = none → H' dd = some (.xd (fs.zip vs).reverse) → Q (.ref C) (some dd) H'
theorem pmk_errF {X : Cx} {x : Str} {C : Addr} {fs : List Str} {e : Expr} {es : List Expr} {ta : TA} {j : Nat} {p pos : Pos} (R : ErrF X.prog X.w X.K X.mg X.base x C fs) (hr : Room j X.A) (hj : 3 ≤ j) (hg : Gl X x) (ha : PA X (e :: es) ta)
    (h0 : (x == ("__debug__" : Str)) = false := by decide) (h1 : starEach (e :: es) X.env = (false, eval e X.env) :: starEach es X.env := by rfl) (h2 : (backTo pos (starEach es X.env)).any (·.1) = false := by rfl) :
    L2N.PMk X (.Call (.Name x p) (e :: es) [] pos) (fun σ H Q => ta σ H fun vs H1 => rErrF C fs vs H1 Q) := by
  obtain ⟨fI, fd, ps, F, iC, tI, b⟩ := R.ex
  refine pmk_oexN (fun vs H1 Q h => ?_) R.t.o iC tI F (hr.mono hj) b pass0 hg R.gx ha h0 h1 h2
  obtain ⟨hl, few, q⟩ := h
  refine ⟨few, fun a na => ⟨a, vs, rfl, hl, upd_same, fun dx H' nd nda kp ea ed => ?_⟩⟩
  have nd1 : H1 dx = none := by
    rw [upd_ne nda] at nd
    exact nd
  refine ⟨rfl, dx, _, ea, ed, nd1, q dx _ (fun b o e => ?_) nd1 upd_same⟩
  have nb : b ≠ a := ne_of_none e na
  rw [upd_ne (ne_of_none e nd1), del_ne nb]
  exact kp b o (by rw [upd_ne nb]; exact e) nb
section
variable {P : Program} {w : World} {K : PySem.W.Frag} {mg : Str → Option Value} {base : Heap}
structure DEf (P : Program) (w : World) (K : PySem.W.Frag) (mg : Str → Option Value) (base : Heap) : Prop where
  ex : ∃ (D f : Addr) (fd : FuncData) (ps : List Str) (mc : Value), ClX.CRead K D mc ∧ PySem.W.findCls K (.ref D) mc "__init__" = some (.val (.ref f)) ∧ FnOk P w K mg base CX0 1 f fd ps (spDE K) ∧ PySem.W.keepIn K (.ref f) = true ∧ Binds K fd ps [] ∧ mg "DealError" = some (.ref D)
theorem scDE : FnScope ["self", "message"] ["self", "message"] (defScope (inClass (topS 1) 0)) := ⟨rfl, rfl, rfl, by decide +kernel, rfl, by decide +kernel, by decide +kernel⟩
theorem ok_DE {f : Addr} {fd : FuncData} {dvs : List V} (F : FunD K "__init__" "DealError.__init__" (defArgs (inClass (topS 1) 0)) (defBody (inClass (topS 1) 0)) (defScope (inClass (topS 1) 0)) dvs [] f fd) (mV : mg "ValueError" = none) (vV : PySem.W.findCls K (.type "ValueError") (.type "type") "__init__" = some (.val (.builtin "ValueError.__init__"))) : FnOk P w K mg base CX0 1 f fd ["self", "message"] (spDE K) := by
  refine F.ok scDE (fun vs H Q E h => ?_) (fun cdv A outer s H vs Q E hr h => ?_)
  · obtain ⟨a, C, x, rfl, _⟩ := h
    rfl
  · obtain ⟨a, C, x, rfl, T, ha, k⟩ := h
    refine ⟨_, PSs.nox (pss_one (ps_expr (pe_veinit (by rfl) mV vV (pa_cons (pv 0) (pa_cons (pv 1) pa_nil))))), ?_⟩
    exact ⟨_, rfl, _, rfl, a, C, _, rfl, (by show 1 ≤ 1000; decide), T, ha, k⟩
theorem sc_BadWidths : FnScope ["self", "index"] ["self", "index"] (defScope (inClass (topS 2) 0)) := ⟨rfl, rfl, rfl, by decide +kernel, rfl, by decide +kernel, by decide +kernel⟩
theorem ok_BadWidths {f C : Addr} {fd : FuncData} (F : Fun K "__init__" "BadWidths.__init__" (inClass (topS 2) 0) f fd) (D : DEf P w K mg base) (T : ExT K C) (nf : ∀ f ∈ (["index"] : List Str), PySem.W.findIn K (.ref C) f = some none) : FnOk P w K mg base CX0 2 f fd ["self", "index"] (spErrF K C ["index"]) := by
  obtain ⟨D, fD, fdD, psD, mc, rd, fc, FD, kpD, bD, gD⟩ := D.ex
  refine F.ok sc_BadWidths (fun vs H Q E h => ?_) (fun cdv A outer s H vs Q E hr h => ?_)
  · obtain ⟨a, xs, rfl, hl, _⟩ := h
    rw [List.length_cons, hl]
    rfl
  · obtain ⟨a, xs, rfl, hl, ha, q⟩ := h
    match xs, hl with
    | [x], _ =>
    refine ⟨_, pss_cons (ps_expr (pe_clsfn rd fc FD hr (by decide) kpD bD (by rfl) gD (pa_cons (pv 0) (pa_cons pe_str pa_nil)))) (pss_one (ps_ost (pv 0) (pv 1))), ?_⟩
    refine ⟨_, rfl, a, C, _, rfl, T.o, ha, ?_⟩
    refine ⟨_, rfl, _, rfl, a, C, rfl, T.o, nf _ (by simp), .inl ⟨ha, fun dx nd ne => ?_⟩⟩
    exact q dx _ nd ne (fun b o e hb => by rw [upd_ne hb, upd_ne (ne_of_none e nd)]; exact e) upd_same (by rw [upd_ne ne, upd_same]; rfl)
theorem sc_BadRow : FnScope ["self", "what"] ["self", "what"] (defScope (inClass (topS 3) 0)) := ⟨rfl, rfl, rfl, by decide +kernel, rfl, by decide +kernel, by decide +kernel⟩
theorem ok_BadRow {f C : Addr} {fd : FuncData} (F : Fun K "__init__" "BadRow.__init__" (inClass (topS 3) 0) f fd) (D : DEf P w K mg base) (T : ExT K C) (nf : ∀ f ∈ (["what"] : List Str), PySem.W.findIn K (.ref C) f = some none) : FnOk P w K mg base CX0 2 f fd ["self", "what"] (spErrF K C ["what"]) := by
  obtain ⟨D, fD, fdD, psD, mc, rd, fc, FD, kpD, bD, gD⟩ := D.ex
  refine F.ok sc_BadRow (fun vs H Q E h => ?_) (fun cdv A outer s H vs Q E hr h => ?_)
  · obtain ⟨a, xs, rfl, hl, _⟩ := h
    rw [List.length_cons, hl]
    rfl
  · obtain ⟨a, xs, rfl, hl, ha, q⟩ := h
    match xs, hl with
    | [x], _ =>
    refine ⟨_, pss_cons (ps_expr (pe_clsfn rd fc FD hr (by decide) kpD bD (by rfl) gD (pa_cons (pv 0) (pa_cons pe_str pa_nil)))) (pss_one (ps_ost (pv 0) (pv 1))), ?_⟩
    refine ⟨_, rfl, a, C, _, rfl, T.o, ha, ?_⟩
    refine ⟨_, rfl, _, rfl, a, C, rfl, T.o, nf _ (by simp), .inl ⟨ha, fun dx nd ne => ?_⟩⟩
    exact q dx _ nd ne (fun b o e hb => by rw [upd_ne hb, upd_ne (ne_of_none e nd)]; exact e) upd_same (by rw [upd_ne ne, upd_same]; rfl)
theorem sc_BadStore : FnScope ["self", "index", "what"] ["self", "index", "what"] (defScope (inClass (topS 4) 0)) := ⟨rfl, rfl, rfl, by decide +kernel, rfl, by decide +kernel, by decide +kernel⟩
theorem ok_BadStore {f C : Addr} {fd : FuncData} (F : Fun K "__init__" "BadStore.__init__" (inClass (topS 4) 0) f fd) (D : DEf P w K mg base) (T : ExT K C) (nf : ∀ f ∈ (["index", "what"] : List Str), PySem.W.findIn K (.ref C) f = some none) : FnOk P w K mg base CX0 2 f fd ["self", "index", "what"] (spErrF K C ["index", "what"]) := by
  obtain ⟨D, fD, fdD, psD, mc, rd, fc, FD, kpD, bD, gD⟩ := D.ex
  refine F.ok sc_BadStore (fun vs H Q E h => ?_) (fun cdv A outer s H vs Q E hr h => ?_)
  · obtain ⟨a, xs, rfl, hl, _⟩ := h
    rw [List.length_cons, hl]
    rfl
  · obtain ⟨a, xs, rfl, hl, ha, q⟩ := h
    match xs, hl with
    | [x, y], _ =>
    refine ⟨_, pss_cons (ps_expr (pe_clsfn rd fc FD hr (by decide) kpD bD (by rfl) gD (pa_cons (pv 0) (pa_cons pe_str pa_nil)))) (pss_cons (ps_ost (pv 0) (pv 1)) (pss_one (ps_ost (pv 0) (pv 2)))), ?_⟩
    refine ⟨_, rfl, a, C, _, rfl, T.o, ha, ?_⟩
    refine ⟨_, rfl, _, rfl, a, C, rfl, T.o, nf _ (by simp), .inl ⟨ha, fun dx nd ne => ?_⟩⟩
    refine ⟨_, rfl, _, rfl, a, C, rfl, T.o, nf _ (by simp), .inr ⟨dx, _, upd_same, by rw [upd_ne ne, upd_same], (by show 1 ≤ 900; decide), ?_⟩⟩
    exact q dx _ nd ne (fun b o e hb => by rw [upd_ne (ne_of_none e nd), upd_ne hb, upd_ne (ne_of_none e nd)]; exact e) (by rw [upd_ne (Ne.symm ne)]; exact upd_same) upd_same
end
end My
set_option Elab.async false
set_option linter.all false
set_option maxRecDepth 100000
set_option maxHeartbeats 4000000
namespace My
open PySem PySem.Spec PyProof.Rows L2

/-- a def that may be called by its name and may raise -/
structure CalX (P : Program) (w : World) (K : PySem.W.Frag) (mg : Str → Option Value) (base : Heap) (k : Nat) (x : Str) (sp : Sp) : Prop where
  ex : ∃ (f : Addr) (fd : FuncData) (ps : List Str), FnOk P w K mg base (L2N.CX P w) k f fd ps sp ∧ mg x = some (.ref f) ∧ PySem.W.keepIn K (.ref f) = true ∧ Binds K fd ps []
theorem pe_cX {X : Cx} {k j : Nat} {x : Str} {sp : Sp} {W : WX} {p pos : Pos} {e : Expr} {es : List Expr} {t : TA} (c : CalX X.prog X.w X.K X.mg X.base k x sp) (tk : L2N.Takes X W) (hr : Room j X.A) (hk : k ≤ j) (hg : Gl X x) (ha : PA X (e :: es) t)
    (d1 : (x == ("__debug__" : Str)) = false := by decide) (d2 : starEach (e :: es) X.env = (false, eval e X.env) :: starEach es X.env := by rfl) (d3 : (backTo pos (starEach es X.env)).any (·.1) = false := by rfl) :
    PE X (.Call (.Name x p) (e :: es) [] pos) (tCallSD sp [] (WE W) t) := by
  obtain ⟨f, fd, ps, F, gx, kp, b⟩ := c.ex
  exact pe_callSD F (hr.mono hk) hg gx kp b .nil (fun σ => L2N.passAt tk σ) ha d1 d2 d3
/-! an item of a list or of a tuple -/
def rIxV (K : PySem.W.Frag) : R2 := fun x y H Q => rIxL K x y H Q ∨ rIxT K x y H Q
theorem ix_seq {X : Cx} : IxR X (rIxV X.K) := IxR.or ix_list ix_tup
theorem rd_ix {K : PySem.W.Frag} {H : Hp} {Q : VK} {p : Addr} {xs : List V} {i : Int} {v : V} (h : SqV K H p xs) (e : atI xs i = some v) (q : Q v H) : rIxV K (.ref p) (.int i) H Q :=
  h.elim (fun h => .inl ⟨p, xs, i, v, rfl, rfl, h, e, q⟩) fun h => .inr ⟨p, xs, i, v, rfl, rfl, h, e, q⟩
def optS : Option Str → V
  | none => .non
  | some s => .str s
/-! what the program finds in a thing -/
def lenIn (l h : Int) (d : PyData) : Bool := match seqOf d with
  | some ds => decide (l ≤ (ds.length : Int)) && decide ((ds.length : Int) ≤ h)
  | none => false
def itemsD (d : PyData) : List PyData := (seqOf d).getD []
def itemD (d : PyData) (i : Nat) : PyData := (itemsD d).getD i .none
def tabD : PyData → Int
  | .int i => i
  | _ => 0
def placeD (ws : List Int) (d : PyData) : Option Str :=
  if !(lenIn 2 2 d && (intD (itemD d 0) && (seqOf (itemD d 1)).isSome)) then some ("row" : Str)
  else if !wholeD 0 ((ws.length : Int) - 1) (itemD d 0) then some ("table" : Str)
  else if ((itemsD (itemD d 1)).length : Int) ≠ ws.getD (tabD (itemD d 0)).toNat 0 then some ("width" : Str) else none
theorem itemsD_some {d : PyData} {ds : List PyData} (e : seqOf d = some ds) : itemsD d = ds := by
  unfold itemsD
  rw [e]
  rfl
theorem Dq.item {H : Hp} {x : V} {d : PyData} {ds : List PyData} {i : Nat} (h : Dq H x d) (e : seqOf d = some ds) (hi : i < ds.length) : ∃ a xs y, x = .ref a ∧ (H a = some (.lst xs) ∨ H a = some (.tup xs)) ∧ xs.length = ds.length ∧ atI xs (i : Int) = some y ∧ Dq H y (itemD d i) := by
  obtain ⟨a, xs, rfl, hs, hall⟩ := h.seq e
  obtain ⟨y, ey, hy⟩ := hall.getD (List.getElem?_eq_getElem hi)
  refine ⟨a, xs, y, rfl, hs, hall.len, atI_nat ey, ?_⟩
  unfold itemD
  rw [itemsD_some e, List.getD_eq_getElem?_getD, List.getElem?_eq_getElem hi]
  exact hy
def spSeqOf (K : PySem.W.Frag) : Sp := fun vs H Q _ => ∃ (x : V) (d : PyData) (l g : Int), vs = [x, .int l, .int g] ∧ Dq H x d ∧ ∀ H', Same H H' → Q (.bl (lenIn l g d)) H'
def spCouple (K : PySem.W.Frag) : Sp := fun vs H Q _ => ∃ (x : V) (d : PyData), vs = [x] ∧ Dq H x d ∧ ∀ H', Same H H' → Q (.bl (lenIn 2 2 d)) H'
def spPlaceF (K : PySem.W.Frag) : Sp := fun vs H Q _ => ∃ (p : Addr) (ws : List Int) (x : V) (d : PyData), vs = [.ref p, x] ∧ SqT K H p (ws.map V.int) ∧ Dq H x d ∧ ∀ H', Same H H' → Q (optS (placeD ws d)) H'
section
variable {P : Program} {w : World} {K : PySem.W.Frag} {mg : Str → Option Value} {base : Heap}
theorem sc_is_sequence_of : FnScope ["thing", "low", "high"] ["thing", "low", "high"] (defScope (topS 10)) := ⟨rfl, rfl, rfl, by decide +kernel, rfl, by decide +kernel, by decide +kernel⟩
theorem ok_is_sequence_of {f : Addr} {fd : FuncData} (F : L2.Fun K "is_sequence_of" "is_sequence_of" (topS 10) f fd) (cq : Cal P w K mg base 1 "is_sequence" (spSeq K)) (m_len : mg "len" = none) : FnOk P w K mg base CX0 2 f fd ["thing", "low", "high"] (spSeqOf K) := by
  refine F.ok sc_is_sequence_of (fun vs H Q E h => ?_) (fun cdv A outer s0 H vs Q E hr h => ?_)
  · obtain ⟨x, d, l, g, rfl, _⟩ := h
    rfl
  · obtain ⟨x, d, l, g, rfl, hd, q⟩ := h
    refine ⟨_, (pss_one (ps_ret (pe_and (pe_c cq hr (by decide) rfl (pa_cons (pv 0) pa_nil)) (pe_one (pe_chain op_le op_le (pv 1) (pe_callB call_len_seq (by rfl) m_len PySem.boot_len (pa_cons (pv 0) pa_nil)) (pv 2)))))), ?_⟩
    refine ⟨_, rfl, x, _, rfl, hd.ty, fun H1 s1 => ?_⟩
    rw [seqT_d]
    cases e : seqOf d with
    | none =>
      refine ⟨false, rfl, iteF ?_⟩
      have z : lenIn l g d = false := by unfold lenIn; rw [e]
      rw [z] at q
      exact q H1 s1
    | some ds =>
      refine ⟨true, rfl, iteT ?_⟩
      obtain ⟨a, xs, rfl, hs, hall⟩ := (hd.keep s1).seq e
      have hl := hall.len
      have z : lenIn l g d = (decide (l ≤ (ds.length : Int)) && decide ((ds.length : Int) ≤ g)) := by unfold lenIn; rw [e]
      rw [z] at q
      refine ⟨_, rfl, _, rfl, a, xs, rfl, sqv_of hs, _, _, rfl, rfl, _, rfl, ?_⟩
      rw [hl]
      by_cases h1 : l ≤ (ds.length : Int)
      · rw [decide_eq_true h1] at q ⊢
        refine iteT ⟨_, rfl, _, _, rfl, rfl, ?_⟩
        rw [Bool.true_and] at q
        exact q H1 s1
      · rw [decide_eq_false h1] at q ⊢
        exact iteF (q H1 s1)
theorem sc_is_couple : FnScope ["thing"] ["thing"] (defScope (topS 16)) := ⟨rfl, rfl, rfl, by decide +kernel, rfl, by decide +kernel, by decide +kernel⟩
theorem ok_is_couple {f : Addr} {fd : FuncData} (F : L2.Fun K "is_couple" "is_couple" (topS 16) f fd) (cs : Cal P w K mg base 2 "is_sequence_of" (spSeqOf K)) : FnOk P w K mg base CX0 3 f fd ["thing"] (spCouple K) := by
  refine F.ok sc_is_couple (fun vs H Q E h => ?_) (fun cdv A outer s0 H vs Q E hr h => ?_)
  · obtain ⟨x, d, rfl, _⟩ := h
    rfl
  · obtain ⟨x, d, rfl, hd, q⟩ := h
    refine ⟨_, (pss_one (ps_ret (pe_c cs hr (by decide) rfl (pa_cons (pv 0) (pa_cons pe_int (pa_cons pe_int pa_nil)))))), ?_⟩
    exact ⟨_, rfl, x, d, 2, 2, rfl, hd, q⟩
theorem sc_fault_of_place : FnScope ["widths", "thing"] ["widths", "thing"] (defScope (topS 17)) := ⟨rfl, rfl, rfl, by decide +kernel, rfl, by decide +kernel, by decide +kernel⟩
theorem ok_fault_of_place {f : Addr} {fd : FuncData} (F : L2.Fun K "fault_of_place" "fault_of_place" (topS 17) f fd) (cc : Cal P w K mg base 3 "is_couple" (spCouple K)) (cq : Cal P w K mg base 1 "is_sequence" (spSeq K)) (cw : Cal P w K mg base 1 "is_whole" (spWhole K)) (cw1 : C8.Cal P w K mg base 1 "is_whole" (spWhole K) [.non, .non]) (m_len : mg "len" = none) : FnOk P w K mg base CX0 4 f fd ["widths", "thing"] (spPlaceF K) := by
  refine F.ok sc_fault_of_place (fun vs H Q E h => ?_) (fun cdv A outer s0 H vs Q E hr h => ?_)
  · obtain ⟨p, ws, x, d, rfl, _⟩ := h
    rfl
  · obtain ⟨p, ws, x, d, rfl, hp, hd, q⟩ := h
    refine ⟨_, (pss_cons (ps_if (PW.pt (pw_or (pt_not (pt_val (pe_c cc hr (by decide) rfl (pa_cons (pv 1) pa_nil)))) (pw_or (pt_not (pt_val (C8.pe_c cw1 hr (by decide) rfl (pa_cons (pe_ix ix_seq (pv 1) pe_int (fun _ _ => rfl)) pa_nil)))) (pw_or1 (pt_not (pt_val (pe_c cq hr (by decide) rfl (pa_cons (pe_ix ix_seq (pv 1) pe_int (fun _ _ => rfl)) pa_nil)))))))) (pss_one (ps_ret pe_str)) pss_nil)
      (pss_cons (ps_if (pt_not (pt_val (pe_c cw hr (by decide) rfl (pa_cons (pe_ix ix_seq (pv 1) pe_int (fun _ _ => rfl)) (pa_cons pe_int (pa_cons (pe_op op_sub (pe_callB call_len_seq (by rfl) m_len PySem.boot_len (pa_cons (pv 0) pa_nil)) pe_int) pa_nil)))))) (pss_one (ps_ret pe_str)) pss_nil)
      (pss_cons (ps_if (pt_cmpR op_ne (pe_callB call_len_seq (by rfl) m_len PySem.boot_len (pa_cons (pe_ix ix_seq (pv 1) pe_int (fun _ _ => rfl)) pa_nil)) (pe_ix ix_tup (pv 0) (pe_ix ix_seq (pv 1) pe_int (fun _ _ => rfl)) (fun _ _ => rfl)) (nomark _)) (pss_one (ps_ret pe_str)) pss_nil)
      (pss_one (ps_ret pe_non))))), ?_⟩
    have row : (lenIn 2 2 d && (intD (itemD d 0) && (seqOf (itemD d 1)).isSome)) = false → placeD ws d = some ("row" : Str) := fun z => by
      unfold placeD
      rw [z]
      rfl
    refine ⟨_, rfl, x, d, rfl, hd, fun H1 s1 => ⟨_, rfl, ?_⟩⟩
    cases hc : lenIn 2 2 d with
    | false =>
      rw [hc] at row
      rw [row rfl] at q
      exact iteT (iteT (q H1 s1))
    | true =>
      rw [hc, Bool.true_and] at row
      refine iteF ?_
      obtain ⟨ds, e, l2⟩ : ∃ ds, seqOf d = some ds ∧ ds.length = 2 := by
        unfold lenIn at hc
        cases e : seqOf d with
        | none => rw [e] at hc; cases hc
        | some ds =>
          rw [e] at hc
          have z := Bool.and_eq_true_iff.mp hc
          have z1 := of_decide_eq_true z.1
          have z2 := of_decide_eq_true z.2
          exact ⟨ds, rfl, by omega⟩
      obtain ⟨a, xs, t, rfl, hs, hl, et, ht⟩ := (hd.keep s1).item (i := 0) e (by omega)
      refine ⟨_, rfl, rd_ix (sqv_of hs) et ⟨t, _, none, none, rfl, ht.ty, _, rfl, ?_⟩⟩
      rw [ht.whole]
      cases hi : intD (itemD d 0) with
      | false =>
        rw [hi] at row
        rw [row rfl] at q
        exact iteT (iteT (q H1 s1))
      | true =>
        rw [hi, Bool.true_and] at row
        refine iteF ?_
        obtain ⟨a', xs', r, ea, hs', hl', er, hr'⟩ := (hd.keep s1).item (i := 1) e (by omega)
        cases ea
        refine ⟨_, rfl, rd_ix (sqv_of hs') er ⟨r, _, rfl, hr'.ty, fun H2 s2 => ⟨_, rfl, ?_⟩⟩⟩
        rw [seqT_d]
        cases hq : (seqOf (itemD d 1)).isSome with
        | false =>
          rw [hq] at row
          rw [row rfl] at q
          exact iteT (q H2 (s1.trans s2))
        | true =>
          refine iteF ?_
          have s12 := s1.trans s2
          obtain ⟨b, ys, t2, eb, hb, _, et2, ht2⟩ := (hd.keep s12).item (i := 0) e (by omega)
          cases eb
          have lw : (ws.map V.int).length = ws.length := List.length_map ..
          refine ⟨_, rfl, rd_ix (sqv_of hb) et2 ?_⟩
          refine ⟨_, rfl, p, _, rfl, .inr (seqT_keep hp s12), _, _, rfl, rfl, ?_⟩
          rw [lw]
          refine ⟨t2, _, some 0, some ((ws.length : Int) - 1), rfl, ht2.ty, _, rfl, ?_⟩
          rw [ht2.wholeB]
          have tab : wholeD 0 ((ws.length : Int) - 1) (itemD d 0) = false → placeD ws d = some ("table" : Str) := fun z => by
            unfold placeD
            rw [hc, hi, hq, z]
            rfl
          cases hw : wholeD 0 ((ws.length : Int) - 1) (itemD d 0) with
          | false =>
            rw [tab hw] at q
            exact iteT (q H2 s12)
          | true =>
            refine iteF ?_
            obtain ⟨i, ei, i0, i1⟩ : ∃ i : Int, itemD d 0 = .int i ∧ 0 ≤ i ∧ i ≤ (ws.length : Int) - 1 := by
              cases ed : itemD d 0 with
              | int i =>
                rw [ed] at hw
                have z := Bool.and_eq_true_iff.mp hw
                exact ⟨i, rfl, of_decide_eq_true z.1, of_decide_eq_true z.2⟩
              | _ => rw [ed] at hw; cases hw
            obtain ⟨rs, ers⟩ := Option.isSome_iff_exists.mp hq
            obtain ⟨b2, ys2, r2, eb2, hb2, _, er2, hr2⟩ := (hd.keep s12).item (i := 1) e (by omega)
            cases eb2
            obtain ⟨c, zs, rfl, hc2, hall⟩ := hr2.seq ers
            refine ⟨_, rfl, rd_ix (sqv_of hb2) er2 ⟨c, zs, rfl, sqv_of hc2, ?_⟩⟩
            rw [ei] at ht2
            cases ht2
            have iN : i.toNat < ws.length := by omega
            have ew : atI (ws.map V.int) i = some (.int (ws.getD i.toNat 0)) := by
              have z := atI_nat (xs := ws.map V.int) (j := i.toNat) (v := .int (ws.getD i.toNat 0)) (by rw [List.getElem?_map, List.getD_eq_getElem?_getD, List.getElem?_eq_getElem iN]; rfl)
              rw [← z]
              congr 1
              omega
            refine ⟨_, rfl, _, rfl, rd_ix (sqv_of hb) et2 ⟨p, _, i, _, rfl, rfl, seqT_keep hp s12, ew, ?_⟩⟩
            rw [hall.len]
            have fin : placeD ws d = if (rs.length : Int) ≠ ws.getD i.toNat 0 then some ("width" : Str) else none := by
              unfold placeD
              rw [hc, hi, hq, hw, ei, itemsD_some ers]
              rfl
            rw [fin] at q
            refine ⟨rfl, _, rfl, ?_⟩
            by_cases same : (rs.length : Int) = ws.getD i.toNat 0
            · rw [if_neg (fun z => z same)] at q
              rw [same]
              refine iteNS (by first | exact decide_eq_true rfl | simp) ?_
              exact q H2 s12
            · rw [if_pos same] at q
              have ne : ((!decide (V.int (rs.length : Int) = V.int (ws.getD i.toNat 0))) = true) := by
                rw [decide_eq_false (fun z => same (V.int.inj z))]
                rfl
              first | exact (if_pos ne).mpr (q H2 s12) | (rw [if_pos ne]; exact q H2 s12)
end
end My
set_option Elab.async false
set_option linter.all false
set_option maxRecDepth 100000
set_option maxHeartbeats 4000000
namespace My
open PySem PySem.Spec PyProof.Rows L2
/-- [g(x) for x in xs], new things may be made meanwhile -/
theorem lcS {j : Nat} {vs : List Nat} {σ : L2.St} {H : Hp} {Q : VK} {wi : TI} {te : TE} (xs : List V) (g : Nat → V) (few : xs.length ≤ 1000)
    (hwi : ∀ R : It → Hp → Prop, (∀ (J : It) (G : Hp → Prop), Walk J xs.length G (YAt xs) → (∀ H', Same H H' → G H') → R J H) → wi σ H R)
    (hw : ∀ x, wipe ((wipe σ vs).set j (some x)) vs = wipe σ vs)
    (he : ∀ (i : Nat) (x : V) (H' : Hp) (R : VK), xs[i]? = some x → Same H H' → (∀ H'', Same H' H'' → R (g i) H'') → te ((wipe σ vs).set j (some x)) H' R)
    (hq : ∀ (D : Addr) (H' : Hp), Same H H' → H D = none → H' D = some (.lst ((List.range xs.length).map g)) → Q (.ref D) H') : tLc wi (gName j) tYes te vs σ H Q := by
  refine hwi _ fun J G w hG => fun D nD => ?_
  let Pv : Nat → Hp → Prop := fun i H' => Same H H' ∧ H' D = some (.lst ((List.range i).map g))
  refine ⟨fun i m H' => m = xs.length - i ∧ i ≤ xs.length ∧ Pv i H', ⟨xs.length, rfl, Nat.zero_le _, same_upd nD, upd_same⟩, ?_⟩
  rintro i m H' ⟨rfl, hi, s1, hD⟩
  by_cases lt : i < xs.length
  · refine .inr ⟨w.goes i H' lt (hG _ s1), Pv (i + 1), fun H2 p => ⟨xs.length - (i + 1), by omega, rfl, lt, p⟩, ?_⟩
    intro x H2 y
    obtain ⟨rfl, ex⟩ := w.yields i H' x H2 lt (hG _ s1) y
    refine ⟨hw _, ?_⟩
    dsimp only [tYes]
    refine iteT (he i x H2 _ ex s1 fun H3 s3 => ⟨_, s3 _ _ hD, ?_, ?_, ?_⟩)
    · rw [List.length_map, List.length_range]
      exact small1000 (by omega)
    · intro b o e
      rw [upd_ne (ne_of_none e nD)]
      exact s3 _ _ (s1 _ _ e)
    · rw [upd_same, List.range_succ, List.map_append]
      rfl
  · have e : i = xs.length := by omega
    subst e
    exact .inl ⟨w.stops H' (hG _ s1), hq D H' s1 nD hD⟩

theorem wi_seq {K : PySem.W.Frag} {te : TE} {σ : L2.St} {H : Hp} {a : Addr} {xs : List V} (hv : ∀ R : VK, R (.ref a) H → te σ H R) (hs : SqV K H a xs) (R : It → Hp → Prop)
    (h : ∀ (J : It) (G : Hp → Prop), Walk J xs.length G (YAt xs) → (∀ H', Same H H' → G H') → R J H) : iSeq K te σ H R := by
  rcases hs with hs | hs
  · exact .inl (hv _ ⟨a, rfl, ⟨_, hs⟩, h _ _ (walk_list (K := K) (a := a)) fun H' s => s.seq hs⟩)
  · exact .inr (hv _ ⟨a, rfl, ⟨_, hs⟩, h _ _ (walk_tup (K := K) (a := a)) fun H' s => seqT_keep hs s⟩)
/-- [f(x) for x in xs], xs a list or a tuple of data -/
theorem lcQ {K : PySem.W.Frag} {j : Nat} {vs : List Nat} {σ : L2.St} {H : Hp} {Q : VK} {ti te : TE} {a : Addr} {xs : List V} {ds : List PyData} (f : PyData → V) (hv : ∀ R : VK, R (.ref a) H → ti σ H R) (hs : SqV K H a xs) (hd : DqAll H xs ds) (few : ds.length ≤ 1000)
    (hw : ∀ x, wipe ((wipe σ vs).set j (some x)) vs = wipe σ vs)
    (ht : ∀ (x : V) (d : PyData), d ∈ ds → ∀ (H' : Hp) (R : VK), Same H H' → Dq H' x d → (∀ H'', Same H' H'' → R (f d) H'') → te ((wipe σ vs).set j (some x)) H' R)
    (hq : ∀ (D : Addr) (H' : Hp), Same H H' → H D = none → H' D = some (.lst (ds.map f)) → Q (.ref D) H') : tLc (iSeq K ti) (gName j) tYes te vs σ H Q := by
  have hl := hd.len
  refine lcS xs (fun i => f (ds.getD i .none)) (by omega) (wi_seq hv hs) hw (fun i x H' R ex s hR => ?_) fun D H' s nD hD => ?_
  · obtain ⟨d, ed, hx⟩ := hd.get ex
    have e : ds.getD i .none = d := by
      rw [List.getD_eq_getElem?_getD, ed]
      rfl
    rw [e] at hR
    exact ht x d (List.mem_of_getElem? ed) H' R s (hx.keep s) hR
  · refine hq D H' s nD ?_
    rw [hD, hl]
    congr 2
    apply List.ext_getElem?
    intro i
    rw [List.getElem?_map, List.getElem?_map]
    by_cases lt : i < ds.length
    · rw [List.getElem?_range lt, List.getElem?_eq_getElem lt]
      show some (f (ds.getD i .none)) = some (f ds[i])
      rw [List.getD_eq_getElem?_getD, List.getElem?_eq_getElem lt]
      rfl
    · rw [List.getElem?_eq_none (by rw [List.length_range]; omega), List.getElem?_eq_none (by omega)]
      rfl
/-! enumerate over a list or a tuple -/
def iEnumS (K : PySem.W.Frag) (ta : TA) : TI := fun σ H R => iEnum K ta σ H R ∨ iEnumT K ta σ H R
theorem pi_enumS {X : Cx} {e : Expr} {ta : TA} {p pos tpos : Pos} {elts : List Expr} {kk : Nat} (hg : Gl X "enumerate") (hm : X.mg "enumerate" = none) (ha : PA X [e] ta) (hs : starEach [e] X.env = [(false, eval e X.env)] := by rfl) :
    PI X (.Tuple elts kk tpos) (.Call (.Name "enumerate" p) [e] [] pos) (iEnumS X.K ta) :=
  ⟨fun pins s σ H R I h => h.elim (fun h => (pi_enum hg hm ha hs).run pins s σ H R I h) (fun h => (pi_enumT hg hm ha hs).run pins s σ H R I h)⟩
theorem forEnum {K : PySem.W.Frag} {ta : TA} {a : Addr} {xs : List V} {g : TG} {tb : TS} {D : Ends} {σ : L2.St} {H : Hp} (hv : ∀ R : List V → Hp → Prop, R [.ref a] H → ta σ H R) (hs : SqV K H a xs) (Pv : Nat → L2.St → Hp → Prop) (h0 : Pv 0 σ H) (hG : ∀ i σ H', i ≤ xs.length → Pv i σ H' → Same H H')
    (hl : ∀ i x σ H' T, xs[i]? = some x → Pv i σ H' → H' T = none → g (.ref T) σ (upd H' T (.tup [.int (i : Nat), x])) fun σ2 H2 => tb { D with nx := Pv (i + 1), ct := Pv (i + 1), bk := D.nx } σ2 H2) (hd : ∀ σ H', Pv xs.length σ H' → D.nx σ H') : tFor (iEnumS K ta) g tb D σ H := by
  rcases hs with hs | hs
  · refine .inl (hv _ ⟨a, xs, rfl, hs, for_it (walk_enum (K := K) (a := a) (xs := xs)) Pv h0 (fun i σ H' hi p => (hG i σ H' hi p).seq hs) (fun i x σ H' H2 hi p y => ?_) hd⟩)
    obtain ⟨T, u, v, rfl, nT, rfl, eu, ev⟩ := y
    have eu := Option.some.inj eu
    subst eu
    exact hl i v σ H' T ev p nT
  · refine .inr (hv _ ⟨a, xs, rfl, hs, for_it (walk_enumT (K := K) (a := a) (xs := xs)) Pv h0 (fun i σ H' hi p => seqT_keep hs (hG i σ H' hi p)) (fun i x σ H' H2 hi p y => ?_) hd⟩)
    obtain ⟨T, u, v, rfl, nT, rfl, eu, ev⟩ := y
    have eu := Option.some.inj eu
    subst eu
    exact hl i v σ H' T ev p nT
/-! a list or a tuple unpacked -/
def gSq (K : PySem.W.Frag) (n : Nat) (t : TGs) : TG := fun v σ H Q => gTup K n t v σ H Q ∨ gUnl K n t v σ H Q
theorem pg_sq {X : Cx} {es : List Expr} {k : Nat} {t : TGs} {n : Nat} {pos : Pos} (hc : X.calm = true) (h : PGs X es t)
    (hn : (assignEach es X.env).length = n := by rfl) (hst : (assignEach es X.env).findIdx? (·.1) = none := by rfl) : PG X (.Tuple es k pos) (gSq X.K n t) :=
  ⟨fun pins s σ H v u Q I r hw => hw.elim (fun hw => (pg_tup hc h hn hst).run pins s σ H v u Q I r hw) (fun hw => (pg_unl hc h hn hst).run pins s σ H v u Q I r hw)⟩
theorem rd_sq {K : PySem.W.Frag} {n : Nat} {t : TGs} {a : Addr} {xs : List V} {σ : L2.St} {H : Hp} {Q : L2.St → Hp → Prop} (h : SqV K H a xs) (hl : xs.length = n) (q : t xs σ H Q) : gSq K n t (.ref a) σ H Q :=
  h.elim (fun h => .inr ⟨a, xs, rfl, h, hl, q⟩) fun h => .inl ⟨a, xs, rfl, h, hl, q⟩
/-! ### widths judged -/
/-- the first place at which f tells a word -/
def firstW {α β : Type} (f : α → Option β) : Nat → List α → Option (β × Nat)
  | _, [] => none
  | i, x :: xs => match f x with
    | some w => some (w, i)
    | none => firstW f (i + 1) xs
theorem firstW_none {α β : Type} {f : α → Option β} : ∀ {xs : List α} {i : Nat}, firstW f i xs = none → ∀ x ∈ xs, f x = none
  | [], _, _, x, h => by cases h
  | y :: ys, i, e, x, h => by
    rw [firstW] at e
    cases ey : f y with
    | some w => rw [ey] at e; cases e
    | none =>
      rw [ey] at e
      rcases List.mem_cons.mp h with z | z
      · rw [z]; exact ey
      · exact firstW_none (xs := ys) (i := i + 1) e x z
theorem firstW_drop {α β : Type} {f : α → Option β} {xs : List α} {i : Nat} (h : i < xs.length) : firstW f i (xs.drop i) = match f xs[i] with
    | some w => some (w, i)
    | none => firstW f (i + 1) (xs.drop (i + 1)) := by
  rw [List.drop_eq_getElem_cons h, firstW]
/-- a width that is none -/
def wBadD (d : PyData) : Option Unit := if wholeD 1 3 d = true then none else some ()
/-- the place of the first wrong width -/
def wResD (d : PyData) : Option Int := match seqOf d with
  | none => some 0
  | some ds => if 1 ≤ ds.length ∧ ds.length ≤ 6 then (firstW wBadD 0 ds).map fun u => (u.2 : Int) else some 0
def intOf : PyData → Int
  | .int i => i
  | _ => 0
def wsOf (d : PyData) : List Int := (itemsD d).map intOf
theorem whole_int {l g : Int} {d : PyData} (h : wholeD l g d = true) : d = .int (intOf d) ∧ l ≤ intOf d ∧ intOf d ≤ g := by
  cases d with
  | int i =>
    rw [wholeD, Bool.and_eq_true, decide_eq_true_eq, decide_eq_true_eq] at h
    exact ⟨rfl, h⟩
  | _ => cases h
theorem ints_of_all {l g : Int} : ∀ {ds : List PyData}, (∀ d ∈ ds, wholeD l g d = true) → ds = (ds.map intOf).map PyData.int
  | [], _ => rfl
  | d :: ds, h => by
    rw [List.map_cons, List.map_cons, ← ints_of_all fun e m => h e (List.mem_cons_of_mem _ m), ← (whole_int (h d (List.mem_cons_self ..))).1]
theorem wsOf_good {d : PyData} (h : wResD d = none) : seqOf d = some ((wsOf d).map PyData.int) ∧ 1 ≤ (wsOf d).length ∧ (wsOf d).length ≤ 6 ∧ ∀ w ∈ wsOf d, 1 ≤ w ∧ w ≤ 3 := by
  unfold wResD at h
  cases e : seqOf d with
  | none => rw [e] at h; cases h
  | some ds =>
    rw [e] at h
    have ei : wsOf d = ds.map intOf := by unfold wsOf itemsD; rw [e]; rfl
    by_cases hl : 1 ≤ ds.length ∧ ds.length ≤ 6
    · dsimp only at h
      rw [if_pos hl] at h
      have all : ∀ x ∈ ds, wholeD 1 3 x = true := fun x m => by
        have z := firstW_none (Option.map_eq_none_iff.mp h) x m
        unfold wBadD at z
        by_cases q : wholeD 1 3 x = true
        · exact q
        · rw [if_neg q] at z; cases z
      rw [ei, List.length_map, ← ints_of_all all]
      refine ⟨rfl, hl.1, hl.2, fun w m => ?_⟩
      obtain ⟨x, mx, rfl⟩ := List.mem_map.mp m
      exact (whole_int (all x mx)).2
    · dsimp only at h
      rw [if_neg hl] at h
      cases h
/-- ints in the place of a list or tuple -/
def IntsAt (H : Hp) (x : V) (ws : List Int) : Prop := ∃ a, x = .ref a ∧ (H a = some (.lst (ws.map V.int)) ∨ H a = some (.tup (ws.map V.int)))
theorem dqAll_intsV {H : Hp} : ∀ {ns : List Int} {vs : List V}, DqAll H vs (ns.map PyData.int) → vs = ns.map V.int
  | [], _, .nil => rfl
  | n :: ns, _, .cons h a => by
    cases h
    rw [dqAll_intsV a]
    rfl
def spCheckW (K : PySem.W.Frag) (BW : Addr) : Sp := fun vs H Q E => ∃ (x : V) (d : PyData), vs = [x] ∧ Dq H x d ∧
  ((wResD d = none ∧ ∀ (p : Addr) (H' : Hp), Same H H' → H' p = some (.tup ((wsOf d).map V.int)) → Q (.ref p) H') ∨
   ∃ i, wResD d = some i ∧ ∀ (dd : Addr) (H' : Hp), Same H H' → H dd = none → H' dd = some (.xd [("index", .int i)]) → E (.ref BW) (some dd) H')
section
variable {P : Program} {w : World} {K : PySem.W.Frag} {mg : Str → Option Value} {base : Heap}
theorem sc_check_widths : FnScope ["widths", "index", "width"] ["widths"] (defScope (topS 11)) := ⟨rfl, rfl, rfl, by decide +kernel, rfl, by decide +kernel, by decide +kernel⟩
theorem ok_check_widths {f : Addr} {fd : FuncData} {dvs : List V} (F : FunD K "check_widths" "check_widths" (defArgs (topS 11)) (defBody (topS 11)) (defScope (topS 11)) dvs [] f fd) {BW : Addr} (RBadWidths : ErrF P w K mg base "BadWidths" BW ["index"]) (cs : Cal P w K mg base 2 "is_sequence_of" (spSeqOf K)) (cw : Cal P w K mg base 1 "is_whole" (spWhole K)) (gMOST_TABLES : ∃ u, mg "MOST_TABLES" = some u ∧ RelV (.int 6) u) (gMOST_COLUMNS : ∃ u, mg "MOST_COLUMNS" = some u ∧ RelV (.int 3) u) (m_enumerate : mg "enumerate" = none) (m_tuple : mg "tuple" = none) : FnOk P w K mg base (L2N.CX P w) 4 f fd ["widths"] (spCheckW K BW) := by
  refine F.ok sc_check_widths (fun vs H Q E h => ?_) (fun cdv A outer s0 H vs Q E hr h => ?_)
  · obtain ⟨x, d, rfl, _⟩ := h
    rfl
  · obtain ⟨x, d, rfl, hd, q⟩ := h
    refine ⟨_, (pss_cons (ps_if (pt_not (pt_val (pe_c cs hr (by decide) rfl (pa_cons (pv 0) (pa_cons pe_int (pa_cons (C8.pe_gc rfl gMOST_TABLES) pa_nil)))))) (pss_one (L2N.ps_raise rfl (L2N.takes_of rfl rfl rfl rfl) (pmk_errF RBadWidths hr (by decide) (by rfl) (pa_cons pe_int pa_nil)))) pss_nil)
      (pss_cons (ps_for (passes_of rfl) rfl (pi_enumS (by rfl) m_enumerate (pa_cons (pv 0) pa_nil)) (pg_tup (by rfl) (pgs_cons (pg_name (i := 1) sc_check_widths.nd rfl (.inl rfl)) (pgs_cons (pg_name (i := 2) sc_check_widths.nd rfl (.inl rfl)) pgs_nil))) (pss_one (ps_if (pt_not (pt_val (pe_c cw hr (by decide) rfl (pa_cons (pv 2) (pa_cons pe_int (pa_cons (C8.pe_gc rfl gMOST_COLUMNS) pa_nil)))))) (pss_one (L2N.ps_raise rfl (L2N.takes_of rfl rfl rfl rfl) (pmk_errF RBadWidths hr (by decide) (by rfl) (pa_cons (pv 1) pa_nil)))) pss_nil)))
      (pss_one (ps_ret (pe_callTy call_tuple_of (by rfl) m_tuple (by decide +kernel) (pa_cons (pv 0) pa_nil)))))), ?_⟩
    have bad : ∀ (i : Int) (H1 : Hp), Same H H1 → wResD d = some i → ∀ dd H2, Same H1 H2 → H1 dd = none → H2 dd = some (.xd [("index", .int i)]) → E (.ref BW) (some dd) H2 := fun i H1 s1 e dd H2 s2 nd ed2 => by
      rcases q with ⟨z, _⟩ | ⟨i', z, q⟩
      · rw [z] at e; cases e
      · rw [z] at e
        cases e
        exact q dd H2 (s1.trans s2) (s1.free nd) ed2
    refine ⟨_, rfl, x, d, 1, 6, rfl, hd, fun H1 s1 => ⟨_, rfl, ?_⟩⟩
    cases ed : seqOf d with
    | none =>
      have e2 : lenIn 1 6 d = false := by unfold lenIn; rw [ed]
      rw [e2]
      refine iteT ⟨rfl, (by show 1 ≤ 1000; decide), fun dd H3 s3 nd ed3 => ?_⟩
      exact bad 0 H1 s1 (by unfold wResD; rw [ed]) dd H3 s3 nd ed3
    | some ds =>
    have el : lenIn 1 6 d = (decide (1 ≤ ds.length) && decide (ds.length ≤ 6)) := by
      unfold lenIn
      rw [ed]
      dsimp only
      congr 1 <;> exact decide_eq_decide.mpr (by omega)
    have eW : wResD d = if 1 ≤ ds.length ∧ ds.length ≤ 6 then (firstW wBadD 0 ds).map fun u => (u.2 : Int) else some 0 := by unfold wResD; rw [ed]
    rw [el]
    by_cases hl : 1 ≤ ds.length ∧ ds.length ≤ 6
    · rw [if_pos hl] at eW
      rw [decide_eq_true hl.1, decide_eq_true hl.2]
      refine iteF ?_
      obtain ⟨a, xs, rfl, ha, hxs⟩ := (hd.keep s1).seq ed
      have lx := hxs.len
      have step : ∀ i : Nat, wResD d = (firstW wBadD i (ds.drop i)).map (fun u => (u.2 : Int)) → ∀ h : i < ds.length, (wBadD ds[i] = none → wResD d = (firstW wBadD (i + 1) (ds.drop (i + 1))).map fun u => (u.2 : Int)) ∧ (wBadD ds[i] = some () → wResD d = some (i : Int)) := fun i e h => by
        rw [firstW_drop h] at e
        exact ⟨fun z => by rw [z] at e; exact e, fun z => by rw [z] at e; exact e⟩
      refine forEnum (K := K) (fun R h => ⟨_, rfl, h⟩) (sqv_of ha) (fun i σ H' => Same H1 H' ∧ (∃ v1 v2, σ = [some (.ref a), v1, v2]) ∧ wResD d = (firstW wBadD i (ds.drop i)).map fun u => (u.2 : Int)) ⟨Same.refl _, ⟨_, _, rfl⟩, by rw [eW]; rfl⟩ (fun _ _ _ _ p => p.1) ?_ ?_
      · rintro i x σ H2 T ex ⟨s2, ⟨v1, v2, rfl⟩, hw⟩ nT
        obtain ⟨e, hde, dx⟩ := hxs.get ex
        obtain ⟨hi', rfl⟩ := List.getElem?_eq_some_iff.mp hde
        obtain ⟨go, stop⟩ := step i hw hi'
        generalize ds[i] = e at go stop dx
        have sT := same_upd (o := HO.tup [V.int (i : Nat), x]) nT
        refine ⟨T, [.int (i : Nat), x], rfl, SqT.of upd_same, rfl, _, _, rfl, _, _, rfl, rfl, ?_⟩
        refine ⟨_, rfl, x, _, some 1, some 3, rfl, (dx.keep (s2.trans sT)).ty, _, rfl, ?_⟩
        rw [dx.wholeB]
        cases hb : wholeD 1 3 e with
        | true => exact iteF ⟨s2.trans sT, ⟨_, _, rfl⟩, go (by unfold wBadD; rw [if_pos hb])⟩
        | false =>
          refine iteT ⟨_, rfl, rfl, (by show 1 ≤ 1000; decide), fun dd H3 s3 nd ed3 => ?_⟩
          exact bad i _ ((s1.trans s2).trans sT) (stop (by unfold wBadD; rw [hb]; rfl)) dd H3 s3 nd ed3
      · rintro σ H2 ⟨s2, ⟨v1, v2, rfl⟩, hw⟩
        rw [lx, List.drop_length] at hw
        rcases q with ⟨gd, q⟩ | ⟨i, z, _⟩
        · have s12 := s1.trans s2
          have ex : xs = (wsOf d).map V.int := by
            have z := (wsOf_good gd).1
            rw [ed] at z
            cases z
            exact dqAll_intsV hxs
          subst ex
          refine ⟨_, rfl, ?_⟩
          rcases ha with ha | ha
          · exact ⟨a, _, rfl, .inl ⟨SqL.of (s2 _ _ ha), fun p np => q p _ (s12.trans (same_upd np)) upd_same⟩⟩
          · exact ⟨a, _, rfl, .inr ⟨SqT.of (s2 _ _ ha), q a _ s12 (s2 _ _ ha)⟩⟩
        · rw [z] at hw; cases hw
    · rw [if_neg hl] at eW
      have e2 : (decide (1 ≤ ds.length) && decide (ds.length ≤ 6)) = false := by
        rw [← Bool.decide_and, decide_eq_false hl]
      rw [e2]
      refine iteT ⟨rfl, (by show 1 ≤ 1000; decide), fun dd H3 s3 nd ed3 => ?_⟩
      exact bad 0 H1 s1 eW dd H3 s3 nd ed3
end
end My
set_option Elab.async false
set_option linter.all false
set_option maxRecDepth 100000
set_option maxHeartbeats 4000000
namespace My
open PySem PySem.Spec PyProof.Rows L2
/-! ### a list comprehension whose element may let an exception out -/
theorem letOut {X : Cx} {pins : List (Addr × Obj)} {σ : L2.St} {H : Hp} {s : Shared} {xe : Value → Shared → Prop} (I : Inv X pins σ H s) : Inv { X with xe := xe } pins σ H s := by
  obtain ⟨⟨a1, a2, a3, a4, a5, a6, a7, a8, a9, a10, a11, a12, a13, a14, a15, a16, a17, a18⟩, b1, b2, b3, b4, b5, b6, b7, b8, b9, b10⟩ := I
  exact ⟨⟨a1, a2, a3, a4, a5, a6, a7, a8, a9, a10, a11, a12, a13, a14, a15, a16, a17, a18⟩, b1, b2, b3, b4, b5, b6, b7, b8, b9, b10⟩
/-- what is wanted behind the block's code, for the block's own names env' -/
def Behind (M : Model) (A : Around) (E : Value → Shared → Prop) (Q : Value → Shared → Prop) (acc : Value) (ce : Env) (r : Result) (t : Shared) : Prop :=
  match r with
  | .ok _ => ∃ m, t.heap.Ns ce.locals m ∧ ∀ g, Heap.SameBut ce.locals t.heap g → Q acc { t with heap := g }
  | .error x => ∃ m, t.heap.Ns ce.locals m ∧ ∀ g, Heap.SameBut ce.locals t.heap g →
      wpAny M A (PySem.passOn "comprehension.variables-let-go" x ce : Sem Value) (fun _ _ => False) E { t with heap := g }
theorem compAny {M : Model} {A : Around} {E : Value → Shared → Prop} {s : Shared} {env : Env} {e : Expr} {scope : Scope} {pos : Pos} {acc0 first : Sem Value} {c : Comprehension} {cs : List Comprehension} {cl : List (Str × Addr)} {Q : Value → Shared → Prop}
    (clauses : clausesOf e = c :: cs) (plain : ∀ x, foldedSetIterable c.iter env x = pure x) (clos : closureFor scope env = pure cl) (fn : scope.kind = .function)
    (loc : ∀ y ∈ scope.names, y.2 = .local → scope.names.lookup y.1 = some .local)
    (h : wpAny M A first (fun x t1 => wpAny M A (pyIter x) (fun it t2 => wpAny M A acc0 (fun acc t3 => wpAny M A (newFunctionEnv scope env.globals cl [] env.qual none .none (some env))
      (fun ce t4 => codeAny M A (.compStart e 0 it acc { ce with scope := relabel scope env }) (Behind M A E Q acc { ce with scope := relabel scope env }) t4) E t3) E t2) E t1) E s) :
    wpAny M A (comprehension e scope env pos acc0 false first) Q E s := by
  unfold comprehension
  rw [clos, clauses]
  refine wpAny_bind (wpAny_mono h (fun x t1 k1 => ?_) fun _ _ z => z)
  refine wpAny_bind (wpAny_standAt (wpAny_bind (wpAny_of_eq (plain x) (wpAny_bind (wpAny_holding ?_)))))
  refine wpAny_mono k1 (fun it t2 k2 => wpAny_standIf (wpAny_bind ?_)) fun _ _ z => z
  refine wpAny_mono k2 (fun acc t3 k3 => wpAny_bind (wpAny_pure (wpAny_bind ?_))) fun _ _ z => z
  refine wpAny_mono k3 (fun ce t4 k4 => ?_) fun _ _ z => z
  dsimp only
  have own : ∀ y ∈ (scope.names.filter fun y => (y.2 == .local || y.2 == .cell) && y.1 != (".0" : Str)).reverse, y.2 = .local → Env.kindOf { ce with scope := relabel scope env } y.1 = some .local :=
    fun y my ey => lookup_relabel_local (loc y (List.mem_filter.mp (List.mem_reverse.mp my)).1 ey)
  refine wpAny_holding (wpAny_bind (wpAny_attempt (wpAny_holding (wpAny_run (codeAny_mono k4 fun r t5 k5 => ?_)))))
  cases r with
  | ok f =>
    obtain ⟨m, nm, k6⟩ := k5
    exact wpAny_bind (wpAny_holding (wpAny_comp_letGo (cenv := { ce with scope := relabel scope env }) fn _ t5 m own nm fun g m' _ sb => wpAny_pure (k6 g sb)))
  | error x =>
    obtain ⟨m, nm, k6⟩ := k5
    exact wpAny_bind (wpAny_holding (wpAny_comp_letGo (cenv := { ce with scope := relabel scope env }) fn _ t5 m own nm fun g m' _ sb => wpAny_mono (k6 g sb) (fun _ _ f => f.elim) fun _ _ z => z))
theorem frames_cut {h g B B' : Heap} : ∀ {l : List Env}, (∀ L ∈ frs l, g.get? L = h.get? L) → (∀ L ∈ frs l, B'.get? L = none) → h.FunFrames B l → g.FunFrames B' l
  | [], _, _, _ => trivial
  | env :: l, k, n, ⟨kd, ⟨L, o, ef, _, eo, nd⟩, r⟩ => by
    have mL : L ∈ frs (env :: l) := List.mem_filterMap.mpr ⟨env, List.mem_cons_self, ef⟩
    have sub : ∀ M ∈ frs l, M ∈ frs (env :: l) := fun M hM => by
      obtain ⟨e, he, q⟩ := List.mem_filterMap.mp hM
      exact List.mem_filterMap.mpr ⟨e, List.mem_cons_of_mem _ he, q⟩
    exact ⟨kd, ⟨L, o, ef, n L mL, by rw [k L mL]; exact eo, nd⟩, frames_cut (fun M hM => k M (sub M hM)) (fun M hM => n M (sub M hM)) r⟩
/-- an exception leaves the block's code, whose own names lie at C -/
theorem leak {X : Cx} {Ek : XK} (tk : L2N.Takes X (fun cls d _ H => Ek cls d H)) (hst : X.stack = X.env :: X.outer) (hf : X.env.frame = some X.env.locals) {ce : Env} (ef : ce.frame = X.env.frame) (note : ∀ e, noteFrame e ce = noteFrame e X.env)
    {pins : List (Addr × Obj)} {σ : L2.St} {H : Hp} {s s' : Shared} {e : Value} {Q : Value → Shared → Prop} {E2 : Value → Shared → Prop} {acc : Value} (I : Inv X pins σ H s) (fC : FpOk X pins H ce.locals) (out : ce.locals ∉ frs X.stack) {m : Str → Option Value} (nm : s.heap.Ns ce.locals m)
    (c : L2N.CX X.prog X.w X.stack H s Ek e s') :
    wpAny (model X.prog X.w) X.A (noteFrame e ce) (fun _ t => Behind (model X.prog X.w) X.A X.xe Q acc ce (.error e) t) E2 s' := by
  obtain ⟨a, B, H2, cls, d, rfl, fly, tracked, ub, na, os, ag, wish⟩ := c
  rw [note]
  have out' : ce.locals ∉ frs (X.env :: X.outer) := by rw [← hst]; exact out
  rw [hst] at fly ub
  have hfr : X.A.frames = some (X.env :: X.outer) := by rw [I.ok.frames, hst]
  obtain ⟨oC, es, ep, eC, dC, rC⟩ := id nm
  have bC : B.get? ce.locals = some oC := ub.keep _ _ eC fC.1 out'
  have h2C : H2 ce.locals = none := ub.free _ _ eC fC.1
  refine PXN.looks_onZ L2N.Zn.steady hfr hf fly fun h1 held up1 => ?_
  obtain ⟨stays1, noA, fun1, traced1⟩ := held
  have e1C : h1.get? ce.locals = some oC := stays1 _ _ bC
  refine ⟨m, ⟨oC, es, ep, e1C, dC, rC⟩, fun g sb => ?_⟩
  obtain ⟨oe, vs, T, oT, ts, ea, za, da, h1a, nT, nTa, eT, dT, h3T⟩ := traced1
  have neA : a ≠ ce.locals := fun z => by
    rw [z, e1C] at ea
    cases ea
    rw [dC] at da
    cases da
  have neT : T ≠ ce.locals := fun z => by
    rw [z, e1C] at eT
    cases eT
    rw [dC] at dT
    cases dT
  obtain ⟨B', inB, outB⟩ := restrict B fun b => decide (b ≠ ce.locals)
  have ofB' : ∀ b o, B'.get? b = some o → b ≠ ce.locals ∧ B.get? b = some o := fun b o q => by
    by_cases z : b = ce.locals
    · rw [outB b (decide_eq_false fun y => y z)] at q
      cases q
    · rw [inB b (decide_eq_true z)] at q
      exact ⟨z, q⟩
  have toB' : ∀ b o, b ≠ ce.locals → B.get? b = some o → B'.get? b = some o := fun b o z q => by
    rw [inB b (decide_eq_true z)]
    exact q
  have nonB' : ∀ b, B.get? b = none → B'.get? b = none := fun b q => by
    cases z : B'.get? b with
    | none => rfl
    | some o => rw [(ofB' b o z).2] at q; cases q
  have frNe : ∀ L ∈ frs (X.env :: X.outer), L ≠ ce.locals := fun L hL z => out' (by rw [← z]; exact hL)
  have stays2 : B'.StaysIn g := fun b o q => by
    obtain ⟨z, q2⟩ := ofB' b o q
    rw [sb.2 b z]
    exact stays1 b o q2
  have fun2 : g.FunFrames B' (X.env :: X.outer) := frames_cut (fun L hL => sb.2 L (frNe L hL)) (fun L hL => nonB' L (fun1.mem hL).1) fun1
  have traced2 : HandSPX.TracedZ g B' a (L2N.Zn cls d) (rawInt X.env.locals) := ⟨oe, vs, T, oT, ts, (sb.2 a neA).trans ea, za, da, h1a, nonB' T nT, nTa, (sb.2 T neT).trans eT, dT, h3T⟩
  unfold PySem.passOn
  refine wpAny_bind (wpAny_field (s := { s' with heap := g }) ((sb.2 a neA).trans ea) da h1a ?_)
  rw [if_neg (show ¬ ((Value.ref T == Value.none) = true) from by simp), ef, hf]
  have last : wpAny (model X.prog X.w) X.A (setFlight (.ref a) (some X.env.locals)) (fun _ t => wpAny (model X.prog X.w) X.A (throw (.ref a) : Sem Value) (fun _ _ => False) X.xe t) X.xe { s' with heap := g } := by
    refine HandSPX.setFlight_anyZ stays2 fun2 traced2 fun h4 k1 k2 k3 k4 => wpAny_throw (tk _ _ ?_)
    have k3' : HandSPX.TracedZ h4 B' a (L2N.Zn cls d) (rawInt X.env.locals) := k3
    obtain ⟨G, inG, outG⟩ := restrict h4 fun b => (B'.get? b).isSome || decide (b ∈ frs X.stack)
    have gB : ∀ b o, B'.get? b = some o → G.get? b = some o := fun b o q => by
      rw [inG b (by simp [q])]
      exact k1 b o q
    have gF : ∀ b, b ∈ frs X.stack → G.get? b = h4.get? b := fun b hb => inG b (by simp [hb])
    have ofG : ∀ b o, G.get? b = some o → h4.get? b = some o ∧ ((B'.get? b).isSome = true ∨ b ∈ frs X.stack) := fun b o q => by
      cases z : ((B'.get? b).isSome || decide (b ∈ frs X.stack)) with
      | false => rw [outG b z] at q; cases q
      | true =>
        rw [inG b z] at q
        exact ⟨q, by simpa [Bool.or_eq_true] using z⟩
    have inFr : ∀ b, b ∈ frs X.stack → b ∈ frs (X.env :: X.outer) := fun b hb => by rw [← hst]; exact hb
    -- a caller's frame: up to its slots the same all along
    have slots : ∀ b o, s.heap.get? b = some o → b ∈ frs X.stack → ∃ sl, h4.get? b = some { o with slots := sl } := fun b o q hb => by
      obtain ⟨sl, q1⟩ := ub.slot b o q (inFr b hb)
      have nd : ∀ vs, o.data ≠ .fields vs := fun vs z => by
        obtain ⟨_, o', q', nd'⟩ := fly.2.2.1.mem (inFr b hb)
        rw [q1] at q'
        cases q'
        exact nd' vs z
      obtain ⟨sl2, q2⟩ := up1 b _ q1 nd
      have q3 : g.get? b = _ := (sb.2 b (frNe b (inFr b hb))).trans q2
      obtain ⟨sl4, q4⟩ := k4 b _ q3 nd
      exact ⟨sl4, q4⟩
    refine ⟨a, B', { s with heap := G, gens := s'.gens, drawn := s'.drawn, toks := s'.toks }, pins, σ, H2, cls, d, rfl, ?_, fun b o q hb => ?_, Heap.UpToSlots.of_keeps fun b o q => (ofG b o q).1, .inr (.inr ?_), na, os, ag, wish⟩
    · refine I.call (ch := [ce.locals]) ⟨fun b o q n hb hx => ?_, fun b o q n hb _ => ?_, fun b o q n _ => ub.free b o q n, fun b o q hx => ?_, ub.tups, ub.frzs, ub.tbls⟩ (fun b u q => ?_) ag fun b hb => ?_
      · exact gB b o (toB' b o (fun z => hx (by rw [z]; exact List.mem_singleton.mpr rfl)) (ub.keep b o q n fun z => hb (by rw [hst]; exact z)))
      · obtain ⟨sl, q4⟩ := slots b o q hb
        exact ⟨sl, by rw [gF b hb]; exact q4⟩
      · have nb : b ≠ ce.locals := fun z => hx (by rw [z]; exact List.mem_singleton.mpr rfl)
        by_cases hb : b ∈ frs X.stack
        · obtain ⟨sl, q4⟩ := slots b o q hb
          exact ⟨_, by rw [gF b hb]; exact q4⟩
        · obtain ⟨o', q'⟩ := ub.there b o q fun z => hb (by rw [hst]; exact z)
          exact ⟨o', gB b o' (toB' b o' nb q')⟩
      · refine (tracked b u q).stay (fun c v hc y => gB c v (toB' c v (fun z => ?_) y)) (fun _ y => y) fun _ _ y => y
        rcases hc with y | y
        · rw [← y, z, h2C] at q; cases q
        · rw [z, h2C] at y; cases y
      · rw [List.mem_singleton.mp hb]
        exact ⟨fC.2.2.2.1, fC.2.1, fC.2.2.2.2.1, fC.2.2.2.2.2⟩
    · obtain ⟨q', hh⟩ := ofG b o q
      rcases hh with hh | hh
      · obtain ⟨o', y⟩ := Option.isSome_iff_exists.mp hh
        have z := k1 b o' y
        rw [q'] at z
        cases z
        exact y
      · exact absurd hh hb
    · rw [hst]
      exact ⟨k1, nonB' a noA, k2, k3'⟩
  first
    | exact wpAny_bind (wpAny_pure (wpAny_bind last))
    | exact wpAny_bind last
abbrev blkE (X : Cx) (s : Shared) (H : Hp) (scope : Scope) (ce : Env) (fp : List Addr) (xe : Value → Shared → Prop) : Cx := { X.blk s H scope ce fp with xe := xe }
theorem pe_lcX {X : Cx} {Ek : XK} {elt tg iter : Expr} {scope : Scope} {own : List (Str × Nat)} {pos : Pos} {wi : TI} {g : TG} {te : TE} (tk : L2N.Takes X (fun cls d _ H => Ek cls d H)) (hst : X.stack = X.env :: X.outer) (hf : X.env.frame = some X.env.locals)
    (calm : X.calm = true) (nd : X.N.Nodup) (hi : PI X tg iter wi) (ok : BlkOk X.N X.env.scope scope own)
    (hg : ∀ (t : Shared) (G : Hp) (C : Addr) (cl : List (Str × Addr)) (fp : List Addr), PG (X.blk t G scope (compEnvC scope cl C X.env) fp) tg g)
    (he : ∀ (t : Shared) (G : Hp) (C : Addr) (cl : List (Str × Addr)) (fp : List Addr) (xe : Value → Shared → Prop), (∀ σ, PassesAt (L2N.CX X.prog X.w) (blkE X t G scope (compEnvC scope cl C X.env) fp xe) σ Ek) → PE (blkE X t G scope (compEnvC scope cl C X.env) fp xe) elt te)
    (plain : ∀ x, foldedSetIterable iter X.env x = pure x := by intro _; rfl) :
    PE X (.ListComp elt [⟨tg, iter, [], 0⟩] scope pos) (tLc wi g tYes te (own.map (·.2))) := by
  refine ⟨fun pins s σ H Q I h => ?_⟩
  rw [eval_ListComp]
  have frees : ∀ y ∈ scope.names, y.2 = .free → ∃ c, X.env.cells.lookup y.1 = some c := fun y my ey => I.ok.has _ ((ok.free y my ey).imp id id)
  refine compAny rfl plain (closure_ok frees) ok.kind (fun y my ey => by rw [ok.uniq y my, ey]) ?_
  refine thn (hi.run pins s σ H _ I h) fun _ t1 h1 => thn h1 fun _ t2 ⟨it, fp, tn, J, H2, eit, I2, T, at0, fps, q⟩ => ?_
  subst eit
  refine wpAny_newObj_type (newEnv_comp ?_) (by show 0 ≤ sizeLine; decide)
  obtain ⟨D, eD⟩ : ∃ D, D = t2.heap.objs.size := ⟨_, rfl⟩
  have freshD : H2 D = none := I2.hok.fresh (by rw [eD]; exact Nat.le_refl _)
  obtain ⟨W, ⟨m0, w0⟩, turn⟩ := q D freshD
  rw [← eD]
  obtain ⟨t3, et3⟩ : ∃ t3 : Shared, t3 = { t2 with heap := t2.heap.push { cls := .type "list", data := .seq ([] : List Value).toArray } } := ⟨_, rfl⟩
  have I3 : Inv X pins σ (upd H2 D (.lst [])) t3 := by
    rw [et3]
    refine I2.laid (t' := t2.toks) (fun b o e => Heap.get?_push_of_some _ e) (by rw [eD]; exact Nat.le_refl _) ⟨Nat.zero_le _, [], 0, .nil, ?_⟩
    rw [eD]
    exact Heap.get?_push_size _ rfl
  have older : ∀ b ∈ fp, b < t2.heap.objs.size := fun b mb => (T.obj _ _ at0 b mb).elim fun o e => Heap.lt_size e.1
  have size3 : t3.heap.objs.size = t2.heap.objs.size + 1 := by
    rw [et3]
    exact Heap.size_push ..
  have fps3 : ∀ b ∈ fp, FpOk X pins (upd H2 D (.lst [])) b ∧ b < t3.heap.objs.size := fun b mb => by
    have lt := older b mb
    refine ⟨⟨?_, (fps b mb).2⟩, by rw [size3]; exact Nat.lt_succ_of_lt lt⟩
    rw [upd_ne (by rw [eD]; exact Nat.ne_of_lt lt)]
    exact (fps b mb).1
  have at3 : tn 0 t3.heap := T.keep _ _ _ at0 fun b _ o e => by
    rw [et3]
    exact Heap.get?_push_of_some _ e
  have IB := block_start I3 ok nd fps3
  show codeAny _ _ (.compStart (.ListComp elt [⟨tg, iter, [], 0⟩] scope pos) 0 (.ref it) (.ref D) (compEnvC scope (cellsFrom ((t2.heap.push { cls := .type "list", data := .seq ([] : List Value).toArray }).objs.size + 1) scope.names (cloFrom X.env.cells scope.names [])) (t2.heap.push { cls := .type "list", data := .seq ([] : List Value).toArray }).objs.size X.env))
    (Behind (model X.prog X.w) X.A X.xe _ (.ref D) (compEnvC scope (cellsFrom ((t2.heap.push { cls := .type "list", data := .seq ([] : List Value).toArray }).objs.size + 1) scope.names (cloFrom X.env.cells scope.names [])) (t2.heap.push { cls := .type "list", data := .seq ([] : List Value).toArray }).objs.size X.env)) _
  have h3 : t3.heap = t2.heap.push { cls := .type "list", data := .seq ([] : List Value).toArray } := by rw [et3]
  rw [← h3]
  obtain ⟨cl, ecl⟩ : ∃ cl, cl = cellsFrom (t3.heap.objs.size + 1) scope.names (cloFrom X.env.cells scope.names []) := ⟨_, rfl⟩
  obtain ⟨C, eC⟩ : ∃ C, C = t3.heap.objs.size := ⟨_, rfl⟩
  rw [← ecl] at IB ⊢
  rw [← eC] at IB ⊢
  have pg := hg t3 (upd H2 D (.lst [])) C cl fp
  obtain ⟨ce, ece⟩ : ∃ ce, ce = compEnvC scope cl C X.env := ⟨_, rfl⟩
  have ceL : ce.locals = C := by rw [ece]; rfl
  have ceF : ce.frame = X.env.frame := by rw [ece]; rfl
  have ceN : ∀ e, noteFrame e ce = noteFrame e X.env := fun e => by rw [ece]; rfl
  have pe := he t3 (upd H2 D (.lst [])) C cl fp (notedBy (model X.prog X.w) X.A ce fun e t' => Behind (model X.prog X.w) X.A X.xe (fun v s' => ∃ y H', Inv X pins σ H' s' ∧ RelV y v ∧ Q y H') (.ref D) ce (.error e) t')
  rw [← ece] at IB pg pe ⊢
  have back : ∀ {p : List (Addr × Obj)} {σ' : L2.St} {H' : Hp} {t : Shared} {xe : Value → Shared → Prop}, Inv (blkE X t3 (upd H2 D (.lst [])) scope ce fp xe) p σ' H' t → Inv X pins σ H' t := fun {p σ' H' t xe} J => I3.call' (ch := fp) J.os J.base J.hok J.bare fun b mb =>
    let z := (fps3 b mb).1; ⟨z.2.2.2.1, z.2.1, z.2.2.2.2.1, z.2.2.2.2.2⟩
  have newC : ∀ {p : List (Addr × Obj)} {σ' : L2.St} {H' : Hp} {t : Shared} {xe : Value → Shared → Prop}, Inv (blkE X t3 (upd H2 D (.lst [])) scope ce fp xe) p σ' H' t → FpOk X pins H' ce.locals := fun {p σ' H' t xe} J => I3.fpOk (by rw [ceL, eC]; exact Nat.le_refl _) J.free
  have outC : ce.locals ∉ frs X.stack := fun z => by
    rcases List.mem_cons.mp (I3.stkSub _ z) with y | y
    · exact (I3.fpOk (H' := fun _ => none) (b := ce.locals) (by rw [ceL, eC]; exact Nat.le_refl _) rfl).2.1 y
    · exact (I3.fpOk (H' := fun _ => none) (b := ce.locals) (by rw [ceL, eC]; exact Nat.le_refl _) rfl).2.2.1 y
  have PE1 := pe fun σ' p H' t e t' J c => by
    obtain ⟨m, nm, _⟩ := J.loc
    exact leak tk hst hf ceF ceN (back J) (newC J) outC nm c
  obtain ⟨t4, et4⟩ : ∃ t4 : Shared, t4 = { t3 with heap := pushCells (t3.heap.push { cls := .type "dict", data := .dict #[] }) scope.names } := ⟨_, rfl⟩
  have e4 : ({ t2 with heap := pushCells (t3.heap.push { cls := .type "dict", data := .dict #[] }) scope.names } : Shared) = t4 := by rw [et4, et3]
  rw [← et4] at IB
  rw [e4]
  have at4 : tn 0 t4.heap := T.keep _ _ _ at3 fun b _ o e => by
    rw [et4]
    exact pushCells_keeps _ _ _ _ (Heap.get?_push_of_some _ e)
  have loop : codeAny (model X.prog X.w) X.A (.compLoop (.ListComp elt [⟨tg, iter, [], 0⟩] scope pos) 0 (.ref it) (.ref D) ce) (Behind (model X.prog X.w) X.A X.xe (fun v s' => ∃ y H', Inv X pins σ H' s' ∧ RelV y v ∧ Q y H') (.ref D) ce) t4 := by
    refine compLoop_any (fun n t => ∃ i G, Inv (X.blk t3 (upd H2 D (.lst [])) scope ce fp) [] (wipe σ (own.map (·.2))) G t ∧ tn i t.heap ∧ (∀ b ∈ fp, G b = none) ∧ W i n G) ?_ m0 ⟨0, _, IB, at4, fun b mb => (fps3 b mb).1.1, w0⟩
    rintro n t5 ⟨i, G5, I5, at5, no5, w5⟩
    have stand : ∀ {σ' : L2.St} {G : Hp} {t : Shared}, Inv (X.blk t3 (upd H2 D (.lst [])) scope ce fp) [] σ' G t → (∀ b ∈ fp, G b = none) → ∀ b ∈ fp, FpOk (X.blk t3 (upd H2 D (.lst [])) scope ce fp) [] G b := fun {σ' G t} J no b mb =>
      ⟨no b mb, (J.ok.exf b mb).1, J.ok.exfs b mb, .inl mb, fun y c e => (J.ok.exf b mb).2 y c e, fun p hp => absurd (show p ∈ ([] : List (Addr × Obj)) ++ [] from hp) (by simp)⟩
    rcases turn i n G5 w5 with ⟨stop, done⟩ | ⟨go, Nx, less, step⟩
    · refine thnF (T.done (X.blk t3 (upd H2 D (.lst [])) scope ce fp) rfl rfl rfl calm i [] t5 _ G5 (fun _ _ => False) I5 (stand I5 no5) at5 stop) fun r t6 ⟨hr, I6⟩ => ?_
      subst hr
      obtain ⟨m, nm, _⟩ := I6.loc
      have f6 := newC (xe := fun _ _ => False) I6
      have J6 := back (xe := fun _ _ => False) I6
      refine ⟨m, nm, fun g sb => ⟨.ref D, G5, J6.turned (t' := t6.toks) (fun b o nb e => (sb.2 b nb).trans e) f6.1 f6.2.1 f6.2.2.2.1 f6.2.2.2.2.1 f6.2.2.2.2.2, rfl, done⟩⟩
    · refine thnF (T.item (X.blk t3 (upd H2 D (.lst [])) scope ce fp) rfl rfl rfl calm i [] t5 _ G5 (fun _ _ => False) I5 (stand I5 no5) at5 go) fun r t6 ⟨u, hr, k6⟩ => ?_
      subst hr
      refine thnF k6 fun _ t7 ⟨x, G7, I7, r7, y7, at7, no7⟩ => ?_
      have P7 := I7.pinned (stand I7 no7) (T.obj _ _ at7)
      refine thnF (pg.run _ t7 _ G7 x u _ P7 r7 (step x G7 y7)) fun _ t8 ⟨σ8, G8, I8, wiped, k8⟩ => ?_
      refine wpAny_tests_nil ?_
      rw [if_pos rfl]
      have k8 : te σ8 G8 fun y G9 => ∃ acc, G9 D = some (.lst acc) ∧ acc.length < sizeLine ∧ Nx (upd G9 D (.lst (acc ++ [y]))) := by
        have z := k8
        unfold tYes at z
        simpa using z
      refine wpAny_mono (PE1.run _ t8 σ8 G8 _ (letOut I8) k8) (fun v t9 ⟨y, G9, I9, r9, acc, e9, z9, nx⟩ => ?_) fun e t z => ?_
      · have I9' : Inv (X.blk t3 (upd H2 D (.lst [])) scope ce fp) ([] ++ pinsAt fp t7.heap) σ8 G9 t9 := letOut (xe := fun _ _ => False) I9
        refine app_ok (X := X.blk t3 (upd H2 D (.lst [])) scope ce fp) I9' e9 z9 r9 fun t10 I10 => ?_
        obtain ⟨m', lt, w'⟩ := less _ nx
        have held : ∀ b ∈ fp, ∀ o, t7.heap.get? b = some o → t10.heap.get? b = some o ∧ (upd G9 D (.lst (acc ++ [y]))) b = none := fun b mb o e =>
          let z := I10.pin (b, o) (List.mem_append_right _ (List.mem_append_right _ (mem_pinsAt mb e)))
          ⟨z.1, z.2.1⟩
        refine ⟨m', lt, i + 1, _, (I10.unpinned (pins := [])).weak (by rw [← wiped, wipe_length]) (fun j v e => ?_), T.keep _ _ _ at7 fun b mb o e => (held b mb o e).1, fun b mb => ?_, w'⟩
        · rw [← wiped] at e
          exact (wipe_some e).1
        · obtain ⟨o, e, _⟩ := T.obj _ _ at7 b mb
          exact (held b mb o e).2
      · exact z
  exact codeAny_compStart_list loop (T.self X.A 0 _ _ _ at4 loop)
end My
set_option Elab.async false
set_option linter.all false
set_option maxRecDepth 100000
set_option maxHeartbeats 4000000
namespace My
open PySem PySem.Spec PyProof.Rows L2
def eight : List Str := ["a", "b", "c", "d", "e", "f", "g", "h"]
def nameV : V → Bool
  | .str s => decide (s ∈ eight)
  | _ => false
/-- is_name(x), x of a built-in type that is known -/
def spName (K : PySem.W.Frag) : Sp := fun vs H Q _ => ∃ (x : V) (t : String), vs = [x] ∧ TyOf K H x (.type t) ∧ Q (.bl (nameV x)) H
theorem in_eight (s : Str) : inV (.str s) (eight.map V.str) = decide (s ∈ eight) := by
  have gen : ∀ l : List Str, inV (.str s) (l.map V.str) = decide (s ∈ l) := by
    intro l
    induction l with
    | nil => rfl
    | cons z r ih =>
      unfold inV at ih ⊢
      rw [List.map_cons, List.any_cons, ih]
      have e : eqV (.str z) (.str s) = decide (z = s) := by
        first | rfl | simp [eqV]
      rw [e]
      by_cases h : z = s
      · subst h
        simp
      · have h' : ¬ s = z := fun y => h y.symm
        simp [h, h']
  exact gen eight
/-- for i, x in enumerate(xs): data told wrong by f let out -/
theorem forFirst {K : PySem.W.Frag} {β : Type} {ta : TA} {a : Addr} {xs : List V} {ds : List PyData} {g : TG} {tb : TS} {D : Ends} {σ : L2.St} {H : Hp} (f : PyData → Option β) (S : L2.St → Prop) (h0 : S σ)
    (hv : ∀ R : List V → Hp → Prop, R [.ref a] H → ta σ H R) (hs : SqV K H a xs) (hd : DqAll H xs ds)
    (hl : ∀ (i : Nat) (x : V) (d : PyData) (σ : L2.St) (H' : Hp) (T : Addr) (N : L2.St → Hp → Prop), S σ → Same H H' → H' T = none → d ∈ ds → Dq H' x d → (f d = none → ∀ σ' H2, S σ' → Same H' H2 → N σ' H2) → (∀ w, f d = some w → firstW f 0 ds = some (w, i)) →
      g (.ref T) σ (upd H' T (.tup [.int (i : Nat), x])) fun σ2 H2 => tb { D with nx := N, ct := N, bk := D.nx } σ2 H2)
    (he : firstW f 0 ds = none → ∀ σ H', S σ → Same H H' → D.nx σ H') : tFor (iEnumS K ta) g tb D σ H := by
  have hlen := hd.len
  refine forEnum (K := K) hv hs (fun i σ H' => Same H H' ∧ S σ ∧ firstW f 0 ds = firstW f i (ds.drop i)) ⟨Same.refl _, h0, rfl⟩ (fun _ _ _ _ p => p.1) ?_ ?_
  · rintro i x σ H' T ex ⟨s, hS, e⟩ nT
    obtain ⟨d, ed, hx⟩ := hd.get ex
    have li := (List.getElem?_eq_some_iff.mp ed).1
    have ei : ds[i] = d := (List.getElem?_eq_some_iff.mp ed).2
    rw [firstW_drop li, ei] at e
    refine hl i x d σ H' T _ hS s nT (List.mem_of_getElem? ed) (hx.keep s) (fun z σ' H2 h2 s2 => ⟨s.trans s2, h2, ?_⟩) (fun w z => ?_)
    · rw [z] at e
      exact e
    · rw [z] at e
      exact e
  · rintro σ H' ⟨s, hS, e⟩
    rw [hlen, List.drop_length] at e
    exact he e σ H' hS s
/-! ### terms, atoms -/
def nameD : PyData → Bool
  | .str s => decide (s ∈ eight)
  | _ => false
theorem Dq.name {H : Hp} {x : V} {d : PyData} (h : Dq H x d) : nameV x = nameD d := by cases h <;> rfl
def termD (d : PyData) : Bool := nameD d || valueD d
def wordD (a z : Str) (ok : PyData → Bool) (ws : List Int) (d : PyData) : Option Str := match placeD ws d with
  | some w => if w = ("row" : Str) then some a else some w
  | none => if (itemsD (itemD d 1)).all ok then none else some z
theorem in_strs (s : Str) : ∀ l : List Str, inV (.str s) (l.map V.str) = decide (s ∈ l) := by
  intro l
  induction l with
  | nil => rfl
  | cons z r ih =>
    unfold inV at ih ⊢
    rw [List.map_cons, List.any_cons, ih]
    have e : eqV (.str z) (.str s) = decide (z = s) := by
      first | rfl | simp [eqV]
    rw [e]
    by_cases h : z = s
    · subst h
      simp
    · have h' : ¬ s = z := fun y => h y.symm
      simp [h, h']
theorem strs_flat (l : List Str) : (l.map V.str).all flatV = true := by
  rw [List.all_eq_true]
  intro x hx
  obtain ⟨n, _, rfl⟩ := List.mem_map.mp hx
  rfl
theorem place_seq {ws : List Int} {d : PyData} (h : placeD ws d = none) : ∃ t r rs i, seqOf d = some [t, r] ∧ itemD d 0 = t ∧ itemD d 1 = r ∧ seqOf r = some rs ∧ t = .int i ∧ 0 ≤ i ∧ i < ws.length ∧ (rs.length : Int) = ws.getD i.toNat 0 := by
  unfold placeD at h
  cases hb : (lenIn 2 2 d && (intD (itemD d 0) && (seqOf (itemD d 1)).isSome)) with
  | false => rw [hb] at h; cases h
  | true =>
    rw [hb] at h
    obtain ⟨h1, h2⟩ := Bool.and_eq_true_iff.mp hb
    obtain ⟨h3, h4⟩ := Bool.and_eq_true_iff.mp h2
    unfold lenIn at h1
    cases e : seqOf d with
    | none => rw [e] at h1; cases h1
    | some ds =>
      rw [e] at h1
      obtain ⟨z1, z2⟩ := Bool.and_eq_true_iff.mp h1
      have z1 := of_decide_eq_true z1
      have z2 := of_decide_eq_true z2
      obtain ⟨t, r, rfl⟩ : ∃ t r, ds = [t, r] := by
        match ds, z1, z2 with
        | [t, r], _, _ => exact ⟨t, r, rfl⟩
        | [], z1, _ => simp at z1
        | [_], z1, _ => simp at z1
        | _ :: _ :: _ :: _, _, z2 => simp at z2; omega
      have i0 : itemD d 0 = t := by unfold itemD; rw [itemsD_some e]; rfl
      have i1 : itemD d 1 = r := by unfold itemD; rw [itemsD_some e]; rfl
      rw [i0] at h h3
      rw [i1] at h h4
      obtain ⟨rs, er⟩ := Option.isSome_iff_exists.mp h4
      cases t with
      | int i =>
        cases hw : wholeD 0 ((ws.length : Int) - 1) (.int i) with
        | false => rw [hw] at h; cases h
        | true =>
          obtain ⟨w1, w2⟩ := Bool.and_eq_true_iff.mp hw
          have w1 := of_decide_eq_true w1
          have w2 := of_decide_eq_true w2
          rw [hw, itemsD_some er] at h
          refine ⟨_, r, rs, i, rfl, i0, i1, er, rfl, w1, by omega, ?_⟩
          by_cases same : (rs.length : Int) = ws.getD i.toNat 0
          · exact same
          · rw [if_neg (by decide), if_neg (by decide), if_pos (show (rs.length : Int) ≠ ws.getD (tabD (.int i)).toNat 0 from same)] at h
            cases h
      | _ => cases h3
def rTupOf (K : PySem.W.Frag) : List V → Hp → VK → Prop := fun xs H Q => ∃ p ys, xs = [V.ref p] ∧ ((SqL K H p ys ∧ ∀ l, H l = none → Q (.ref l) (upd H l (.tup ys))) ∨ SqT K H p ys ∧ Q (.ref p) H)
def rLenOf (K : PySem.W.Frag) : List V → Hp → VK → Prop := fun xs H Q => ∃ p ys, xs = [V.ref p] ∧ (SqL K H p ys ∨ SqT K H p ys) ∧ Q (.int (ys.length : Nat)) H
/-! data without lists do not mind what a list holds -/
mutual
def noL : PyData → Bool
  | .list _ => false
  | .tuple ds => noLs ds
  | .dict _ => true
  | .none => true
  | .bool _ => true
  | .int _ => true
  | .str _ => true
def noLs : List PyData → Bool
  | [] => true
  | d :: ds => noL d && noLs ds
end
theorem noLs_of : ∀ {ds : List PyData}, (∀ d ∈ ds, noL d = true) → noLs ds = true
  | [], _ => by rw [noLs]
  | e :: ds, h => by
    rw [noLs, h e (List.mem_cons_self ..), noLs_of fun d m => h d (List.mem_cons_of_mem _ m)]
    rfl
theorem noLs_mem : ∀ {ds : List PyData} {d : PyData}, noLs ds = true → d ∈ ds → noL d = true
  | e :: ds, d, h, m => by
    rw [noLs, Bool.and_eq_true] at h
    rcases List.mem_cons.mp m with z | z
    · rw [z]; exact h.1
    · exact noLs_mem h.2 z
section
variable {H : Hp} {a : Addr} {xs ys : List V}
mutual
theorem dq_put (e : H a = some (.lst xs)) : ∀ (d : PyData) (v : V), noL d = true → Dq H v d → Dq (upd H a (.lst ys)) v d
  | .none, _, _, .non => .non
  | .bool b, _, _, .bl _ => .bl b
  | .int i, _, _, .int _ => .int i
  | .str x, _, _, .str _ => .str x
  | .list ds, _, t, _ => by rw [noL] at t; cases t
  | .tuple ds, _, t, .tup h al => by
    rw [noL] at t
    exact .tup (by rw [upd_ne (fun z => by rw [z, e] at h; cases h)]; exact h) (dqAll_put e ds _ t al)
  | .dict _, _, _, .dct h => .dct (by rw [upd_ne (fun z => by rw [z, e] at h; cases h)]; exact h)
theorem dqAll_put (e : H a = some (.lst xs)) : ∀ (ds : List PyData) (vs : List V), noLs ds = true → DqAll H vs ds → DqAll (upd H a (.lst ys)) vs ds
  | [], _, _, .nil => .nil
  | d :: ds, _, t, .cons h al => by
    rw [noLs, Bool.and_eq_true] at t
    exact .cons (dq_put e d _ t.1 h) (dqAll_put e ds _ t.2 al)
end
end
/-- [e for .. in xs]: data g d, without lists, for the data d -/
theorem lcQd {K : PySem.W.Frag} {vs : List Nat} {σ : L2.St} {H : Hp} {Q : VK} {ti te : TE} {G : TG} {a : Addr} {xs : List V} {ds : List PyData} (g : PyData → PyData) (hv : ∀ R : VK, R (.ref a) H → ti σ H R) (hs : SqV K H a xs) (hd : DqAll H xs ds) (few : ds.length ≤ 1000) (hg : ∀ d ∈ ds, noL (g d) = true)
    (ht : ∀ (x : V) (d : PyData) (H' : Hp) (R : VK) (N : Hp → Prop), d ∈ ds → Same H H' → Dq H' x d → (∀ y H'', Same H' H'' → Dq H'' y (g d) → R y H'') → G x (wipe σ vs) H' fun σ2 H2 => wipe σ2 vs = wipe σ vs ∧ if true = true then te σ2 H2 R else N H2)
    (hq : ∀ (D : Addr) (ys : List V) (H' : Hp), Same H H' → H D = none → H' D = some (.lst ys) → DqAll H' ys (ds.map g) → Q (.ref D) H') : tLc (iSeq K ti) G tYes te vs σ H Q := by
  have len := hd.len
  refine wi_seq hv hs _ fun J GG w hG => fun D nD => ?_
  let Pv : Nat → Hp → Prop := fun i H' => Same H H' ∧ ∃ ys, H' D = some (.lst ys) ∧ DqAll H' ys ((ds.take i).map g)
  refine ⟨fun i m H' => m = xs.length - i ∧ i ≤ xs.length ∧ Pv i H', ⟨xs.length, rfl, Nat.zero_le _, same_upd nD, [], upd_same, .nil⟩, ?_⟩
  rintro i m H' ⟨rfl, hi, s1, ys, hD, hys⟩
  by_cases lt : i < xs.length
  · refine .inr ⟨w.goes i H' lt (hG _ s1), Pv (i + 1), fun H2 p => ⟨xs.length - (i + 1), by omega, rfl, lt, p⟩, ?_⟩
    intro x H2 y
    obtain ⟨rfl, ex⟩ := w.yields i H' x H2 lt (hG _ s1) y
    obtain ⟨d, ed, hxd⟩ := hd.get ex
    have md := List.mem_of_getElem? ed
    refine ht x d H2 _ (Pv (i + 1)) md s1 (hxd.keep s1) fun y H4 s4 hy => ⟨ys, s4 _ _ hD, ?_, same_but (s1.trans s4) nD, ys ++ [y], upd_same, ?_⟩
    · rw [hys.len, List.length_map, List.length_take]
      exact small1000 (by omega)
    · rw [List.take_add_one, ed, List.map_append]
      refine dqAll_put (s4 _ _ hD) _ _ (noLs_of fun e he => ?_) ((hys.keep s4).snoc hy)
      rcases List.mem_append.mp he with z | z
      · obtain ⟨d', m', rfl⟩ := List.mem_map.mp z
        exact hg d' (List.mem_of_mem_take m')
      · rw [List.mem_singleton.mp z]
        exact hg d md
  · have e : i = xs.length := by omega
    subst e
    rw [len, List.take_length] at hys
    exact .inl ⟨w.stops H' (hG _ s1), hq D ys H' s1 nD hD hys⟩
/-! sizes -/
mutual
def fewD : PyData → Bool
  | .list ds => decide (ds.length ≤ 1000) && fewDs ds
  | .tuple ds => decide (ds.length ≤ 1000) && fewDs ds
  | .dict _ => true
  | .none => true
  | .bool _ => true
  | .int _ => true
  | .str _ => true
def fewDs : List PyData → Bool
  | [] => true
  | d :: ds => fewD d && fewDs ds
end
theorem fewDs_mem : ∀ {ds : List PyData} {d : PyData}, fewDs ds = true → d ∈ ds → fewD d = true
  | e :: ds, d, h, m => by
    rw [fewDs, Bool.and_eq_true] at h
    rcases List.mem_cons.mp m with z | z
    · rw [z]; exact h.1
    · exact fewDs_mem h.2 z
theorem fewDs_of : ∀ {ds : List PyData}, (∀ d ∈ ds, fewD d = true) → fewDs ds = true
  | [], _ => by rw [fewDs]
  | e :: ds, h => by
    rw [fewDs, h e (List.mem_cons_self ..), fewDs_of fun d m => h d (List.mem_cons_of_mem _ m)]
    rfl
theorem few_items {d : PyData} (h : fewD d = true) : (itemsD d).length ≤ 1000 ∧ ∀ e ∈ itemsD d, fewD e = true := by
  cases d with
  | list ds =>
    rw [fewD, Bool.and_eq_true] at h
    exact ⟨of_decide_eq_true h.1, fun e m => fewDs_mem h.2 m⟩
  | tuple ds =>
    rw [fewD, Bool.and_eq_true] at h
    exact ⟨of_decide_eq_true h.1, fun e m => fewDs_mem h.2 m⟩
  | _ => exact ⟨by show (([] : List PyData).length ≤ 1000); decide, fun e m => by cases (show e ∈ ([] : List PyData) from m)⟩
theorem few_item {d : PyData} (h : fewD d = true) (i : Nat) : fewD (itemD d i) = true := by
  unfold itemD
  rw [List.getD_eq_getElem?_getD]
  cases e : (itemsD d)[i]? with
  | none => rfl
  | some x => exact (few_items h).2 x (List.mem_of_getElem? e)
/-! ### heads, pairs, bodies judged -/
/-- what a raise of an error with a word and a place gives -/
theorem lenIn_seq {l g : Int} {d : PyData} (h : lenIn l g d = true) : ∃ ds, seqOf d = some ds ∧ itemsD d = ds := by
  unfold lenIn at h
  cases e : seqOf d with
  | none => rw [e] at h; cases h
  | some ds => exact ⟨ds, rfl, itemsD_some e⟩

/-! ### rows -/
def rowW (ws : List Int) (d : PyData) : Option Str := wordD "row" "value" valueD ws d
def rowT (d : PyData) : PyData := .tuple [itemD d 0, .tuple (itemsD (itemD d 1))]
/-- a row of whole numbers, in tuples -/
def RowD (e : PyData) : Prop := ∃ (t : Int) (ns : List Int), e = .tuple [.int t, .tuple (ns.map PyData.int)] ∧ ns.length ≤ 3
theorem row_seq {ws : List Int} {d : PyData} (h : rowW ws d = none) : ∃ t r rs i, seqOf d = some [t, r] ∧ itemD d 0 = t ∧ itemD d 1 = r ∧ seqOf r = some rs ∧ t = .int i ∧ 0 ≤ i ∧ i < ws.length ∧ (rs.length : Int) = ws.getD i.toNat 0 ∧ ∀ y ∈ rs, valueD y = true := by
  unfold rowW wordD at h
  cases hp : placeD ws d with
  | some w =>
    rw [hp] at h
    dsimp only at h
    by_cases hw : w = ("row" : Str)
    · rw [if_pos hw] at h; cases h
    · rw [if_neg hw] at h; cases h
  | none =>
    rw [hp] at h
    dsimp only at h
    obtain ⟨t, r, rs, k, et, e0, e1, er, eu, k0, k1, k2⟩ := place_seq hp
    rw [e1, itemsD_some er] at h
    refine ⟨t, r, rs, k, et, e0, e1, er, eu, k0, k1, k2, fun y my => ?_⟩
    cases ht : rs.all valueD with
    | false => rw [ht] at h; cases h
    | true => exact List.all_eq_true.mp ht y my
theorem row_good {ws : List Int} {d : PyData} (h : rowW ws d = none) (three : ∀ w ∈ ws, w ≤ 3) : RowD (rowT d) := by
  obtain ⟨t, r, rs, i, ed, e0, e1, er, rfl, k0, k1, k2, k3⟩ := row_seq h
  refine ⟨i, rs.map intOf, ?_, ?_⟩
  · unfold rowT
    rw [e0, e1, itemsD_some er, ← ints_of_all k3]
  · rw [List.length_map]
    have lt : i.toNat < ws.length := by omega
    have e : ws.getD i.toNat 0 = ws[i.toNat] := by rw [List.getD_eq_getElem?_getD, List.getElem?_eq_getElem lt]; rfl
    have := three _ (List.getElem_mem lt)
    omega
/-- the store of these rows -/
def IsStore (ds es : List PyData) : Prop := Rising id es ∧ es.Nodup ∧ es.length ≤ ds.length ∧ ∀ d, d ∈ es ↔ d ∈ ds
mutual
theorem pure_ints : ∀ ns : List Int, pureDs (ns.map PyData.int) = true
  | [] => rfl
  | n :: ns => by rw [List.map_cons, pureDs, pure_ints ns]; rfl
end
theorem depth_ints : ∀ ns : List Int, PyData.depthAll (ns.map PyData.int) = 0
  | [] => rfl
  | n :: ns => by rw [List.map_cons, PyData.depthAll, depth_ints ns]; rfl
theorem alike_ints : ∀ (ns ms : List Int), PySem.W.alikeAll (ns.map PyData.int) (ms.map PyData.int) = true
  | [], _ => by cases ‹List Int› <;> simp [PySem.W.alikeAll]
  | n :: ns, [] => by simp [PySem.W.alikeAll]
  | n :: ns, m :: ms => by rw [List.map_cons, List.map_cons, PySem.W.alikeAll, alike_ints ns ms]; rfl
theorem RowD.pure {e : PyData} (h : RowD e) : pureD e = true ∧ e.depth ≤ 8 ∧ noL e = true := by
  obtain ⟨t, ns, rfl, _⟩ := h
  refine ⟨?_, ?_, ?_⟩
  · simp only [pureD, pureDs, pure_ints, Bool.and_self]
  · simp only [PyData.depth, PyData.depthAll, depth_ints]; decide
  · simp only [noL, noLs, Bool.true_and, Bool.and_true]
    exact noLs_of fun d m => by
      obtain ⟨n, _, rfl⟩ := List.mem_map.mp m
      rfl
theorem rows_alike {ds : List PyData} (h : ∀ d ∈ ds, RowD d) : PySem.W.AllAlike ds ∧ PySem.W.Sortable ds := by
  refine ⟨fun d m d' m' => ?_, .inl fun d m => ?_⟩
  · obtain ⟨t, ns, rfl, _⟩ := h d m
    obtain ⟨t', ns', rfl, _⟩ := h d' m'
    simp only [PySem.W.alike, PySem.W.alikeAll, alike_ints, Bool.and_self]
  · obtain ⟨t, ns, rfl, _⟩ := h d m
    exact ⟨_, _, rfl⟩
theorem IsStore.one {ds es fs : List PyData} (h : ∀ d ∈ ds, RowD d) (a : IsStore ds es) (b : IsStore ds fs) : es = fs := by
  have pm : es.Perm fs := (List.perm_ext_iff_of_nodup a.2.1 b.2.1).mpr fun d => (a.2.2.2 d).trans (b.2.2.2 d).symm
  have he : ∀ d ∈ es, RowD d := fun d m => h d ((a.2.2.2 d).mp m)
  have z := rising_one (dt := id) (dg := id) a.1 b.1 (by rw [List.map_id, List.map_id]; exact pm) (by rw [List.map_id]; exact (rows_alike he).1) (by rw [List.map_id]; exact fun d m => (he d m).pure.1)
  rw [List.map_id, List.map_id] at z
  exact z
section
variable {K : PySem.W.Frag} {H : Hp}
mutual
theorem dq_dp : ∀ (d : PyData) (v : V), pureD d = true → Dq H v d → Dp K H v d
  | .none, _, _, .non => .non
  | .int i, _, _, .int _ => .int i
  | .tuple ds, _, p, .tup h a => by
    rw [pureD] at p
    exact .tup (SqT.of h) (dqs_dps ds _ p a)
  | .bool _, _, p, _ => by cases p
  | .str _, _, p, _ => by cases p
  | .list _, _, p, _ => by cases p
  | .dict _, _, p, _ => by cases p
theorem dqs_dps : ∀ (ds : List PyData) (vs : List V), pureDs ds = true → DqAll H vs ds → DpAll K H vs ds
  | [], _, _, .nil => .nil
  | d :: ds, _, p, .cons h a => by
    rw [pureDs, Bool.and_eq_true] at p
    exact .cons (dq_dp d _ p.1 h) (dqs_dps ds _ p.2 a)
end
end
/-- tuples by their places -/
theorem rows_at {H : Hp} : ∀ {xs : List V} {ds : List PyData}, DqAll H xs ds → (∀ d ∈ ds, RowD d) → ∃ ks : List (Addr × PyData), xs = ks.map (fun m => V.ref m.1) ∧ ds = ks.map Prod.snd ∧ ∀ m ∈ ks, Dq H (.ref m.1) m.2
  | _, _, .nil, _ => ⟨[], rfl, rfl, fun m h => (by cases h)⟩
  | _, _, @DqAll.cons _ v vs d ds hd a, h => by
    obtain ⟨ks, e1, e2, e3⟩ := rows_at a fun e m => h e (List.mem_cons_of_mem _ m)
    obtain ⟨t, ns, rfl, _⟩ := h d (List.mem_cons_self ..)
    cases hd with
    | @tup b ys _ hb hy =>
      refine ⟨(b, _) :: ks, by rw [e1]; rfl, by rw [e2]; rfl, fun m hm => ?_⟩
      rcases List.mem_cons.mp hm with rfl | hm
      · exact .tup hb hy
      · exact e3 m hm
theorem dqs_of {H : Hp} : ∀ (M : List (Addr × PyData)), (∀ m ∈ M, Dq H (.ref m.1) m.2) → DqAll H (M.map fun m => V.ref m.1) (M.map Prod.snd)
  | [], _ => .nil
  | m :: M, h => .cons (h m (List.mem_cons_self ..)) (dqs_of M fun n hn => h n (List.mem_cons_of_mem _ hn))
section
variable {P : Program} {w : World} {K : PySem.W.Frag} {mg : Str → Option Value} {base : Heap}
def spRowF (K : PySem.W.Frag) : Sp := fun vs H Q _ => ∃ (p : Addr) (ws : List Int) (x : V) (d : PyData), vs = [.ref p, x] ∧ SqT K H p (ws.map V.int) ∧ Dq H x d ∧ (itemsD (itemD d 1)).length ≤ 1000 ∧ ∀ H', Same H H' → Q (optS (rowW ws d)) H'
theorem sc__fault_of_row : FnScope ["widths", "row", "what", "value"] ["widths", "row"] (defScope (topS 18)) := ⟨rfl, rfl, rfl, by decide +kernel, rfl, by decide +kernel, by decide +kernel⟩
theorem ok__fault_of_row {f : Addr} {fd : FuncData} (F : L2.Fun K "_fault_of_row" "_fault_of_row" (topS 18) f fd) (cF : Cal P w K mg base 4 "fault_of_place" (spPlaceF K)) (cV : Cal P w K mg base 2 "is_value" (spValue K)) (m_all : mg "all" = none) : FnOk P w K mg base CX0 5 f fd ["widths", "row"] (spRowF K) := by
  refine F.ok sc__fault_of_row (fun vs H Q E h => ?_) (fun cdv A outer s0 H vs Q E hr h => ?_)
  · obtain ⟨p, ws, x, d, rfl, _⟩ := h
    rfl
  · obtain ⟨p, ws, x, d, rfl, hp, hd, few, q⟩ := h
    refine ⟨_, (pss_cons (ps_set (i := 2) sc__fault_of_row.nd rfl (.inl rfl) (pe_c cF hr (by decide) rfl (pa_cons (pv 0) (pa_cons (pv 1) pa_nil))))
      (pss_cons (ps_if (PW.pt (pw_and (pt_cmpR op_isN (pv 2) pe_non (nomark _)) (pw_and1 (pt_not (pt_truth (pe_callB (cr_all rfl) (by rfl) m_all (by decide +kernel) (pa_cons (pe_lc (own := [("value", 3)]) (g := gName 3) (tt := tYes) rfl sc__fault_of_row.nd (pi_seq (pe_ix ix_seq (pv 1) pe_int (fun _ _ => rfl))) (blkOk_by (N := ["widths", "row", "what", "value"]) (sc := defScope (topS 18)) (by decide +kernel)) (fun _ _ _ _ _ => pg_name (i := 3) sc__fault_of_row.nd rfl (Or.inl rfl)) (fun _ _ _ _ _ => pts_nil) (fun _ _ _ _ _ => (pe_c cV hr (by decide) rfl (pa_cons (pv 3) pa_nil)))) pa_nil)) (by intro _; rfl)))))) (pss_one (ps_ret pe_str)) pss_nil)
      (pss_one (ps_ret (pv 2))))), ?_⟩
    refine ⟨_, rfl, _, rfl, p, ws, x, d, rfl, hp, hd, fun H1 s1 => ?_⟩
    unfold rowW wordD at q
    cases e : placeD ws d with
    | some w =>
      rw [e] at q
      dsimp only at q
      refine ⟨_, rfl, rfl, _, rfl, iteF (iteF ⟨_, rfl, ?_⟩)⟩
      by_cases hw : w = ("row" : Str)
      · subst hw
        rw [if_pos rfl] at q
        exact q H1 s1
      · rw [if_neg hw] at q
        exact q H1 s1
    | none =>
      rw [e] at q
      dsimp only at q
      refine ⟨_, rfl, rfl, _, rfl, iteT ?_⟩
      obtain ⟨t, r, rs, i, ed, i0, i1, er, _⟩ := place_seq e
      obtain ⟨a, xs, y, rfl, hs, hl, ey, hy⟩ := (hd.keep s1).item (i := 1) ed (by show 1 < 2; decide)
      rw [i1] at hy few q
      obtain ⟨b, ys, rfl, hb, hall⟩ := hy.seq er
      rw [itemsD_some er] at few q
      dsimp only [tNot, tB, tCB, tCons, tNil]
      refine lcQ (K := K) (fun d => .bl (valueD d)) (fun R h => ⟨_, rfl, rd_ix (sqv_of hs) ey h⟩) (sqv_of hb) hall few (by intro _; rfl) (fun x d m H2 R s2 hx kR => ?_) (fun D H2 s2 nD hD => ?_)
      · refine ⟨_, rfl, x, _, rfl, hx.ty, ?_⟩
        rw [hx.value]
        exact kR _ (Same.refl _)
      · have e1 : rs.map (fun d => V.bl (valueD d)) = (rs.map valueD).map V.bl := by rw [List.map_map]; rfl
        rw [e1] at hD
        refine ⟨D, _, rfl, SqL.of hD, _, rfl, ?_⟩
        have e2 : (rs.map valueD).all id = rs.all valueD := by rw [List.all_map]; rfl
        rw [e2]
        cases ht : rs.all valueD with
        | true =>
          rw [ht, if_pos rfl] at q
          exact iteF ⟨_, rfl, q H2 (s1.trans s2)⟩
        | false =>
          rw [ht, if_neg (by decide)] at q
          exact iteT (q H2 (s1.trans s2))
/-- a row's thing in tuples -/
def spAsRow (K : PySem.W.Frag) : Sp := fun vs H Q _ => ∃ (x : V) (d : PyData) (ws : List Int), vs = [x] ∧ Dq H x d ∧ rowW ws d = none ∧ ∀ (v : V) (H' : Hp), Same H H' → Dq H' v (rowT d) → Q v H'
def spStoreOf (K : PySem.W.Frag) : Sp := fun vs H Q _ => ∃ (l : Addr) (xs : List V) (ds : List PyData), vs = [.ref l] ∧ H l = some (.lst xs) ∧ DqAll H xs ds ∧ (∀ d ∈ ds, RowD d) ∧ ds.length < 64 ∧
  ∀ (v : V) (es : List PyData) (H' : Hp), Same H H' → IsStore ds es → Dq H' v (.tuple es) → Q v H'
theorem sc__as_row : FnScope ["row"] ["row"] (defScope (topS 19)) := ⟨rfl, rfl, rfl, by decide +kernel, rfl, by decide +kernel, by decide +kernel⟩
theorem ok__as_row {f : Addr} {fd : FuncData} (F : L2.Fun K "_as_row" "_as_row" (topS 19) f fd) (m_tuple : mg "tuple" = none) : FnOk P w K mg base CX0 1 f fd ["row"] (spAsRow K) := by
  refine F.ok sc__as_row (fun vs H Q E h => ?_) (fun cdv A outer s0 H vs Q E hr h => ?_)
  · obtain ⟨x, d, ws, rfl, _⟩ := h
    rfl
  · obtain ⟨x, d, ws, rfl, hd, good, q⟩ := h
    refine ⟨_, (pss_one (ps_ret (pe_tup (pa_cons (pe_ix ix_seq (pv 0) pe_int (fun _ _ => rfl)) (pa_cons (pe_callTy call_tuple_of (by rfl) m_tuple (by decide +kernel) (pa_cons (pe_ix ix_seq (pv 0) pe_int (fun _ _ => rfl)) pa_nil)) pa_nil))))), ?_⟩
    obtain ⟨t, r, rs, i, ed, e0, e1, er, rfl, k0, k1, k2, k3⟩ := row_seq good
    obtain ⟨a, xs, y, rfl, hs, hl, ey, hy⟩ := hd.item (i := 0) ed (by show 0 < 2; decide)
    obtain ⟨a', xs', y', ea, hs', hl', ey', hy'⟩ := hd.item (i := 1) ed (by show 1 < 2; decide)
    cases ea
    have same : xs' = xs := by
      rcases hs with z | z <;> rcases hs' with z' | z' <;> (rw [z] at z'; cases z'; try rfl)
    subst same
    rw [e0] at hy
    rw [e1] at hy'
    have eT : rowT d = .tuple [.int i, .tuple rs] := by unfold rowT; rw [e0, e1, itemsD_some er]
    rw [eT] at q
    cases hy
    obtain ⟨b, ys, rfl, hb, hall⟩ := hy'.seq er
    refine ⟨_, rfl, rd_ix (sqv_of hs) ey ?_⟩
    refine ⟨_, rfl, rd_ix (sqv_of hs) ey' ?_⟩
    have fin : ∀ (p : Addr) (H1 : Hp), Same H H1 → H1 p = some (.tup ys) → ∀ t, H1 t = none → Q (.ref t) (upd H1 t (.tup [.int i, .ref p])) := fun p H1 s1 hp t nt => by
      have st := same_upd (o := HO.tup [.int i, .ref p]) nt
      exact q _ _ (s1.trans st) (.tup upd_same (.cons (.int i) (.cons (.tup (st _ _ hp) (hall.keep (s1.trans st))) .nil)))
    have two : 2 ≤ sizeLine := by rw [sizeLine_eq]; omega
    rcases hb with hb | hb
    · exact ⟨b, ys, rfl, .inl ⟨SqL.of hb, fun p np => ⟨two, fun t nt => fin p _ (same_upd np) upd_same t nt⟩⟩⟩
    · exact ⟨b, ys, rfl, .inr ⟨SqT.of hb, two, fun t nt => fin b _ (Same.refl _) hb t nt⟩⟩
theorem sc_store_of : FnScope ["rows"] ["rows"] (defScope (topS 22)) := ⟨rfl, rfl, rfl, by decide +kernel, rfl, by decide +kernel, by decide +kernel⟩
theorem ok_store_of {f : Addr} {fd : FuncData} (F : L2.Fun K "store_of" "store_of" (topS 22) f fd) (m_tuple : mg "tuple" = none) (m_sorted : mg "sorted" = none) (m_set : mg "set" = none) : FnOk P w K mg base CX0 1 f fd ["rows"] (spStoreOf K) := by
  refine F.ok sc_store_of (fun vs H Q E h => ?_) (fun cdv A outer s0 H vs Q E hr h => ?_)
  · obtain ⟨l, xs, ds, rfl, _⟩ := h
    rfl
  · obtain ⟨l, xs, ds, rfl, hl, hx, rows, few, q⟩ := h
    refine ⟨_, (pss_one (ps_ret (pe_callTy call_tuple_of (by rfl) m_tuple (by decide +kernel) (pa_cons (pe_callB (cr_sortedS rfl (Nat.lt_of_le_of_lt (Nat.add_le_add_left (by decide) _) hr.units)) (by rfl) m_sorted (by decide +kernel) (pa_cons (pe_callTy (cr_setD rfl hr.units) (by rfl) m_set (by decide +kernel) (pa_cons (pv 0) pa_nil)) pa_nil)) pa_nil)))), ?_⟩
    obtain ⟨ks, rfl, rfl, hk⟩ := rows_at hx rows
    rw [List.length_map] at few
    have inS : ∀ (H1 : Hp), Same H H1 → ∀ m ∈ ks, InSet K H1 m := fun H1 s1 m hm => by
      obtain ⟨p1, p2, _⟩ := (rows m.2 (List.mem_map.mpr ⟨m, hm, rfl⟩)).pure
      exact ⟨dq_dp m.2 _ p1 ((hk m hm).keep s1), p1, p2⟩
    refine ⟨_, rfl, l, ks, rfl, SqL.of hl, inS H (Same.refl _), few, fun a L na sub all nd le => ?_⟩
    have sa := same_upd (o := SetD P w a L) na
    have rL : ∀ d ∈ L.map Prod.snd, RowD d := fun d m => by
      obtain ⟨m0, h0, rfl⟩ := List.mem_map.mp m
      exact rows _ (List.mem_map.mpr ⟨m0, sub m0 h0, rfl⟩)
    refine ⟨a, L, rfl, upd_same, fun m hm => inS _ sa m (sub m hm), (rows_alike rL).1, (rows_alike rL).2, fun M p pm ri np => ?_⟩
    refine ⟨p, _, rfl, .inl ⟨SqL.of upd_same, fun t nt => ?_⟩⟩
    have nt' : upd (upd H a (SetD P w a L)) p (HO.lst (M.map fun m => V.ref m.1)) t = none := nt
    have s2 := (sa.trans (same_upd (o := HO.lst (M.map fun m => V.ref m.1)) np)).trans (same_upd (o := HO.tup (M.map fun m => V.ref m.1)) nt')
    refine q _ (M.map Prod.snd) _ s2 ⟨List.pairwise_map.mpr ri, (pm.map Prod.snd).nodup_iff.mpr nd, by rw [List.length_map, List.length_map, pm.length_eq]; exact le, fun d => ?_⟩ (.tup upd_same (dqs_of M fun m hm => (hk m (sub m (pm.mem_iff.mp hm))).keep s2))
    rw [(pm.map Prod.snd).mem_iff]
    constructor
    · intro m
      obtain ⟨m0, h0, rfl⟩ := List.mem_map.mp m
      exact List.mem_map.mpr ⟨m0, sub m0 h0, rfl⟩
    · intro m
      obtain ⟨m0, h0, rfl⟩ := List.mem_map.mp m
      exact all m0 h0
end
end My
set_option Elab.async false
set_option linter.all false
set_option maxRecDepth 100000
set_option maxHeartbeats 4000000
namespace My
open PySem PySem.Spec PyProof.Rows L2

def Rw (B : Addr) (i : Int) (H : Hp) (E : XK) : Prop := ∀ (dd : Addr) (H' : Hp), Same H H' → H dd = none → H' dd = some (.xd [("index", .int i)]) → E (.ref B) (some dd) H'
def Rt (B : Addr) (w : Str) (H : Hp) (E : XK) : Prop := ∀ (dd : Addr) (H' : Hp), Same H H' → H dd = none → H' dd = some (.xd [("what", .str w)]) → E (.ref B) (some dd) H'
def Rs (B : Addr) (i : Int) (w : Str) (H : Hp) (E : XK) : Prop := ∀ (dd : Addr) (H' : Hp), Same H H' → H dd = none → H' dd = some (.xd [("what", .str w), ("index", .int i)]) → E (.ref B) (some dd) H'
theorem Rs.from {B : Addr} {w : Str} {i : Int} {H H1 : Hp} {E : XK} (h : Rs B i w H E) (s : Same H H1) : Rs B i w H1 E := fun dd H' s' n e => h dd H' (s.trans s') (s.free n) e
theorem rs_err {B : Addr} {w : Str} {i : Int} {H : Hp} {E : XK} (h : Rs B i w H E) : rErrF B ["index", "what"] [.int i, .str w] H fun cls d H' => E cls d H' :=
  ⟨rfl, (by show 2 ≤ 1000; decide), fun dd H' s n e => h dd H' s n e⟩
def spCheckRow (BW BR : Addr) (K : PySem.W.Frag) : Sp := fun vs H Q E => ∃ (x y : V) (dw d : PyData), vs = [x, y] ∧ Dq H x dw ∧ Dq H y d ∧ fewD d = true ∧
  ((∃ i, wResD dw = some i ∧ Rw BW i H E) ∨ (wResD dw = none ∧ ∃ w, rowW (wsOf dw) d = some w ∧ Rt BR w H E) ∨
   (wResD dw = none ∧ rowW (wsOf dw) d = none ∧ ∀ (v : V) (H' : Hp), Same H H' → Dq H' v (rowT d) → Q v H'))
/-- where a store is wrong, and how -/
def storeR (ws : List Int) (d : PyData) : Option (Int × Str) := if lenIn 0 60 d then (firstW (rowW ws) 0 (itemsD d)).map fun u => ((u.2 : Int), u.1) else some (0, "many")
def spCheckStore (BW BS : Addr) (K : PySem.W.Frag) : Sp := fun vs H Q E => ∃ (x y : V) (dw d : PyData), vs = [x, y] ∧ Dq H x dw ∧ Dq H y d ∧ fewD d = true ∧
  ((∃ i, wResD dw = some i ∧ Rw BW i H E) ∨ (wResD dw = none ∧ ∃ i w, storeR (wsOf dw) d = some (i, w) ∧ Rs BS i w H E) ∨
   (wResD dw = none ∧ storeR (wsOf dw) d = none ∧ ∀ (v : V) (es : List PyData) (H' : Hp), Same H H' → IsStore ((itemsD d).map rowT) es → Dq H' v (.tuple es) → Q v H'))
section
variable {P : Program} {w : World} {K : PySem.W.Frag} {mg : Str → Option Value} {base : Heap}
theorem sc_check_row : FnScope ["widths", "row", "what"] ["widths", "row"] (defScope (topS 20)) := ⟨rfl, rfl, rfl, by decide +kernel, rfl, by decide +kernel, by decide +kernel⟩
theorem ok_check_row {f : Addr} {fd : FuncData} {dvs : List V} (F : FunD K "check_row" "check_row" (defArgs (topS 20)) (defBody (topS 20)) (defScope (topS 20)) dvs [] f fd) {BW BR : Addr} (RBadRow : ErrF P w K mg base "BadRow" BR ["what"]) (cW : CalX P w K mg base 4 "check_widths" (spCheckW K BW)) (cF : Cal P w K mg base 5 "_fault_of_row" (spRowF K)) (cA : Cal P w K mg base 1 "_as_row" (spAsRow K)) : FnOk P w K mg base (L2N.CX P w) 6 f fd ["widths", "row"] (spCheckRow BW BR K) := by
  refine F.ok sc_check_row (fun vs H Q E h => ?_) (fun cdv A outer s0 H vs Q E hr h => ?_)
  · obtain ⟨x, y, dw, d, rfl, _⟩ := h
    rfl
  · obtain ⟨x, y, dw, d, rfl, hx, hd, few, q⟩ := h
    refine ⟨_, (pss_cons (ps_set (i := 2) sc_check_row.nd rfl (.inl rfl) (pe_c cF hr (by decide) rfl (pa_cons (pe_cX cW (L2N.takes_of rfl rfl rfl rfl) hr (by decide) rfl (pa_cons (pv 0) pa_nil)) (pa_cons (pv 1) pa_nil))))
      (pss_cons (ps_if (pt_cmpR op_notN (pv 2) pe_non (nomark _)) (pss_one (L2N.ps_raise rfl (L2N.takes_of rfl rfl rfl rfl) (pmk_errF RBadRow hr (by decide) (by rfl) (pa_cons (pv 2) pa_nil)))) pss_nil)
      (pss_one (ps_ret (pe_c cA hr (by decide) rfl (pa_cons (pv 1) pa_nil)))))), ?_⟩
    refine ⟨_, rfl, x, dw, rfl, hx, ?_⟩
    rcases q with ⟨i, ew, q⟩ | q
    · exact .inr ⟨i, ew, q⟩
    have ew : wResD dw = none := q.elim (fun z => z.1) fun z => z.1
    refine .inl ⟨ew, fun p H1 s1 hp => ?_⟩
    refine ⟨_, rfl, p, wsOf dw, y, d, rfl, SqT.of hp, hd.keep s1, (few_items (few_item few 1)).1, fun H2 s2 => ?_⟩
    have s02 := s1.trans s2
    rcases q with ⟨_, w, er, q⟩ | ⟨_, er, q⟩
    · rw [er]
      refine ⟨_, rfl, rfl, _, rfl, iteT ⟨_, rfl, rfl, (by show 1 ≤ 1000; decide), fun dd H3 s3 nd ed => ?_⟩⟩
      exact q dd H3 (s02.trans s3) (s02.free nd) ed
    · rw [er]
      refine ⟨_, rfl, rfl, _, rfl, iteF ?_⟩
      exact ⟨_, rfl, y, d, wsOf dw, rfl, hd.keep s02, er, fun v H3 s3 hv => q v H3 (s02.trans s3) hv⟩
theorem sc_check_store : FnScope ["widths", "rows", "tables", "index", "row", "what"] ["widths", "rows"] (defScope (topS 21)) := ⟨rfl, rfl, rfl, by decide +kernel, rfl, by decide +kernel, by decide +kernel⟩
theorem ok_check_store {f : Addr} {fd : FuncData} {dvs : List V} (F : FunD K "check_store" "check_store" (defArgs (topS 21)) (defBody (topS 21)) (defScope (topS 21)) dvs [] f fd) {BW BS : Addr} (RBadStore : ErrF P w K mg base "BadStore" BS ["index", "what"]) (cW : CalX P w K mg base 4 "check_widths" (spCheckW K BW)) (cs : Cal P w K mg base 2 "is_sequence_of" (spSeqOf K)) (cF : Cal P w K mg base 5 "_fault_of_row" (spRowF K)) (cA : Cal P w K mg base 1 "_as_row" (spAsRow K)) (cO : Cal P w K mg base 1 "store_of" (spStoreOf K)) (gMOST_ROWS : ∃ u, mg "MOST_ROWS" = some u ∧ RelV (.int 60) u) (m_enumerate : mg "enumerate" = none) : FnOk P w K mg base (L2N.CX P w) 6 f fd ["widths", "rows"] (spCheckStore BW BS K) := by
  refine F.ok sc_check_store (fun vs H Q E h => ?_) (fun cdv A outer s0 H vs Q E hr h => ?_)
  · obtain ⟨x, y, dw, d, rfl, _⟩ := h
    rfl
  · obtain ⟨x, y, dw, d, rfl, hx, hd, few, q⟩ := h
    refine ⟨_, (pss_cons (ps_set (i := 2) sc_check_store.nd rfl (.inl rfl) (pe_cX cW (L2N.takes_of rfl rfl rfl rfl) hr (by decide) rfl (pa_cons (pv 0) pa_nil)))
      (pss_cons (ps_if (pt_not (pt_val (pe_c cs hr (by decide) rfl (pa_cons (pv 1) (pa_cons pe_int (pa_cons (C8.pe_gc rfl gMOST_ROWS) pa_nil)))))) (pss_one (L2N.ps_raise rfl (L2N.takes_of rfl rfl rfl rfl) (pmk_errF RBadStore hr (by decide) (by rfl) (pa_cons pe_int (pa_cons pe_str pa_nil))))) pss_nil)
      (pss_cons (ps_for (passes_of rfl) rfl (pi_enumS (by rfl) m_enumerate (pa_cons (pv 1) pa_nil)) (pg_tup (by rfl) (pgs_cons (pg_name (i := 3) sc_check_store.nd rfl (.inl rfl)) (pgs_cons (pg_name (i := 4) sc_check_store.nd rfl (.inl rfl)) pgs_nil))) (pss_cons (ps_set (i := 5) sc_check_store.nd rfl (.inl rfl) (pe_c cF hr (by decide) rfl (pa_cons (pv 2) (pa_cons (pv 4) pa_nil)))) (pss_one (ps_if (pt_cmpR op_notN (pv 5) pe_non (nomark _)) (pss_one (L2N.ps_raise rfl (L2N.takes_of rfl rfl rfl rfl) (pmk_errF RBadStore hr (by decide) (by rfl) (pa_cons (pv 3) (pa_cons (pv 5) pa_nil))))) pss_nil))))
      (pss_one (ps_ret (pe_c cO hr (by decide) rfl (pa_cons (pe_lc (own := [("row", 4)]) (g := gName 4) (tt := tYes) rfl sc_check_store.nd (pi_seq (pv 1)) (blkOk_by (N := ["widths", "rows", "tables", "index", "row", "what"]) (sc := defScope (topS 21)) (by decide +kernel)) (fun _ _ _ _ _ => pg_name (i := 4) sc_check_store.nd rfl (Or.inl rfl)) (fun _ _ _ _ _ => pts_nil) (fun _ _ _ _ _ => (pe_c cA hr (by decide) rfl (pa_cons (pv 4) pa_nil)))) pa_nil))))))), ?_⟩
    refine ⟨_, rfl, x, dw, rfl, hx, ?_⟩
    rcases q with ⟨i, ew, q⟩ | q
    · exact .inr ⟨i, ew, q⟩
    have ew : wResD dw = none := q.elim (fun z => z.1) fun z => z.1
    obtain ⟨_, _, w6, w3⟩ := wsOf_good ew
    refine .inl ⟨ew, fun p H1 s1 hp => ?_⟩
    have bad : ∀ (i : Int) (w : Str) (H2 : Hp), Same H H2 → storeR (wsOf dw) d = some (i, w) → Rs BS i w H2 E := fun i w H2 s2 e => by
      rcases q with ⟨_, i', w', z, q⟩ | ⟨_, z, _⟩
      · rw [z] at e
        cases e
        exact q.from s2
      · rw [z] at e; cases e
    refine ⟨_, rfl, y, d, 0, 60, rfl, hd.keep s1, fun H2 s2 => ⟨_, rfl, ?_⟩⟩
    have s02 := s1.trans s2
    cases hl : lenIn 0 60 d with
    | false => exact iteT (rs_err (bad 0 "many" H2 s02 (by unfold storeR; rw [hl]; rfl)))
    | true =>
      refine iteF ?_
      obtain ⟨ds, ed, ei⟩ := lenIn_seq hl
      have l60 : ds.length ≤ 60 := by
        unfold lenIn at hl
        rw [ed] at hl
        have z2 := of_decide_eq_true (Bool.and_eq_true_iff.mp hl).2
        omega
      have eR : storeR (wsOf dw) d = (firstW (rowW (wsOf dw)) 0 ds).map fun u => ((u.2 : Int), u.1) := by unfold storeR; rw [hl, ei]; rfl
      obtain ⟨_, few2⟩ := few_items few
      rw [ei] at few2
      obtain ⟨a, xs, rfl, ha, hall⟩ := (hd.keep s02).seq ed
      have hpT : ∀ H3, Same H2 H3 → SqT K H3 p ((wsOf dw).map V.int) := fun H3 s3 => SqT.of (s3 _ _ (s2 _ _ hp))
      refine forFirst (K := K) (rowW (wsOf dw)) (fun σ => ∃ v1 v2 v3, σ = [some x, some (.ref a), some (.ref p), v1, v2, v3]) ⟨none, none, none, rfl⟩ (fun R h => ⟨_, rfl, h⟩) (sqv_of ha) hall ?_ ?_
      · rintro i z t _ H3 T N ⟨v1, v2, v3, rfl⟩ s3 nT m hz go stop
        have sT := same_upd (o := HO.tup [V.int (i : Nat), z]) nT
        refine ⟨T, [.int (i : Nat), z], rfl, SqT.of upd_same, rfl, _, _, rfl, _, _, rfl, rfl, ?_⟩
        generalize eJ : upd H3 T _ = J
        rw [eJ] at sT
        clear eJ
        refine ⟨_, rfl, _, rfl, p, wsOf dw, z, t, rfl, hpT _ (s3.trans sT), hz.keep sT, (few_items (few_item (few2 t m) 1)).1, fun H4 s4 => ?_⟩
        cases hw : rowW (wsOf dw) t with
        | none => exact ⟨_, rfl, rfl, _, rfl, iteF (go hw _ _ ⟨_, _, _, rfl⟩ (sT.trans s4))⟩
        | some w =>
          refine ⟨_, rfl, rfl, _, rfl, iteT ⟨_, rfl, _, rfl, ?_⟩⟩
          exact rs_err (bad i w _ (s02.trans ((s3.trans sT).trans s4)) (by rw [eR, stop w hw]; rfl))
      · rintro e _ H3 ⟨v1, v2, v3, rfl⟩ s3
        have good := firstW_none e
        rw [e] at eR
        rcases q with ⟨_, i, w, z, _⟩ | ⟨_, _, q⟩
        · rw [z] at eR; cases eR
        · rw [ei] at q
          have rows : ∀ r ∈ ds, RowD (rowT r) := fun r m => row_good (good r m) fun w mw => (w3 w mw).2
          dsimp only [tRet, tCall, tCons, tNil]
          refine lcQd (K := K) rowT (fun R h => ⟨_, rfl, h⟩) ((sqv_of ha).imp (fun z => s3.seq z) fun z => seqT_keep z s3) (hall.keep s3) (by omega) (fun r m => (rows r m).pure.2.2) (fun z t H4 R N m s4 hz kR => ?_) fun D ys H4 s4 nD hD hys => ?_
          · refine ⟨rfl, ?_⟩
            rw [if_pos rfl]
            exact ⟨_, rfl, z, t, wsOf dw, rfl, hz, good t m, fun v H5 s5 hv => kR v H5 s5 hv⟩
          · refine ⟨D, ys, ds.map rowT, rfl, hD, hys, fun r m => ?_, by rw [List.length_map]; omega, fun v es H5 s5 st hv => q v es H5 ((s02.trans (s3.trans s4)).trans s5) st hv⟩
            obtain ⟨r0, m0, rfl⟩ := List.mem_map.mp m
            exact rows r0 m0
end
end My
set_option Elab.async false
set_option linter.all false
set_option maxRecDepth 100000
set_option maxHeartbeats 4000000
namespace My
open PySem PySem.Spec PyProof.Rows L2
/-! ### a set comprehension of two clauses, the second with tests: whole numbers -/
theorem turnA (elt t0 i0 t1 i1 : Expr) (ifs1 : List Expr) (scope : Scope) (pos : Pos) (it acc : Value) (env : Env) :
    compTurn (.SetComp elt [⟨t0, i0, [], 0⟩, ⟨t1, i1, ifs1, 0⟩] scope pos) 0 it acc env = (do
      standAt i0.pos
      match ← pyNext it with
      | none => pure (.done .next)
      | some v =>
        letOwnedTupleGo t0 it v
        assign t0 env v
        let x ← eval i1 env
        standAt i1.pos
        let x ← foldedSetIterable i1 env x
        let _ ← runOwn (.compStart (.SetComp elt [⟨t0, i0, [], 0⟩, ⟨t1, i1, ifs1, 0⟩] scope pos) 1 (← holding [x] (pyIter x)) acc env) env
        again (.compLoop (.SetComp elt [⟨t0, i0, [], 0⟩, ⟨t1, i1, ifs1, 0⟩] scope pos) 0 it acc env)) := by rfl
theorem turnB (elt t0 i0 t1 i1 : Expr) (ifs1 : List Expr) (scope : Scope) (pos : Pos) (it acc : Value) (env : Env) :
    compTurn (.SetComp elt [⟨t0, i0, [], 0⟩, ⟨t1, i1, ifs1, 0⟩] scope pos) 1 it acc env = (do
      standAt i1.pos
      match ← pyNext it with
      | none => pure (.done .next)
      | some v =>
        letOwnedTupleGo t1 it v
        assign t1 env v
        let mut ok := true
        for c in ifs1 do
          if ok then ok ← isTrue c env (eval c env)
        if ok then
          (do let v ← eval elt env; standAt elt.pos; let _ ← call (.builtin "set.add") [acc, v])
        again (.compLoop (.SetComp elt [⟨t0, i0, [], 0⟩, ⟨t1, i1, ifs1, 0⟩] scope pos) 1 it acc env)) := by rfl
section
variable {prog : Program} {w : World} {A : Around} {R : Result → Shared → Prop} {s : Shared} {elt t0 i0 t1 i1 : Expr} {ifs1 : List Expr} {scope : Scope} {pos : Pos} {it acc : Value} {env : Env}
abbrev Nt (prog : Program) (w : World) (A : Around) (env : Env) (R : Result → Shared → Prop) : Value → Shared → Prop := notedBy (model prog w) A env fun e s' => R (.error e) s'
theorem loopA (plain : ∀ x, foldedSetIterable i1 env x = pure x) (I : Nat → Shared → Prop)
    (turn : ∀ n s, I n s → wpAny (model prog w) A (pyNext it) (fun r u => match r with
      | none => R (.ok .next) u
      | some v => wpAny (model prog w) A (letOwnedTupleGo t0 it v) (fun _ u1 => wpAny (model prog w) A (assign t0 env v) (fun _ u2 =>
          wpAny (model prog w) A (eval i1 env) (fun x u3 => wpAny (model prog w) A (pyIter x) (fun it1 u4 =>
              codeAny (model prog w) A (.compStart (.SetComp elt [⟨t0, i0, [], 0⟩, ⟨t1, i1, ifs1, 0⟩] scope pos) 1 it1 acc env) (fun r s' => match r with
                | .ok _ => ∃ m, m < n ∧ I m s'
                | .error _ => False) u4) (Nt prog w A env R) u3) (Nt prog w A env R) u2) (Nt prog w A env R) u1) (Nt prog w A env R) u) (Nt prog w A env R) s)
    (n : Nat) (h : I n s) :
    codeAny (model prog w) A (.compLoop (.SetComp elt [⟨t0, i0, [], 0⟩, ⟨t1, i1, ifs1, 0⟩] scope pos) 0 it acc env) R s := by
  refine codeAny_loop rfl I (fun n s hI => ?_) n h
  show wpAny _ A ((compTurn (.SetComp elt [⟨t0, i0, [], 0⟩, ⟨t1, i1, ifs1, 0⟩] scope pos) 0 it acc env).onRaise (fun x => do noteFrame x env; theTreesLotGoes x)) _ _ s
  refine wpAny_noted ?_
  rw [turnA]
  refine wpAny_bind (wpAny_standAt (wpAny_bind (wpAny_mono (turn n s hI) (fun r u k => ?_) fun _ _ z => z)))
  cases r with
  | none => exact wpAny_pure k
  | some v =>
    refine wpAny_bind (wpAny_mono k (fun _ u1 k1 => ?_) fun _ _ z => z)
    refine wpAny_bind (wpAny_mono k1 (fun _ u2 k2 => ?_) fun _ _ z => z)
    refine wpAny_bind (wpAny_mono k2 (fun x u3 k3 => ?_) fun _ _ z => z)
    refine wpAny_bind (wpAny_standAt (wpAny_bind (wpAny_of_eq (plain x) (wpAny_bind (wpAny_holding (wpAny_mono k3 (fun it1 u4 k4 => ?_) fun _ _ z => z))))))
    refine wpAny_bind (wpAny_runOwn ?_)
    rw [Around.mark_none]
    refine codeAny_mono k4 fun r s' hr => ?_
    cases r with
    | ok f =>
      first
        | exact wpAny_pure ⟨rfl, hr⟩
        | exact wpAny_bind (wpAny_pure (wpAny_pure ⟨rfl, hr⟩))
    | error e => exact hr.elim
theorem loopB (I : Nat → Shared → Prop)
    (turn : ∀ n s, I n s → wpAny (model prog w) A (pyNext it) (fun r u => match r with
      | none => R (.ok .next) u
      | some v => wpAny (model prog w) A (letOwnedTupleGo t1 it v) (fun _ u1 => wpAny (model prog w) A (assign t1 env v) (fun _ u2 =>
          wpAny (model prog w) A (forIn ifs1 true fun c r => if r = true then do let ok ← isTrue c env (eval c env); pure (ForInStep.yield ok) else pure (ForInStep.yield r)) (fun ok u3 =>
            if ok = true then wpAny (model prog w) A (eval elt env) (fun x u4 =>
              wpAny (model prog w) A (call (.builtin "set.add") [acc, x]) (fun _ u5 => ∃ m, m < n ∧ I m u5) (Nt prog w A env R) u4) (Nt prog w A env R) u3
            else ∃ m, m < n ∧ I m u3) (Nt prog w A env R) u2) (Nt prog w A env R) u1) (Nt prog w A env R) u) (Nt prog w A env R) s)
    (n : Nat) (h : I n s) :
    codeAny (model prog w) A (.compLoop (.SetComp elt [⟨t0, i0, [], 0⟩, ⟨t1, i1, ifs1, 0⟩] scope pos) 1 it acc env) R s := by
  refine codeAny_loop rfl I (fun n s hI => ?_) n h
  show wpAny _ A ((compTurn (.SetComp elt [⟨t0, i0, [], 0⟩, ⟨t1, i1, ifs1, 0⟩] scope pos) 1 it acc env).onRaise (fun x => do noteFrame x env; theTreesLotGoes x)) _ _ s
  refine wpAny_noted ?_
  rw [turnB]
  refine wpAny_bind (wpAny_standAt (wpAny_bind (wpAny_mono (turn n s hI) (fun r u k => ?_) fun _ _ z => z)))
  cases r with
  | none => exact wpAny_pure k
  | some v =>
    refine wpAny_bind (wpAny_mono k (fun _ u1 k1 => ?_) fun _ _ z => z)
    refine wpAny_bind (wpAny_mono k1 (fun _ u2 k2 => wpAny_bind (wpAny_mono k2 (fun ok u3 k3 => ?_) fun _ _ z => z)) fun _ _ z => z)
    cases ok with
    | false => exact wpAny_pure ⟨rfl, k3⟩
    | true => exact wpAny_bind (wpAny_bind (wpAny_mono k3 (fun x u4 k4 => wpAny_bind (wpAny_standAt (wpAny_bind (wpAny_mono k4 (fun _ u5 k5 => wpAny_pure (wpAny_pure ⟨rfl, k5⟩)) fun _ _ z => z)))) fun _ _ z => z))
theorem startB (h0 : codeAny (model prog w) A (.compLoop (.SetComp elt [⟨t0, i0, [], 0⟩, ⟨t1, i1, ifs1, 0⟩] scope pos) 1 it acc env) R s)
    (h : wpAny (model prog w) A (pyIter it) (fun it' s' => codeAny (model prog w) A (.compLoop (.SetComp elt [⟨t0, i0, [], 0⟩, ⟨t1, i1, ifs1, 0⟩] scope pos) 1 it' acc env) R s') (Nt prog w A env R) s) :
    codeAny (model prog w) A (.compStart (.SetComp elt [⟨t0, i0, [], 0⟩, ⟨t1, i1, ifs1, 0⟩] scope pos) 1 it acc env) R s := by
  refine codeAny_of_tree ?_
  show wpAny _ _ ((compStart (.SetComp elt [⟨t0, i0, [], 0⟩, ⟨t1, i1, ifs1, 0⟩] scope pos) 1 it acc env).onRaise (fun x => do noteFrame x env; standAt theWindowsPlace)) _ _ s
  refine wpAny_notedAt ?_
  unfold compStart
  show wpAny _ _ (ask >>= _) _ _ s
  refine wpAny_bind (wpAny_askSetting (wpAny_ite ?_))
  split
  · first
      | exact wpAny_bind (wpAny_pure (wpAny_pure ⟨rfl, h0⟩))
      | exact wpAny_pure ⟨rfl, h0⟩
  · first
      | exact wpAny_bind (wpAny_rule (wpAny_bind (wpAny_standAt (wpAny_bind (wpAny_mono h (fun it' s' k => wpAny_pure ⟨rfl, k⟩) fun _ _ x => x)))))
      | (refine wpAny_bind (wpAny_rule ?_); show wpAny _ _ (standAt i1.pos >>= _) _ _ s; exact wpAny_bind (wpAny_standAt (wpAny_bind (wpAny_mono h (fun it' s' k => wpAny_pure ⟨rfl, k⟩) fun _ _ x => x))))
end
section
variable {X : Cx}
theorem putIn {pins : List (Addr × Obj)} {σ : L2.St} {H : Hp} {s : Shared} {E : Value → Shared → Prop} {D : Addr} {S : Int → Bool} {n : Nat} {k : Int} {t : Tok} {Q : Value → Shared → Prop} (I : Inv X pins σ H s) (hD : H D = some (SetO X.w D S n)) (room : n + 1 < scanBound)
    (h : ∀ s', Inv X pins σ (upd H D (SetO X.w D (fun j => S j || decide (j = k)) (if S k = true then n else n + 1))) s' → Q .none s') : wpAny (model X.prog X.w) X.A (call (.builtin "set.add") [.ref D, .int k t]) Q E s := by
  refine setR_add (setO_get I hD) room fun h' sb new => ?_
  have there : ∃ u, h'.get? D = some u := by
    have ⟨o, _, _, _, e, _⟩ := new
    exact ⟨o, e⟩
  exact h _ (I.write (e := D) (t' := s.toks + 1) (by rw [hD]; trivial) (.inl rfl) (fun b u hb hu => (sb.2 b hb).trans hu) there (setO_new new))
/-- {elt for tg in iter for tg1 in iter1 if ..} -/
def tSc2 (w : World) (wi : TI) (g : TG) (wi1 : TI) (g1 : TG) (tt1 : TT) (te : TE) (vs vs1 : List Nat) : TE := fun σ H Q => wi σ H fun J H1 => ∀ D, H1 D = none → ∃ W : Nat → Nat → Hp → Prop, (∃ m, W 0 m (upd H1 D (SetO w D (fun _ => false) 0))) ∧ ∀ i m H, W i m H →
  (J.stop i H ∧ Q (.ref D) H) ∨ (J.go i H ∧ ∃ Nx : Hp → Prop, (∀ H', Nx H' → ∃ m', m' < m ∧ W (i + 1) m' H') ∧ ∀ x H', J.yld i H x H' → g x (wipe σ vs) H' fun σ2 H2 => wipe σ2 vs = wipe σ vs ∧
    wi1 σ2 H2 fun J1 H4 => ∃ W1 : Nat → Nat → Hp → Prop, (∃ m, W1 0 m H4) ∧ ∀ j k H, W1 j k H →
      (J1.stop j H ∧ Nx H) ∨ (J1.go j H ∧ ∃ Nx1 : Hp → Prop, (∀ H', Nx1 H' → ∃ k', k' < k ∧ W1 (j + 1) k' H') ∧ ∀ x H', J1.yld j H x H' → g1 x (wipe σ2 vs1) H' fun σ3 H5 => wipe σ3 vs1 = wipe σ2 vs1 ∧ tt1 σ3 H5 fun b H6 =>
        if b = true then te σ3 H6 fun y H7 => ∃ (c : Int) (S : Int → Bool) (n : Nat), y = .int c ∧ H7 D = some (SetO w D S n) ∧ n + 1 < scanBound ∧ Nx1 (upd H7 D (SetO w D (fun j => S j || decide (j = c)) (if S c = true then n else n + 1))) else Nx1 H6))
theorem pe_sc2 {elt tg iter tg1 iter1 : Expr} {ifs1 : List Expr} {scope : Scope} {own : List (Str × Nat)} {vs1 : List Nat} {pos : Pos} {wi wi1 : TI} {g g1 : TG} {tt1 : TT} {te : TE} (calm : X.calm = true) (nd : X.N.Nodup) (hi : PI X tg iter wi) (ok : BlkOk X.N X.env.scope scope own) (hv : ∀ i ∈ vs1, i ∈ own.map (·.2))
    (hg : ∀ (t : Shared) (G : Hp) (C : Addr) (cl : List (Str × Addr)) (fp : List Addr), PG (X.blk t G scope (compEnvC scope cl C X.env) fp) tg g)
    (hi1 : ∀ (t : Shared) (G : Hp) (C : Addr) (cl : List (Str × Addr)) (fp : List Addr), PI (X.blk t G scope (compEnvC scope cl C X.env) fp) tg1 iter1 wi1)
    (hg1 : ∀ (t : Shared) (G : Hp) (C : Addr) (cl : List (Str × Addr)) (fp : List Addr), PG (X.blk t G scope (compEnvC scope cl C X.env) fp) tg1 g1) (ht1 : ∀ (t : Shared) (G : Hp) (C : Addr) (cl : List (Str × Addr)) (fp : List Addr), PTs (X.blk t G scope (compEnvC scope cl C X.env) fp) ifs1 tt1)
    (he : ∀ (t : Shared) (G : Hp) (C : Addr) (cl : List (Str × Addr)) (fp : List Addr), PE (X.blk t G scope (compEnvC scope cl C X.env) fp) elt te) (plain : ∀ x, foldedSetIterable iter X.env x = pure x := by intro _; rfl) (plain1 : ∀ env x, foldedSetIterable iter1 env x = pure x := by intro _ _; rfl) :
    PE X (.SetComp elt [⟨tg, iter, [], 0⟩, ⟨tg1, iter1, ifs1, 0⟩] scope pos) (tSc2 X.w wi g wi1 g1 tt1 te (own.map (·.2)) vs1) := by
  refine ⟨fun pins s σ H Q I h => ?_⟩
  rw [PpSet.eval_SetComp]
  suffices core : ∀ (Qf : Value → Shared → Prop), (∀ D C s' m H', Inv X pins σ H' s' → Q (.ref D) H' → s'.heap.Ns C m → FpOk X pins H' C → compPost (model X.prog X.w) X.A X.xe none Qf (.ref D) C (.ok .next) s') →
      wpAny (model X.prog X.w) X.A (comprehension (.SetComp elt [⟨tg, iter, [], 0⟩, ⟨tg1, iter1, ifs1, 0⟩] scope pos) scope X.env (firstIterPos [⟨tg, iter, [], 0⟩, ⟨tg1, iter1, ifs1, 0⟩] pos) (newSet (.type "set")) false (eval iter X.env)) Qf X.xe s by
    refine core _ fun D C s' m H' I' q hn f => ⟨m, hn, fun g sb => ?_⟩
    obtain ⟨f0, f1, f2, f3, f4, f5⟩ := f
    exact ⟨.ref D, H', I'.turned (t' := s'.toks) (fun b o hb e => (sb.2 b hb).trans e) f0 f1 f3 f4 f5, rfl, q⟩
  intro Qf done
  have frees : ∀ y ∈ scope.names, y.2 = .free → ∃ c, X.env.cells.lookup y.1 = some c := fun y my ey => I.ok.has _ ((ok.free y my ey).imp id id)
  refine wpAny_comprehension_free (use := none) rfl plain (closure_ok frees) ok.kind (fun y my ey => by rw [ok.uniq y my, ey])
    (thn (hi.run pins s σ H _ I h) fun _ t1 h1 => thn h1 fun _ t2 ⟨it, fp, tn, J, H2, eit, I2, T, at0, fps, q⟩ => ?_)
  subst eit
  refine PpSet.newSet_ok (newEnv_comp ?_)
  obtain ⟨D, eD⟩ : ∃ D, D = t2.heap.objs.size := ⟨_, rfl⟩
  have freshD : H2 D = none := I2.hok.fresh (by rw [eD]; exact Nat.le_refl _)
  obtain ⟨W, ⟨m0, w0⟩, turn⟩ := q D freshD
  rw [← eD]
  obtain ⟨t3, et3⟩ : ∃ t3 : Shared, t3 = { t2 with heap := t2.heap.push { cls := .type "set", dict := none, data := .set #[] 0 (.fresh 0 0 (!X.w.params.followText "set-order")) } } := ⟨_, rfl⟩
  have I3 : Inv X pins σ (upd H2 D (SetO X.w D (fun _ => false) 0)) t3 := by
    rw [et3]
    refine I2.laid (t' := t2.toks) (fun b o e => Heap.get?_push_of_some _ e) (by rw [eD]; exact Nat.le_refl _) ?_
    rw [eD]
    exact setO_new (setR_fresh X.w)
  have h3 : t3.heap = t2.heap.push { cls := .type "set", dict := none, data := .set #[] 0 (.fresh 0 0 (!X.w.params.followText "set-order")) } := by rw [et3]
  have older : ∀ b ∈ fp, b < t2.heap.objs.size := fun b mb => (T.obj _ _ at0 b mb).elim fun o e => Heap.lt_size e.1
  have fps3 : ∀ b ∈ fp, FpOk X pins (upd H2 D (SetO X.w D (fun _ => false) 0)) b ∧ b < t3.heap.objs.size := fun b mb => by
    have lt := older b mb
    refine ⟨⟨?_, (fps b mb).2⟩, by rw [h3, Heap.size_push]; exact Nat.lt_succ_of_lt lt⟩
    rw [upd_ne (by rw [eD]; exact Nat.ne_of_lt lt)]
    exact (fps b mb).1
  have at3 : tn 0 t3.heap := T.keep _ _ _ at0 fun b _ o e => by
    rw [h3]
    exact Heap.get?_push_of_some _ e
  have IB := block_start I3 ok nd fps3
  have qg := hg t3 (upd H2 D (SetO X.w D (fun _ => false) 0)) t3.heap.objs.size (cellsFrom (t3.heap.objs.size + 1) scope.names (cloFrom X.env.cells scope.names [])) fp
  have qe := he t3 (upd H2 D (SetO X.w D (fun _ => false) 0)) t3.heap.objs.size (cellsFrom (t3.heap.objs.size + 1) scope.names (cloFrom X.env.cells scope.names [])) fp
  have qi1 := hi1 t3 (upd H2 D (SetO X.w D (fun _ => false) 0)) t3.heap.objs.size (cellsFrom (t3.heap.objs.size + 1) scope.names (cloFrom X.env.cells scope.names [])) fp
  have qg1 := hg1 t3 (upd H2 D (SetO X.w D (fun _ => false) 0)) t3.heap.objs.size (cellsFrom (t3.heap.objs.size + 1) scope.names (cloFrom X.env.cells scope.names [])) fp
  have qt1 := ht1 t3 (upd H2 D (SetO X.w D (fun _ => false) 0)) t3.heap.objs.size (cellsFrom (t3.heap.objs.size + 1) scope.names (cloFrom X.env.cells scope.names [])) fp
  rw [← h3]
  show codeAny _ _ (.compStart (.SetComp elt [⟨tg, iter, [], 0⟩, ⟨tg1, iter1, ifs1, 0⟩] scope pos) 0 (.ref it) (.ref D) (compEnvC scope (cellsFrom (t3.heap.objs.size + 1) scope.names (cloFrom X.env.cells scope.names [])) t3.heap.objs.size X.env)) (compPost (model X.prog X.w) X.A X.xe none Qf (.ref D) t3.heap.objs.size) { t2 with heap := pushCells (t3.heap.push { cls := .type "dict", data := .dict #[] }) scope.names }
  have et4 : ({ t2 with heap := pushCells (t3.heap.push { cls := .type "dict", data := .dict #[] }) scope.names } : Shared) = { t3 with heap := pushCells (t3.heap.push { cls := .type "dict", data := .dict #[] }) scope.names } := by rw [et3]
  rw [et4]
  clear et4
  have clr : ∀ b ∈ fp, (upd H2 D (SetO X.w D (fun _ => false) 0)) b = none := fun b mb => (fps3 b mb).1.1
  generalize ece : compEnvC scope (cellsFrom (t3.heap.objs.size + 1) scope.names (cloFrom X.env.cells scope.names [])) t3.heap.objs.size X.env = ce at IB qg qe qi1 qg1 qt1 ⊢
  have cL : ce.locals = t3.heap.objs.size := by subst ece; rfl
  generalize eH3 : upd H2 D (SetO X.w D (fun _ => false) 0) = H3 at I3 IB qg qe qi1 qg1 qt1 w0 clr fps3
  generalize e4 : ({ t3 with heap := pushCells (t3.heap.push { cls := .type "dict", data := .dict #[] }) scope.names } : Shared) = t4 at IB ⊢
  have at4 : tn 0 t4.heap := T.keep _ _ _ at3 fun b _ o e => by rw [← e4]; exact pushCells_keeps _ _ _ _ (Heap.get?_push_of_some _ e)
  have still : ∀ {σ' : L2.St} {H' : Hp} {s' : Shared}, Inv (X.blk t3 H3 scope ce fp) [] σ' H' s' → (∀ b ∈ fp, H' b = none) → ∀ b ∈ fp, FpOk (X.blk t3 H3 scope ce fp) [] H' b := fun {σ' H' s'} I' n b mb =>
    ⟨n b mb, (I'.ok.exf b mb).1, I'.ok.exfs b mb, .inl mb, fun x c e => (I'.ok.exf b mb).2 x c e, fun p hp => absurd (show p ∈ ([] : List (Addr × Obj)) ++ [] from hp) (by simp)⟩
  let Vs := own.map (·.2)
  let Keeps : Nat → Shared → Prop := fun n s' => ∃ i H', Inv (X.blk t3 H3 scope ce fp) [] (wipe σ Vs) H' s' ∧ tn i s'.heap ∧ (∀ b ∈ fp, H' b = none) ∧ W i n H'
  have loop : codeAny (model X.prog X.w) X.A (.compLoop (.SetComp elt [⟨tg, iter, [], 0⟩, ⟨tg1, iter1, ifs1, 0⟩] scope pos) 0 (.ref it) (.ref D) ce) (compPost (model X.prog X.w) X.A X.xe none Qf (.ref D) t3.heap.objs.size) t4 := by
    refine loopA (plain1 ce) Keeps ?_ m0 ⟨0, H3, IB, at4, clr, w0⟩
    rintro n t5 ⟨i, H5, I5, at5, n5, w5⟩
    rcases turn i n H5 w5 with ⟨stop, qq⟩ | ⟨go, Nx, nxt, step⟩
    · refine thnF (T.done (X.blk t3 H3 scope ce fp) rfl rfl rfl calm i [] t5 _ H5 (fun _ _ => False) I5 (still I5 n5) at5 stop) fun r t6 ⟨hr, I6⟩ => ?_
      subst hr
      have I7 : Inv X pins σ H5 t6 := I3.call' (ch := fp) I6.os I6.base I6.hok I6.bare fun b mb => ⟨(fps3 b mb).1.2.2.2.1, (fps3 b mb).1.2.1, (fps3 b mb).1.2.2.2.2.1, (fps3 b mb).1.2.2.2.2.2⟩
      have nC : H5 t3.heap.objs.size = none := by
        have z : H5 ce.locals = none := I6.free
        rw [cL] at z
        exact z
      obtain ⟨m, hn, _⟩ := I6.loc
      have hn : t6.heap.Ns ce.locals m := hn
      rw [cL] at hn
      exact done D _ t6 m H5 I7 qq hn (I3.fpOk (Nat.le_refl _) nC)
    · refine thnF (T.item (X.blk t3 H3 scope ce fp) rfl rfl rfl calm i [] t5 _ H5 (fun _ _ => False) I5 (still I5 n5) at5 go) fun r t6 ⟨u, hr, h6⟩ => ?_
      subst hr
      refine thnF h6 fun _ t7 ⟨x, H7, I7, r7, y7, at7, n7⟩ => ?_
      have I7' := I7.pinned (still I7 n7) (T.obj _ _ at7)
      refine thnF (qg.run _ t7 _ H7 x u _ I7' r7 (step x H7 y7)) fun _ t8 ⟨σ8, H8, I8, hw8, q8⟩ => ?_
      have fin : ∀ {σ9 : L2.St} {s' : Shared} {H' : Hp}, Inv (X.blk t3 H3 scope ce fp) ([] ++ pinsAt fp t7.heap) σ9 H' s' → (wipe σ Vs).length = σ9.length → (∀ (j : Nat) v, (wipe σ Vs)[j]? = some (some v) → σ9[j]? = some (some v)) → Nx H' → ∃ m, m < n ∧ Keeps m s' := fun {σ9 s' H'} I' hl hk nx => by
        obtain ⟨m', hm, w'⟩ := nxt H' nx
        have pin' : ∀ b ∈ fp, ∀ o, t7.heap.get? b = some o → s'.heap.get? b = some o ∧ H' b = none := fun b mb o e =>
          let z := I'.pin (b, o) (List.mem_append_right _ (List.mem_append_right _ (mem_pinsAt mb e)))
          ⟨z.1, z.2.1⟩
        refine ⟨m', hm, i + 1, H', (I'.unpinned (pins := [])).weak hl hk, T.keep _ _ _ at7 fun b mb o e => (pin' b mb o e).1, fun b mb => ?_, w'⟩
        obtain ⟨o, e, _⟩ := T.obj _ _ at7 b mb
        exact (pin' b mb o e).2
      have hl8 : (wipe σ Vs).length = σ8.length := by rw [← hw8, wipe_length]
      have hk9 : ∀ (j : Nat) v, (wipe σ Vs)[j]? = some (some v) → (wipe σ8 vs1)[j]? = some (some v) := fun j v e => by
        rw [← hw8] at e
        obtain ⟨e1, e2⟩ := wipe_some e
        rw [wipe_out fun z => e2 (hv j z)]
        exact e1
      refine thnF (qi1.run _ t8 σ8 H8 _ I8 q8) fun xv t10 hx => thnF hx fun itv t11 ⟨it1, fp1, tn1, J1, H11, e1, I11, T1, at11, f11, W1, ⟨m1, w1⟩, turn1⟩ => ?_
      subst e1
      have still1 : ∀ {H' : Hp}, (∀ b ∈ fp1, H' b = none) → ∀ b ∈ fp1, FpOk (X.blk t3 H3 scope ce fp) ([] ++ pinsAt fp t7.heap) H' b := fun hn b mb => ⟨hn b mb, (f11 b mb).2⟩
      have inner : codeAny (model X.prog X.w) X.A (.compLoop (.SetComp elt [⟨tg, iter, [], 0⟩, ⟨tg1, iter1, ifs1, 0⟩] scope pos) 1 (.ref it1) (.ref D) ce)
          (fun r s' => match r with
            | .ok _ => ∃ m, m < n ∧ Keeps m s'
            | .error _ => False) t11 := by
        refine loopB (fun k s' => ∃ j H', Inv (X.blk t3 H3 scope ce fp) ([] ++ pinsAt fp t7.heap) (wipe σ8 vs1) H' s' ∧ tn1 j s'.heap ∧ (∀ b ∈ fp1, H' b = none) ∧ W1 j k H') ?_ m1 ⟨0, H11, I11.weak (wipe_length _ _) (fun j v e => (wipe_some e).1), at11, fun b mb => (f11 b mb).1, w1⟩
        rintro k t12 ⟨j, H12, I12, at12, n12, w12⟩
        rcases turn1 j k H12 w12 with ⟨stop1, nx1⟩ | ⟨go1, Nx1, nxt1, step1⟩
        · refine thnF (T1.done (X.blk t3 H3 scope ce fp) rfl rfl rfl calm j _ t12 (wipe σ8 vs1) H12 (fun _ _ => False) I12 (still1 n12) at12 stop1) fun r t13 ⟨hr, I13⟩ => ?_
          subst hr
          exact fin I13 (hl8.trans (wipe_length σ8 vs1).symm) hk9 nx1
        · refine thnF (T1.item (X.blk t3 H3 scope ce fp) rfl rfl rfl calm j _ t12 (wipe σ8 vs1) H12 (fun _ _ => False) I12 (still1 n12) at12 go1) fun r t13 ⟨u1, hr, h13⟩ => ?_
          subst hr
          refine thnF h13 fun _ t14 ⟨x1, H14, I14, r14, y14, at14, n14⟩ => ?_
          have I14' := I14.pinned (still1 n14) (T1.obj _ _ at14)
          refine thnF (qg1.run _ t14 (wipe σ8 vs1) H14 x1 u1 _ I14' r14 (step1 x1 H14 y14)) fun _ t15 ⟨σ15, H15, I15, hw15, q15⟩ => ?_
          refine thnF (qt1.run _ t15 σ15 H15 _ I15 q15) fun b1 t16 ⟨H16, I16, q16⟩ => ?_
          have fin1 : ∀ {s' : Shared} {H' : Hp}, Inv (X.blk t3 H3 scope ce fp) (([] ++ pinsAt fp t7.heap) ++ pinsAt fp1 t14.heap) σ15 H' s' → Nx1 H' → ∃ m, m < k ∧ ∃ j H', Inv (X.blk t3 H3 scope ce fp) ([] ++ pinsAt fp t7.heap) (wipe σ8 vs1) H' s' ∧ tn1 j s'.heap ∧ (∀ b ∈ fp1, H' b = none) ∧ W1 j m H' := fun {s' H'} I' nx => by
            obtain ⟨m', hm, w'⟩ := nxt1 H' nx
            have pin' : ∀ b ∈ fp1, ∀ o, t14.heap.get? b = some o → s'.heap.get? b = some o ∧ H' b = none := fun b mb o e =>
              let z := I'.pin (b, o) (List.mem_append_right _ (List.mem_append_right _ (mem_pinsAt mb e)))
              ⟨z.1, z.2.1⟩
            refine ⟨m', hm, j + 1, H', I'.unpinned.weak (by rw [← hw15, wipe_length]) (fun j v e => by rw [← hw15] at e; exact (wipe_some e).1), T1.keep _ _ _ at14 fun b mb o e => (pin' b mb o e).1, fun b mb => ?_, w'⟩
            obtain ⟨o, e, _⟩ := T1.obj _ _ at14 b mb
            exact (pin' b mb o e).2
          cases b1 with
          | false =>
            simp only [Bool.false_eq_true, if_false] at q16 ⊢
            exact fin1 I16 q16
          | true =>
            simp only [if_true] at q16 ⊢
            refine thnF (qe.run _ t16 σ15 H16 _ I16 q16) fun z t17 ⟨yv, H17, I17, r17, c, S0, n0, ey, hD17, room17, nx⟩ => ?_
            subst ey
            obtain ⟨tk, rfl⟩ := (show ∃ t, z = Value.int c t from r17)
            exact putIn (X := X.blk t3 H3 scope ce fp) I17 hD17 room17 fun t18 I18 => fin1 I18 nx
      exact startB inner (T1.self X.A 0 _ _ _ at11 inner)
  exact PpSet.codeAny_compStart_set loop (T.self X.A 0 _ _ _ at4 loop)
end
end My
set_option Elab.async false
set_option linter.all false
set_option maxRecDepth 100000
set_option maxHeartbeats 4000000
namespace My
open PySem PySem.Spec PyProof.Rows L2
/-- what a set holds when it was filled from these -/
def Acc (zs : List V) (S : Int → Bool) (n : Nat) : Prop := ∃ ns : List Int, ns.Nodup ∧ ns.length = n ∧ (∀ k, S k = true ↔ k ∈ ns) ∧ ∀ k, k ∈ ns ↔ V.int k ∈ zs
theorem Acc.nil : Acc [] (fun _ => false) 0 := ⟨[], List.nodup_nil, rfl, fun k => by simp, fun k => by simp⟩
theorem Acc.put {zs : List V} {S : Int → Bool} {n : Nat} {c : Int} (h : Acc zs S n) : Acc (zs ++ [V.int c]) (fun j => S j || decide (j = c)) (if S c = true then n else n + 1) := by
  obtain ⟨ns, nd, len, mem, own⟩ := h
  by_cases hc : S c = true
  · rw [if_pos hc]
    refine ⟨ns, nd, len, fun k => ?_, fun k => ?_⟩
    · rw [Bool.or_eq_true, decide_eq_true_eq, mem]
      exact ⟨fun z => z.elim id fun e => by rw [e]; exact (mem c).mp hc, .inl⟩
    · rw [own, List.mem_append, List.mem_singleton]
      refine ⟨.inl, fun z => z.elim id fun e => ?_⟩
      cases e
      exact (own c).mp ((mem c).mp hc)
  · rw [if_neg hc]
    refine ⟨c :: ns, List.nodup_cons.mpr ⟨fun z => hc ((mem c).mpr z), nd⟩, by rw [List.length_cons, len], fun k => ?_, fun k => ?_⟩
    · rw [Bool.or_eq_true, decide_eq_true_eq, mem, List.mem_cons]
      exact Or.comm
    · rw [List.mem_cons, own, List.mem_append, List.mem_singleton]
      constructor
      · rintro (e | z)
        · exact .inr (by rw [e])
        · exact .inl z
      · rintro (z | e)
        · exact .inr z
        · exact .inl (V.int.inj e)
theorem take_cat {zs : List (List V)} {i : Nat} {z : List V} (h : zs[i]? = some z) : (zs.take (i + 1)).flatten = (zs.take i).flatten ++ z := by
  rw [List.take_add_one, h, List.flatten_append]
  simp

theorem nodup_le {α : Type} [DecidableEq α] : ∀ (l D : List α), l.Nodup → (∀ x ∈ l, x ∈ D) → l.length ≤ D.length
  | [], _, _, _ => Nat.zero_le _
  | x :: l, D, n, s => by
    have mx := s x (List.mem_cons_self ..)
    obtain ⟨nx, nl⟩ := List.nodup_cons.mp n
    have z := nodup_le l (D.erase x) nl fun y my => (List.mem_erase_of_ne (fun e => nx (by rw [← e]; exact my))).mpr (s y (List.mem_cons_of_mem _ my))
    rw [List.length_erase_of_mem mx] at z
    have : 0 < D.length := List.length_pos_of_mem mx
    rw [List.length_cons]
    omega
def intV : V → Int
  | .int i => i
  | _ => 0
theorem Acc.le {zs : List V} {S : Int → Bool} {n : Nat} (a : Acc zs S n) : n ≤ zs.length := by
  obtain ⟨ns, nd, len, _, own⟩ := a
  rw [← len, ← List.length_map (f := intV) (as := zs)]
  exact nodup_le ns _ nd fun k m => List.mem_map.mpr ⟨_, (own k).mp m, rfl⟩
/-- {y for x in xs for y in (what x gives)}, whole numbers -/
theorem sc2Ints {w : World} {j j1 : Nat} {vs vs1 : List Nat} {σ : L2.St} {H : Hp} {Q : VK} {wi wi1 : TI} (xs : List V) (zs : List (List V)) (len : zs.length = xs.length) (few : zs.flatten.length ≤ 1000)
    (kind : ∀ y ∈ zs.flatten, ∃ c, y = .int c)
    (hwi : ∀ R : It → Hp → Prop, (∀ (J : It) (G : Hp → Prop), Walk J xs.length G (YAt xs) → (∀ H', Same H H' → G H') → R J H) → wi σ H R)
    (hin : ∀ (i : Nat) (x : V) (z : List V) (H' : Hp) (D : Addr) (u : HO) (R : It → Hp → Prop), xs[i]? = some x → zs[i]? = some z → Same H H' → H' D = some u → H D = none → (∀ (J1 : It) (G1 : Hp → Prop) (H1 : Hp), Same H' H1 → Walk J1 z.length G1 (YAt z) → (∀ H'', (∀ b o, b ≠ D → H1 b = some o → H'' b = some o) → G1 H'') → R J1 H1) → wi1 ((wipe σ vs).set j (some x)) H' R)
    (hw : ∀ x, wipe ((wipe σ vs).set j (some x)) vs = wipe σ vs)
    (hw1 : ∀ x y, wipe ((wipe ((wipe σ vs).set j (some x)) vs1).set j1 (some y)) vs1 = wipe ((wipe σ vs).set j (some x)) vs1)
    (hj : ∀ x y, ((wipe ((wipe σ vs).set j (some x)) vs1).set j1 (some y))[j1]? = some (some y))
    (hq : ∀ (D : Addr) (H' : Hp) (S : Int → Bool) (n : Nat), Same H H' → H D = none → H' D = some (SetO w D S n) → Acc zs.flatten S n → Q (.ref D) H') : tSc2 w wi (gName j) wi1 (gName j1) tYes (tVar j1) vs vs1 σ H Q := by
  refine hwi _ fun J G wk hG => fun D nD => ?_
  refine ⟨fun i m H' => m = xs.length - i ∧ i ≤ xs.length ∧ Same H H' ∧ ∃ S n, H' D = some (SetO w D S n) ∧ Acc (zs.take i).flatten S n, ⟨xs.length, rfl, Nat.zero_le _, same_upd nD, _, _, upd_same, Acc.nil⟩, ?_⟩
  rintro i m H' ⟨rfl, hi, s1, S, n, hD, acc⟩
  by_cases lt : i < xs.length
  · refine .inr ⟨wk.goes i H' lt (hG _ s1), fun H2 => Same H H2 ∧ ∃ S n, H2 D = some (SetO w D S n) ∧ Acc (zs.take (i + 1)).flatten S n, fun H2 p => ⟨xs.length - (i + 1), by omega, rfl, lt, p⟩, ?_⟩
    intro x H2 y
    obtain ⟨rfl, ex⟩ := wk.yields i H' x H2 lt (hG _ s1) y
    have li : i < zs.length := by omega
    obtain ⟨z, ez⟩ : ∃ z, zs[i]? = some z := ⟨zs[i], List.getElem?_eq_getElem li⟩
    have mz : z ∈ zs := List.mem_of_getElem? ez
    have whole : ∀ v ∈ z, v ∈ zs.flatten := fun v m => List.mem_flatten.mpr ⟨z, mz, m⟩
    have size : ∀ k, ((zs.take i).flatten ++ z.take k).length ≤ 1000 := fun k => by
      have e : zs.flatten = (zs.take (i + 1)).flatten ++ (zs.drop (i + 1)).flatten := by rw [← List.flatten_append, List.take_append_drop]
      rw [take_cat ez] at e
      have e2 := congrArg List.length e
      rw [List.length_append, List.length_append] at e2
      have e3 : (z.take k).length ≤ z.length := by rw [List.length_take]; omega
      rw [List.length_append]
      omega
    refine ⟨hw _, hin i x z H2 D _ _ ex ez s1 hD nD fun J1 G1 H1 s11 w1 hG1 => ?_⟩
    let P1 : Nat → Hp → Prop := fun k H' => Same H H' ∧ (∀ b o, b ≠ D → H1 b = some o → H' b = some o) ∧ ∃ S n, H' D = some (SetO w D S n) ∧ Acc ((zs.take i).flatten ++ z.take k) S n
    have below : ∀ k H', P1 k H' → G1 H' := fun k H' p => hG1 _ p.2.1
    refine ⟨fun k m H' => m = z.length - k ∧ k ≤ z.length ∧ P1 k H', ⟨z.length, rfl, Nat.zero_le _, s1.trans s11, fun _ _ _ e => e, S, n, s11 _ _ hD, by rw [List.take_zero, List.append_nil]; exact acc⟩, ?_⟩
    rintro k m H3 ⟨rfl, hk, p3⟩
    by_cases lt1 : k < z.length
    · refine .inr ⟨w1.goes k H3 lt1 (below k _ p3), P1 (k + 1), fun H4 p => ⟨z.length - (k + 1), by omega, rfl, lt1, p⟩, ?_⟩
      intro u H4 y1
      obtain ⟨rfl, eu⟩ := w1.yields k H3 u H4 lt1 (below k _ p3) y1
      obtain ⟨s3, others, S3, n3, hD3, acc3⟩ := p3
      obtain ⟨c, rfl⟩ := kind u (whole u (List.mem_of_getElem? eu))
      have n1000 := Nat.le_trans acc3.le (size k)
      refine ⟨hw1 _ _, ?_⟩
      dsimp only [tYes]
      rw [if_pos rfl]
      refine ⟨_, hj _ _, c, S3, n3, rfl, hD3, by unfold scanBound; omega, fun b o e => ?_, fun b o nb e => ?_, _, _, upd_same, ?_⟩
      · rw [upd_ne (ne_of_none e nD)]
        exact s3 _ _ e
      · rw [upd_ne nb]
        exact others b o nb e
      · have etake : (zs.take i).flatten ++ z.take (k + 1) = ((zs.take i).flatten ++ z.take k) ++ [V.int c] := by
          rw [List.take_add_one, eu, List.append_assoc]
          rfl
        rw [etake]
        exact acc3.put
    · have e : k = z.length := by omega
      subst e
      obtain ⟨s3, others, S3, n3, hD3, acc3⟩ := p3
      refine .inl ⟨w1.stops H3 (below _ _ ⟨s3, others, S3, n3, hD3, acc3⟩), s3, S3, n3, hD3, ?_⟩
      rw [take_cat ez]
      rw [List.take_length] at acc3
      exact acc3
  · have e : i = xs.length := by omega
    subst e
    rw [← len, List.take_length] at acc
    exact .inl ⟨wk.stops H' (hG _ s1), hq D H' S n s1 nD hD acc⟩
/-- the values of these rows, ascending -/
def VOf (es : List PyData) (ns : List Int) : Prop := ns.Pairwise (· < ·) ∧ ∀ k : Int, k ∈ ns ↔ ∃ e ∈ es, PyData.int k ∈ itemsD (itemD e 1)
theorem VOf.one {es : List PyData} {ns ms : List Int} (a : VOf es ns) (b : VOf es ms) : ns = ms := by
  have nd : ∀ {l : List Int}, l.Pairwise (· < ·) → l.Nodup := fun h => h.imp fun z => by omega
  have pm : ns.Perm ms := (List.perm_ext_iff_of_nodup (nd a.1) (nd b.1)).mpr fun k => (a.2 k).trans (b.2 k).symm
  exact pm.eq_of_pairwise (fun x y _ _ h1 h2 => by omega) a.1 b.1
def spStoreV (K : PySem.W.Frag) : Sp := fun vs H Q _ => ∃ (x : V) (es : List PyData), vs = [x] ∧ Dq H x (.tuple es) ∧ (∀ e ∈ es, RowD e) ∧ es.length ≤ 60 ∧
  ∀ (ns : List Int) (r : Addr) (H' : Hp), VOf es ns → Same H H' → H' r = some (.tup (ns.map V.int)) → Q (.ref r) H'
/-- the numbers in a row -/
def valsOf (e : PyData) : List V := (itemsD (itemD e 1)).map fun d => V.int (intOf d)
theorem rowVals {t : Int} {ns : List Int} : valsOf (.tuple [.int t, .tuple (ns.map PyData.int)]) = ns.map V.int := by
  unfold valsOf
  show ((ns.map PyData.int).map _) = _
  rw [List.map_map]; rfl
theorem vals_few : ∀ {es : List PyData}, (∀ e ∈ es, RowD e) → (es.map valsOf).flatten.length ≤ 3 * es.length
  | [], _ => Nat.zero_le _
  | e :: es, h => by
    have z := vals_few fun f m => h f (List.mem_cons_of_mem _ m)
    obtain ⟨t, ns, rfl, l⟩ := h e (List.mem_cons_self ..)
    rw [List.map_cons, List.flatten_cons, List.length_append, rowVals, List.length_map, List.length_cons]
    omega
theorem vals_mem {es : List PyData} (h : ∀ e ∈ es, RowD e) {k : Int} : V.int k ∈ (es.map valsOf).flatten ↔ ∃ e ∈ es, PyData.int k ∈ itemsD (itemD e 1) := by
  rw [List.mem_flatten]
  constructor
  · rintro ⟨l, ml, mk⟩
    obtain ⟨e, me, rfl⟩ := List.mem_map.mp ml
    obtain ⟨t, ns, rfl, _⟩ := h e me
    rw [rowVals] at mk
    obtain ⟨n, mn, en⟩ := List.mem_map.mp mk
    cases en
    exact ⟨_, me, List.mem_map.mpr ⟨k, mn, rfl⟩⟩
  · rintro ⟨e, me, mk⟩
    refine ⟨valsOf e, List.mem_map.mpr ⟨e, me, rfl⟩, ?_⟩
    exact List.mem_map.mpr ⟨_, mk, rfl⟩
theorem acc_vof {es : List PyData} (h : ∀ e ∈ es, RowD e) {S : Int → Bool} {n : Nat} (a : Acc (es.map valsOf).flatten S n) {ns : List Int} (pw : ns.Pairwise (· < ·)) (mem : ∀ k : Int, k ∈ ns ↔ S k = true) : VOf es ns := by
  obtain ⟨ms, _, _, m1, m2⟩ := a
  exact ⟨pw, fun k => by rw [mem, m1, m2]; exact vals_mem h⟩
section
variable {P : Program} {w : World} {K : PySem.W.Frag} {mg : Str → Option Value} {base : Heap}
theorem sc_store_values : FnScope ["store", "row", "value"] ["store"] (defScope (topS 23)) := ⟨rfl, rfl, rfl, by decide +kernel, rfl, by decide +kernel, by decide +kernel⟩
theorem ok_store_values {f : Addr} {fd : FuncData} (F : L2.Fun K "store_values" "store_values" (topS 23) f fd) (m_tuple : mg "tuple" = none) (m_sorted : mg "sorted" = none) : FnOk P w K mg base CX0 1 f fd ["store"] (spStoreV K) := by
  refine F.ok sc_store_values (fun vs H Q E h => ?_) (fun cdv A outer s0 H vs Q E hr h => ?_)
  · obtain ⟨x, es, rfl, _⟩ := h
    rfl
  · obtain ⟨x, es, rfl, hx, rows, few, q⟩ := h
    refine ⟨_, (pss_one (ps_ret (pe_callTy call_tuple_of (by rfl) m_tuple (by decide +kernel) (pa_cons (pe_callB (cr_sortedI rfl (Nat.lt_of_le_of_lt (Nat.add_le_add_left (by decide) _) hr.units)) (by rfl) m_sorted (by decide +kernel) (pa_cons (pe_sc2 (own := [("row", 1), ("value", 2)]) (vs1 := [2]) (g := gName 1) (g1 := gName 2) rfl sc_store_values.nd (pi_tup (pv 0)) (blkOk_by (N := ["store", "row", "value"]) (sc := defScope (topS 23)) (by decide +kernel)) (by decide) (fun _ _ _ _ _ => pg_name (i := 1) sc_store_values.nd rfl (Or.inl rfl)) (fun _ _ _ _ _ => (show PI _ _ _ (iTup K (tOp (rIxV K) (tVar 1) (tC (.int 1)))) from pi_tup (pe_ix ix_seq (pv 1) pe_int (fun _ _ => rfl)))) (fun _ _ _ _ _ => pg_name (i := 2) sc_store_values.nd rfl (Or.inl rfl)) (fun _ _ _ _ _ => pts_nil) (fun _ _ _ _ _ => (pv 2))) pa_nil)) pa_nil)))), ?_⟩
    cases hx with
    | @tup a xs _ ha hxs =>
    have lx := hxs.len
    dsimp only [tRet, tCB, tCons, tNil]
    refine sc2Ints xs (es.map valsOf) (by rw [List.length_map, lx]) (by have := vals_few rows; omega) (fun y m => ?_) (fun R hR => ?_) (fun i x z H' D o R ex ez s1 hD nD hR => ?_) (by intro _; rfl) (by intro _ _; rfl) (by intro _ _; rfl) (fun D H1 S n s1 nD hD acc => ?_)
    · obtain ⟨l, ml, my⟩ := List.mem_flatten.mp m
      obtain ⟨e, me, rfl⟩ := List.mem_map.mp ml
      obtain ⟨d, _, rfl⟩ := List.mem_map.mp my
      exact ⟨_, rfl⟩
    · exact ⟨_, rfl, a, rfl, ⟨_, SqT.of ha⟩, hR _ _ walk_tup fun H' s => SqT.of (s _ _ ha)⟩
    · rw [List.getElem?_map] at ez
      obtain ⟨e, ee, rfl⟩ := Option.map_eq_some_iff.mp ez
      obtain ⟨e', ee', dx⟩ := hxs.get ex
      rw [ee] at ee'
      cases ee'
      obtain ⟨t, ns, rfl, _⟩ := rows e (List.mem_of_getElem? ee)
      rw [rowVals] at hR
      cases dx with
      | @tup b ys _ hb hys =>
      cases hys with
      | @cons y0 _ _ _ h0 r0 =>
      cases r0 with
      | @cons y1 _ _ _ h1 r1 =>
      cases r1
      cases h1 with
      | @tup c zs _ hc hzs =>
      have ez := dqAll_intsV hzs
      subst ez
      refine ⟨_, rfl, rd_ix (.inr (SqT.of (s1 _ _ hb))) (i := 1) rfl ⟨c, rfl, ⟨_, SqT.of (s1 _ _ hc)⟩, hR _ _ H' (Same.refl _) walk_tup fun H2 s2 => SqT.of (s2 _ _ (fun z => ?_) (s1 _ _ hc))⟩⟩
      rw [← z, hc] at nD
      cases nD
    · refine ⟨D, S, n, rfl, hD, fun ns l pw mem nl => ?_⟩
      have sl := same_upd (o := HO.lst (ns.map V.int)) nl
      refine ⟨l, _, rfl, .inl ⟨SqL.of upd_same, fun r nr => ?_⟩⟩
      exact q ns r _ (acc_vof rows acc pw mem) ((s1.trans sl).trans (same_upd nr)) upd_same
end
end My
set_option Elab.async false
set_option linter.all false
set_option maxRecDepth 100000
set_option maxHeartbeats 4000000
namespace My
open PySem PySem.Spec PyProof.Rows L2

/-- the older hand's modulus -/
abbrev MO : Int := 2147483549
abbrev sHand : Stmt := (topS 25)
abbrev sMixed : Stmt := (topS 26)
abbrev sTake : Stmt := (topS 27)
section
variable {P : Program} {w : World} {K : PySem.W.Frag} {mg : Str → Option Value} {base : Heap}
theorem scMixed : FnScope ["_law_number", "_law_turn", "_law_once", "_law_twice"] ["_law_number", "_law_turn"] (defScope sMixed) := ⟨rfl, rfl, rfl, by decide +kernel, rfl, by decide +kernel, by decide +kernel⟩
theorem ok_mixed {f : Addr} {fd : FuncData} (F : Fun K "_law_mixed" "_law_mixed" sMixed f fd) (mI : mg "int" = none) : FnOk P w K mg base CX0 1 f fd ["_law_number", "_law_turn"] (spMix 2147483648) := by
  refine F.ok scMixed (fun vs H Q E h => ?_) (fun cdv A outer s H vs Q E hr h => ?_)
  · obtain ⟨n, t, rfl, _⟩ := h
    rfl
  · obtain ⟨n, t, rfl, n0, n1, t0, t1, k⟩ := h
    refine ⟨_, pss_cons (ps_set (i := 2) scMixed.nd rfl (.inl rfl) (pe_op op_mod (pe_callTy call_int1 (by rfl) mI boot_int (pa_cons (pe_op op_add (pe_op op_add (pe_op op_mul (pv 0) pe_int) (pe_op op_mul (pv 1) pe_int)) pe_int) pa_nil)) pe_int))
      (pss_cons (ps_set (i := 3) scMixed.nd rfl (.inl rfl) (pe_op op_mod (pe_callTy call_int1 (by rfl) mI boot_int (pa_cons (pe_op op_add (pe_op op_add (pe_op op_mul (pv 2) (pv 2)) (pe_op op_mul (pv 1) pe_int)) (pe_op op_fdiv (pv 2) pe_int)) pa_nil)) pe_int))
      (pss_one (ps_ret (pe_op op_fdiv (pe_callTy call_int1 (by rfl) mI boot_int (pa_cons (pe_op op_mod (pe_callTy call_int1 (by rfl) mI boot_int (pa_cons (pe_op op_add (pe_op op_mul (pv 3) pe_int) (pe_op op_fdiv (pv 2) pe_int)) pa_nil)) pe_int) pa_nil)) pe_int)))), ?_⟩
    refine ⟨_, rfl, _, _, rfl, rfl, .inr (by decide), ?_⟩
    refine ⟨_, rfl, _, _, rfl, rfl, .inr (by decide), _, _, rfl, rfl, _, _, rfl, rfl, .inl ⟨_, rfl, _, _, rfl, rfl, (by show (0 : Int) < 2147483399; decide), ?_⟩⟩
    refine ⟨_, rfl, _, rfl, _, _, rfl, rfl, .inl ⟨by omega, by omega⟩, _, rfl, _, _, rfl, rfl, .inr (by decide), _, _, rfl, rfl, _, rfl, _, _, rfl, rfl, ⟨by decide, by decide⟩, _, _, rfl, rfl, .inl ⟨_, rfl, _, _, rfl, rfl, (by show (0 : Int) < 2147483629; decide), ?_⟩⟩
    exact ⟨_, rfl, _, _, rfl, rfl, .inr (by decide), _, rfl, _, _, rfl, rfl, ⟨by decide, by decide⟩, _, _, rfl, rfl,   .inl ⟨_, rfl, _, _, rfl, rfl, (by show (0 : Int) < 2147483587; decide), .inl ⟨_, rfl, _, _, rfl, rfl, ⟨by decide, by decide⟩, k _⟩⟩⟩
theorem scTake : FnScope ["_law_hand_here", "_law_many", "_law_cell", "_law_rest"] ["_law_hand_here", "_law_many"] (defScope sTake) := ⟨rfl, rfl, rfl, by decide +kernel, rfl, by decide +kernel, by decide +kernel⟩
theorem ok_take {f : Addr} {fd : FuncData} (F : Fun K "_law_take" "_law_take" sTake f fd) (mI : mg "int" = none) (mL : mg "len" = none) (cM : Cal P w K mg base 1 "_law_mixed" (spMix 2147483648)) : FnOk P w K mg base CX0 2 f fd ["_law_hand_here", "_law_many"] (spDraw MO) := by
  refine F.ok scTake (fun vs H Q E h => ?_) (fun cdv A outer s H vs Q E hr h => ?_)
  · obtain ⟨a, c, m, rfl, _⟩ := h
    rfl
  · obtain ⟨a, c, m, rfl, hh, m0, m8, k⟩ := h
    refine ⟨_, C8.pss_cut (ps_if (PW.pt (pw_and (pt_cmpR op_eq (pe_ix ix_list (pv 0) pe_int (fun _ _ => rfl)) pe_int (nomark _)) (pw_and1 (pt_cmpR op_lt (pe_ix ix_list (pv 0) pe_int (fun _ _ => rfl)) (pe_callB call_len_seq (by rfl) mL PySem.boot_len (pa_cons (pe_ix ix_list (pv 0) pe_int (fun _ _ => rfl)) pa_nil)) (nomark _)))))
        (pss_cons (ps_set (i := 2) scTake.nd rfl (.inl rfl) (pe_ix ix_list (pe_ix ix_list (pv 0) pe_int (fun _ _ => rfl)) (pe_ix ix_list (pv 0) pe_int (fun _ _ => rfl)) (fun _ _ => rfl)))
        (pss_cons (ps_asg (pe_op op_add (pe_ix ix_list (pv 0) pe_int (fun _ _ => rfl)) pe_int) (pg_sub (pv 0) pe_int set_list))
        (pss_cons (ps_if (pt_cmpR op_lt (pv 2) (pe_op op_pow pe_int pe_int) (nomark _))
          (pss_one (ps_ret (pe_op op_mod (pe_callTy call_int1 (by rfl) mI boot_int (pa_cons (pe_c cM hr (by decide) rfl (pa_cons (pe_op op_mod (pe_callTy call_int1 (by rfl) mI boot_int (pa_cons (pv 2) pa_nil)) pe_int) (pa_cons (pe_ix ix_list (pv 0) pe_int (fun _ _ => rfl)) pa_nil))) pa_nil)) (pv 1)))) pss_nil)
        (pss_one (ps_asg (pv 2) (pg_sub (pv 0) pe_int set_list)))))) pss_nil)
      (pss_cons (ps_if (pt_cmpR op_gt (pe_ix ix_list (pv 0) pe_int (fun _ _ => rfl)) pe_int (nomark _))
        (pss_cons (ps_set (i := 3) scTake.nd rfl (.inl rfl) (pe_ix ix_list (pv 0) pe_int (fun _ _ => rfl)))
        (pss_cons (ps_asg (pe_op op_fdivW (pe_callTy call_int1 (by rfl) mI boot_int (pa_cons (pv 3) pa_nil)) (pv 1)) (pg_sub (pv 0) pe_int set_list))
        (pss_one (ps_ret (pe_op op_mod (pe_callTy call_int1 (by rfl) mI boot_int (pa_cons (pv 3) pa_nil)) (pv 1)))))) pss_nil)
      (pss_cons (ps_asg (pe_op op_mod (pe_callTy call_int1 (by rfl) mI boot_int (pa_cons (pe_op op_add (pe_ix ix_list (pv 0) pe_int (fun _ _ => rfl)) pe_int) pa_nil)) pe_int) (pg_sub (pv 0) pe_int set_list))
      (pss_one (ps_ret (pe_op op_mod (pe_callTy call_int1 (by rfl) mI boot_int (pa_cons (pe_c cM hr (by decide) rfl (pa_cons (pe_ix ix_list (pv 0) pe_int (fun _ _ => rfl)) (pa_cons (pe_ix ix_list (pv 0) pe_int (fun _ _ => rfl)) pa_nil))) pa_nil)) (pv 1)))))), ?_⟩
    obtain ⟨cs, l, h1, h2, hl, h63, hpos⟩ := hh.ex
    have hca := hh.ne
    obtain ⟨i, r, t, rfl, hi, r0, t0, t1⟩ := id hl
    -- behind the first if: slot 0 holds the hand, slot 1 the bound; the hand's list is some l
    refine ⟨fun σ H' => ∃ (l' : List V) (v2 : Option V), σ = [some (.ref a), some (.int m), v2, none] ∧ H' = upd H a (.lst l') ∧ HandL MO c cs.length l', ?_, ?_⟩
    · have eH : H = upd H a (.lst [.ref c, .int i, .int r, .int t]) := by
        funext b
        by_cases hb : b = a
        · rw [hb, upd_same, h1]
        · rw [upd_ne hb]
      refine ⟨_, rfl, a, _, _, _, rfl, rfl, SqL.of h1, atI_nat (j := 2) rfl, rfl, _, rfl, ite2 (fun e => ?_) (fun e => ?_)⟩
      · refine ⟨_, rfl, a, _, _, _, rfl, rfl, SqL.of h1, atI_nat (j := 1) rfl, _, rfl, a, _, _, _, rfl, rfl, SqL.of h1, atI_nat (j := 0) rfl, c, _, rfl, .inl (SqL.of h2), _, _, rfl, rfl, _, rfl, ?_⟩
        refine ite2 (fun e2 => ?_) (fun e2 => ⟨_, none, rfl, eH, hl⟩)
        have hic : i < cs.length := by
          have z := of_decide_eq_true e2
          rw [List.length_map] at z
          omega
        have r00 : r = 0 := V.int.inj (of_decide_eq_true e)
        have hx : (cs.map V.int)[i]? = some (.int cs[i]) := by
          rw [List.getElem?_map, List.getElem?_eq_getElem hic]
          rfl
        have hx0 : 0 ≤ cs[i] := hpos _ (List.getElem_mem hic)
        -- cell = hand[0][hand[1]]; hand[1] = hand[1] + 1
        refine ⟨_, rfl, a, _, _, _, rfl, rfl, SqL.of h1, atI_nat (j := 0) rfl, _, rfl, a, _, _, _, rfl, rfl, SqL.of h1, atI_nat (j := 1) rfl, c, _, _, _, rfl, rfl, SqL.of h2, atI_nat hx, ?_⟩
        refine ⟨_, rfl, a, _, _, _, rfl, rfl, SqL.of h1, atI_nat (j := 1) rfl, _, _, rfl, rfl, _, rfl, a, _, _, 1, rfl, rfl, h1, rfl, ?_⟩
        have ei : ((i : Int) + 1) = ((i + 1 : Nat) : Int) := by omega
        have hl1 : HandL MO c cs.length [.ref c, .int ((i : Int) + 1), .int r, .int t] := ⟨i + 1, r, t, by rw [ei], by omega, r0, t0, t1⟩
        have g1 : (upd H a (.lst ([V.ref c, V.int i, V.int r, V.int t].set 1 (.int ((i : Int) + 1))))) a = some (.lst [.ref c, .int ((i : Int) + 1), .int r, .int t]) := upd_same
        -- if cell < 10 ** 18
        refine ⟨_, rfl, _, _, rfl, rfl, ⟨by decide, by decide, by decide⟩, _, _, rfl, rfl, _, rfl, ite2 (fun e3 => ?_) (fun e3 => ?_)⟩
        · refine ⟨_, rfl, .inl ⟨_, rfl, _, _, rfl, rfl, (by show (0 : Int) < 2147483399; decide), _, rfl, a, _, _, _, rfl, rfl, SqL.of g1, atI_nat (j := 1) rfl, _, _, rfl, Int.emod_nonneg _ (by decide), ?_, by omega, by omega, fun v => .inl ⟨_, rfl, _, rfl, _, _, rfl, rfl, m0, ?_⟩⟩⟩
          · have := Int.emod_lt_of_pos cs[i] (show (0 : Int) < 2147483399 by decide)
            omega
          · exact k _ _ (Int.emod_nonneg _ (by omega)) (Int.emod_lt_of_pos _ m0) (Hand.put h2 hca hl1 h63 hpos)
        · refine ⟨_, rfl, _, rfl, a, _, _, 2, rfl, rfl, g1, rfl, ?_⟩
          exact ⟨_, _, rfl, upd_upd, i + 1, cs[i], t, by rw [← ei]; rfl, by omega, hx0, t0, t1⟩
      · exact ⟨_, none, rfl, eH, hl⟩
    · rintro σ H' ⟨l', v2, rfl, rfl, hl'⟩
      obtain ⟨i', r', t', rfl, hi', r0', t0', t1'⟩ := hl'
      have g1 : (upd H a (.lst [V.ref c, V.int i', V.int r', V.int t'])) a = some (.lst [.ref c, .int i', .int r', .int t']) := upd_same
      refine ⟨_, rfl, a, _, _, _, rfl, rfl, SqL.of g1, atI_nat (j := 2) rfl, _, _, rfl, rfl, _, rfl, ite2 (fun e => ?_) (fun e => ?_)⟩
      · -- the rest of a great cell
        refine ⟨_, rfl, a, _, _, _, rfl, rfl, SqL.of g1, atI_nat (j := 2) rfl, ?_⟩
        refine ⟨_, rfl, .inl ⟨_, rfl, _, rfl, _, _, rfl, rfl, wide_div m0 m8 (by decide) (by decide), _, rfl, a, _, _, 2, rfl, rfl, g1, rfl, ?_⟩⟩
        refine ⟨_, rfl, .inl ⟨_, rfl, _, rfl, _, _, rfl, rfl, m0, ?_⟩⟩
        rw [upd_upd]
        refine k _ _ (Int.emod_nonneg _ (by omega)) (Int.emod_lt_of_pos _ m0) (Hand.put h2 hca ⟨i', r' / m, t', rfl, hi', Int.ediv_nonneg r0' (by omega), t0', t1'⟩ h63 hpos)
      · refine ⟨_, rfl, a, _, _, _, rfl, rfl, SqL.of g1, atI_nat (j := 3) rfl, _, _, rfl, rfl, .inl ⟨_, rfl, _, _, rfl, rfl, (by show (0 : Int) < 2147483549; decide), _, rfl, a, _, _, 3, rfl, rfl, g1, rfl, ?_⟩⟩
        have g2 : (upd (upd H a (.lst [V.ref c, V.int i', V.int r', V.int t'])) a (.lst ([V.ref c, V.int i', V.int r', V.int t'].set 3 (.int ((t' + 1) % 2147483549))))) a = some (.lst [.ref c, .int i', .int r', .int ((t' + 1) % 2147483549)]) := upd_same
        refine ⟨_, rfl, a, _, _, _, rfl, rfl, SqL.of g2, atI_nat (j := 3) rfl, _, rfl, a, _, _, _, rfl, rfl, SqL.of g2, atI_nat (j := 1) rfl, _, _, rfl, Int.emod_nonneg _ (by decide), ?_, by omega, by omega, fun v => .inl ⟨_, rfl, _, rfl, _, _, rfl, rfl, m0, ?_⟩⟩
        · have := Int.emod_lt_of_pos (t' + 1) (show (0 : Int) < 2147483549 by decide)
          omega
        · rw [upd_upd]
          exact k _ _ (Int.emod_nonneg _ (by omega)) (Int.emod_lt_of_pos _ m0) (Hand.put h2 hca ⟨i', r', _, rfl, hi', r0', Int.emod_nonneg _ (by decide), Int.emod_lt_of_pos _ (by decide)⟩ h63 hpos)
theorem scHand : FnScope ["_law_script", "_law_total", "_law_cells", "_law_cell"] ["_law_script"] (defScope sHand) := ⟨rfl, rfl, rfl, by decide +kernel, rfl, by decide +kernel, by decide +kernel⟩
theorem ok_hand {f : Addr} {fd : FuncData} (F : Fun K "_law_hand" "_law_hand" sHand f fd) (mI : mg "int" = none) (mL : mg "len" = none) (mA : mg "abs" = none) : FnOk P w K mg base CX0 1 f fd ["_law_script"] (spHand MO K) := by
  refine F.ok scHand (fun vs H Q E h => ?_) (fun cdv A outer s H vs Q E hr h => ?_)
  · obtain ⟨a, ns, rfl, _⟩ := h
    rfl
  · obtain ⟨a, ns, rfl, hS, h63, k⟩ := h
    refine ⟨_, pss_cons (ps_set (i := 1) scHand.nd rfl (.inl rfl) (pe_op op_add (pe_callB call_len_seq (by rfl) mL PySem.boot_len (pa_cons (pv 0) pa_nil)) pe_int))
      (pss_cons (ps_set (i := 2) scHand.nd rfl (.inl rfl) (pe_lst pa_nil))
      (pss_cons (ps_for PassesOwn.never rfl (pi_list (pv 0)) (pg_name (i := 3) scHand.nd rfl (.inl rfl))
        (pss_cons (ps_set (i := 1) scHand.nd rfl (.inl rfl) (pe_op op_mod (pe_callTy call_int1 (by rfl) mI boot_int (pa_cons (pe_op op_add (pe_op op_mul (pv 1) pe_int) (pe_callTy call_int1 (by rfl) mI boot_int (pa_cons (pv 3) pa_nil))) pa_nil)) pe_int))
        (pss_one (ps_expr (pe_bm PySem.F.plainAttrs_list PySem.F.slot_list_append PySem.F.type_list_append mt_append (pv 2) (pa_cons (pe_callB call_abs (by rfl) mA boot_abs (pa_cons (pe_callTy call_int1 (by rfl) mI boot_int (pa_cons (pv 3) pa_nil)) pa_nil)) pa_nil))))))
      (pss_one (ps_ret (pe_lst (pa_cons (pv 2) (pa_cons pe_int (pa_cons pe_int (pa_cons (pv 1) pa_nil))))))))), ?_⟩
    refine ⟨_, rfl, a, _, rfl, .inl hS, _, _, rfl, rfl, Nat.zero_le _, fun c nc => ?_⟩
    have s1 : Same H (upd H c (.lst [])) := same_upd nc
    refine ⟨_, rfl, a, rfl, ⟨_, s1.seq hS⟩, for_list (K := K) (a := a) (xs := ns.map V.int) (fun i σ H' => ∃ (t : Int) (v3 : Option V) (cs : List Int), σ = [some (.ref a), some (.int t), some (.ref c), v3] ∧ 0 ≤ t ∧ t < 2147483549 ∧ cs.length = i ∧ (∀ x ∈ cs, 0 ≤ x) ∧ H' c = some (.lst (cs.map V.int)) ∧ Same H H')
      ⟨_, none, [], rfl, by omega, ?_, rfl, by simp, upd_same, s1⟩ (fun i σ H' _ ⟨_, _, _, _, _, _, _, _, _, s2⟩ => s2.seq hS) ?_ ?_⟩
    · rw [List.length_map]
      omega
    · rintro i y σ H' hi ⟨t, v3, cs, rfl, t0, t1, hlen, hpos, hc, s2⟩
      have hi2 : i < ns.length := by
        have hlt := (List.getElem?_eq_some_iff.mp hi).1
        rwa [List.length_map] at hlt
      obtain ⟨z, rfl⟩ : ∃ z, y = V.int z := by
        rw [List.getElem?_map, List.getElem?_eq_getElem hi2] at hi
        exact ⟨_, (Option.some.inj hi).symm⟩
      refine ⟨_, rfl, _, _, rfl, rfl, .inr (by decide), _, rfl, .inl ⟨_, rfl, _, _, rfl, rfl, .inl ⟨_, rfl, _, _, rfl, rfl, (by show (0 : Int) < 2147483549; decide), ?_⟩⟩⟩
      refine ⟨_, rfl, .inl ⟨rfl, _, SqL.of hc⟩, _, rfl, .inl ⟨_, rfl, _, rfl, c, _, _, rfl, rfl, hc, ?_, ?_⟩⟩
      · rw [List.length_map]
        exact small1000 (by omega)
      · refine ⟨_, some (.int z), cs ++ [if z < 0 then -z else z], rfl, Int.emod_nonneg _ (by decide), Int.emod_lt_of_pos _ (by decide), by simp [hlen], ?_, ?_, fun b o e => ?_⟩
        · intro x hx
          rcases List.mem_append.mp hx with h | h
          · exact hpos x h
          · rw [List.mem_singleton] at h
            subst h
            split <;> omega
        · rw [upd_same, List.map_append]
          rfl
        · rw [upd_ne (ne_of_none e nc)]
          exact s2 _ _ e
    · rintro σ H' ⟨t, v3, cs, rfl, t0, t1, hlen, hpos, hc, s2⟩
      rw [List.length_map] at hlen
      refine ⟨_, rfl, _, rfl, (by show 4 ≤ sizeLine; decide), fun p np => ?_⟩
      have npc : c ≠ p := ne_of_none hc np
      exact k p c _ (s2.trans (same_upd np)) (s2.free np) nc ⟨cs, _, upd_same, by rw [upd_ne npc]; exact hc, ⟨0, 0, t, rfl, Nat.zero_le _, by decide, t0, t1⟩, by omega, hpos⟩
end
end My
set_option Elab.async false
set_option linter.all false
set_option maxRecDepth 100000
set_option maxHeartbeats 4000000
namespace My
open PySem PySem.Spec PyProof.Rows L2

/-! ### what the law asks of things -/
def spLSeq (K : PySem.W.Frag) : Sp := fun vs H Q _ => ∃ (x : V) (d : PyData), vs = [x] ∧ Dq H x d ∧ Q (.bl (seqOf d).isSome) H
def spLInt (K : PySem.W.Frag) : Sp := fun vs H Q _ => ∃ (x : V) (d : PyData), vs = [x] ∧ Dq H x d ∧ Q (.bl (intD d)) H
def spLVal (K : PySem.W.Frag) : Sp := fun vs H Q _ => ∃ (x : V) (d : PyData), vs = [x] ∧ Dq H x d ∧ Q (.bl (valueD d)) H
def spLName (K : PySem.W.Frag) : Sp := fun vs H Q _ => ∃ (x : V) (d : PyData), vs = [x] ∧ Dq H x d ∧ ∀ H', Same H H' → Q (.bl (nameD d)) H'
def spLTruth (K : PySem.W.Frag) : Sp := fun vs H Q _ => ∃ (b c : Bool), vs = [.bl b, .bl c] ∧ Q (.bl (decide (b = c))) H
theorem isi_list {K : PySem.W.Frag} (d : PyData) : decide (tyD d = "list") = (match d with
  | .list _ => true
  | _ => false) := by cases d <;> rfl
section
variable {P : Program} {w : World} {K : PySem.W.Frag} {mg : Str → Option Value} {base : Heap}
theorem sc__law_seq : FnScope ["_law_thing"] ["_law_thing"] (defScope (topS 31)) := ⟨rfl, rfl, rfl, by decide +kernel, rfl, by decide +kernel, by decide +kernel⟩
theorem ok__law_seq {f : Addr} {fd : FuncData} (F : L2.Fun K "_law_seq" "_law_seq" (topS 31) f fd) (m_isinstance : mg "isinstance" = none) (m_list : mg "list" = none) (m_tuple : mg "tuple" = none) : FnOk P w K mg base CX0 1 f fd ["_law_thing"] (spLSeq K) := by
  refine F.ok sc__law_seq (fun vs H Q E h => ?_) (fun cdv A outer s0 H vs Q E hr h => ?_)
  · obtain ⟨x, d, rfl, _⟩ := h
    rfl
  · obtain ⟨x, d, rfl, hd, q⟩ := h
    refine ⟨_, (pss_one (ps_ret (pe_or (pe_callB call_isi (by rfl) m_isinstance (by decide +kernel) (pa_cons (pv 0) (pa_cons (pe_bltn (v := .ty "list") (by rfl) m_list (by decide +kernel) rfl) pa_nil))) (pe_one (pe_callB call_isi (by rfl) m_isinstance (by decide +kernel) (pa_cons (pv 0) (pa_cons (pe_bltn (v := .ty "tuple") (by rfl) m_tuple (by decide +kernel) rfl) pa_nil))))))), ?_⟩
    refine ⟨_, rfl, x, .ty "list", _, _, _, rfl, .ty _, .base hd.ty, kit_dList d, _, rfl, ?_⟩
    have k2 := kit_dTuple (K := K) d
    cases d with
    | list ds => exact iteT q
    | tuple ds => exact iteF ⟨_, rfl, x, .ty "tuple", _, _, _, rfl, .ty _, .base hd.ty, k2, q⟩
    | _ => exact iteF ⟨_, rfl, x, .ty "tuple", _, _, _, rfl, .ty _, .base hd.ty, k2, q⟩
theorem sc__law_int : FnScope ["_law_thing"] ["_law_thing"] (defScope (topS 32)) := ⟨rfl, rfl, rfl, by decide +kernel, rfl, by decide +kernel, by decide +kernel⟩
theorem ok__law_int {f : Addr} {fd : FuncData} (F : L2.Fun K "_law_int" "_law_int" (topS 32) f fd) (m_isinstance : mg "isinstance" = none) (m_int : mg "int" = none) (m_bool : mg "bool" = none) : FnOk P w K mg base CX0 1 f fd ["_law_thing"] (spLInt K) := by
  refine F.ok sc__law_int (fun vs H Q E h => ?_) (fun cdv A outer s0 H vs Q E hr h => ?_)
  · obtain ⟨x, d, rfl, _⟩ := h
    rfl
  · obtain ⟨x, d, rfl, hd, q⟩ := h
    refine ⟨_, (pss_one (ps_ret (pe_and (pe_callB call_isi (by rfl) m_isinstance (by decide +kernel) (pa_cons (pv 0) (pa_cons (pe_bltn (v := .ty "int") (by rfl) m_int (by decide +kernel) rfl) pa_nil))) (pe_one (pe_not (pe_callB call_isi (by rfl) m_isinstance (by decide +kernel) (pa_cons (pv 0) (pa_cons (pe_bltn (v := .ty "bool") (by rfl) m_bool (by decide +kernel) rfl) pa_nil)))))))), ?_⟩
    refine ⟨_, rfl, x, .ty "int", _, _, _, rfl, .ty _, .base hd.ty, kit_dInt d, _, rfl, ?_⟩
    have k2 := kit_dBool (K := K) d
    cases d with
    | int i => exact iteT ⟨_, rfl, x, .ty "bool", _, _, _, rfl, .ty _, .base hd.ty, k2, _, rfl, q⟩
    | bool b => exact iteT ⟨_, rfl, x, .ty "bool", _, _, _, rfl, .ty _, .base hd.ty, k2, _, rfl, q⟩
    | _ => exact iteF q
theorem sc__law_is_value : FnScope ["_law_thing"] ["_law_thing"] (defScope (topS 33)) := ⟨rfl, rfl, rfl, by decide +kernel, rfl, by decide +kernel, by decide +kernel⟩
theorem ok__law_is_value {f : Addr} {fd : FuncData} (F : L2.Fun K "_law_is_value" "_law_is_value" (topS 33) f fd) (cI : Cal P w K mg base 1 "_law_int" (spLInt K)) : FnOk P w K mg base CX0 2 f fd ["_law_thing"] (spLVal K) := by
  refine F.ok sc__law_is_value (fun vs H Q E h => ?_) (fun cdv A outer s0 H vs Q E hr h => ?_)
  · obtain ⟨x, d, rfl, _⟩ := h
    rfl
  · obtain ⟨x, d, rfl, hd, q⟩ := h
    refine ⟨_, (pss_one (ps_ret (pe_and (pe_c cI hr (by decide) rfl (pa_cons (pv 0) pa_nil)) (pe_one (pe_chain op_le op_le pe_int (pv 0) (pe_op op_pow pe_int pe_int)))))), ?_⟩
    refine ⟨_, rfl, x, d, rfl, hd, _, rfl, ?_⟩
    cases hd with
    | int i =>
      refine iteT ?_
      refine ⟨_, rfl, _, _, rfl, rfl, _, rfl, ite2 (fun e1 => ?_) (fun e1 => ?_)⟩
      · refine ⟨_, _, rfl, rfl, ⟨by decide, by decide, by decide⟩, _, _, rfl, rfl, ?_⟩
        have e : valueD (.int i) = decide (i ≤ 10 ^ (9 : Int).toNat) := by
          show (decide (0 ≤ i) && decide (i ≤ 1000000000)) = _
          rw [e1, Bool.true_and]
          rfl
        rw [e] at q
        exact q
      · have e : valueD (.int i) = false := by
          show (decide (0 ≤ i) && decide (i ≤ 1000000000)) = false
          cases z : decide ((0 : Int) ≤ i) with
          | true => exact absurd z e1
          | false => rfl
        rw [e] at q
        exact q
    | _ => exact iteF q
theorem sc__law_is_name : FnScope ["_law_thing"] ["_law_thing"] (defScope (topS 34)) := ⟨rfl, rfl, rfl, by decide +kernel, rfl, by decide +kernel, by decide +kernel⟩
theorem ok__law_is_name {f : Addr} {fd : FuncData} (F : L2.Fun K "_law_is_name" "_law_is_name" (topS 34) f fd) (m_isinstance : mg "isinstance" = none) (m_str : mg "str" = none) : FnOk P w K mg base CX0 1 f fd ["_law_thing"] (spLName K) := by
  refine F.ok sc__law_is_name (fun vs H Q E h => ?_) (fun cdv A outer s0 H vs Q E hr h => ?_)
  · obtain ⟨x, d, rfl, _⟩ := h
    rfl
  · obtain ⟨x, d, rfl, hd, q⟩ := h
    refine ⟨_, (pss_one (ps_ret (pe_and (pe_callB call_isi (by rfl) m_isinstance (by decide +kernel) (pa_cons (pv 0) (pa_cons (pe_bltn (v := .ty "str") (by rfl) m_str (by decide +kernel) rfl) pa_nil))) (pe_one (pe_cmpR op_in_seq (pv 0) (pe_tup (pa_cons pe_str (pa_cons pe_str (pa_cons pe_str (pa_cons pe_str (pa_cons pe_str (pa_cons pe_str (pa_cons pe_str (pa_cons pe_str pa_nil))))))))) (by rfl)))))), ?_⟩
    refine ⟨_, rfl, x, .ty "str", _, _, _, rfl, .ty _, .base hd.ty, kit_dStr d, _, rfl, ?_⟩
    cases hd with
    | str s =>
      refine iteT ⟨_, rfl, Nat.le_of_lt (small1000 (by show 8 ≤ 1000; omega)), fun p np => ?_⟩
      refine ⟨p, _, rfl, .inr (SqT.of upd_same), rfl, rfl, ?_⟩
      rw [if_neg (fun z => nomatch z)]
      have e := in_eight s
      show Q (.bl (inV (.str s) (eight.map V.str))) _
      rw [e]
      exact q _ (same_upd np)
    | _ => exact iteF (q _ (Same.refl _))
theorem sc__law_truth : FnScope ["_law_told", "_law_due"] ["_law_told", "_law_due"] (defScope (topS 36)) := ⟨rfl, rfl, rfl, by decide +kernel, rfl, by decide +kernel, by decide +kernel⟩
theorem ok__law_truth {f : Addr} {fd : FuncData} (F : L2.Fun K "_law_truth" "_law_truth" (topS 36) f fd) (m_isinstance : mg "isinstance" = none) (m_bool : mg "bool" = none) : FnOk P w K mg base CX0 1 f fd ["_law_told", "_law_due"] (spLTruth K) := by
  refine F.ok sc__law_truth (fun vs H Q E h => ?_) (fun cdv A outer s0 H vs Q E hr h => ?_)
  · obtain ⟨b, c, rfl, _⟩ := h
    rfl
  · obtain ⟨b, c, rfl, q⟩ := h
    refine ⟨_, (pss_one (ps_ret (pe_and (pe_callB call_isi (by rfl) m_isinstance (by decide +kernel) (pa_cons (pv 0) (pa_cons (pe_bltn (v := .ty "bool") (by rfl) m_bool (by decide +kernel) rfl) pa_nil))) (pe_one (pe_cmpR op_eq (pv 0) (pv 1) (nomark _)))))), ?_⟩
    refine ⟨_, rfl, _, .ty "bool", _, _, true, rfl, .ty _, .base (.bl b), kit_ty (by decide +kernel), _, rfl, iteT ?_⟩
    refine ⟨_, rfl, _, rfl, rfl, ?_⟩
    have e : decide (V.bl b = V.bl c) = decide (b = c) := by cases b <;> cases c <;> rfl
    first | (rw [e]; exact q) | exact q
end
end My
set_option Elab.async false
set_option linter.all false
set_option maxRecDepth 100000
set_option maxHeartbeats 4000000
namespace My
open PySem PySem.Spec PyProof.Rows L2
/-- for x in xs, a list or a tuple -/
theorem forSeq {K : PySem.W.Frag} {te : TE} {a : Addr} {xs : List V} {g : TG} {tb : TS} {D : Ends} {σ : L2.St} {H0 H : Hp} (hv : ∀ R : VK, R (.ref a) H → te σ H R) (hs : SqV K H0 a xs) (s0 : Same H0 H) (Pv : Nat → L2.St → Hp → Prop) (h0 : Pv 0 σ H) (hG : ∀ i σ H', i ≤ xs.length → Pv i σ H' → Same H0 H')
    (hl : ∀ i x σ H', xs[i]? = some x → Pv i σ H' → g x σ H' fun σ2 H2 => tb { D with nx := Pv (i + 1), ct := Pv (i + 1), bk := D.nx } σ2 H2) (hd : ∀ σ H', Pv xs.length σ H' → D.nx σ H') : tFor (iSeq K te) g tb D σ H := by
  rcases hs with hs | hs
  · refine .inl (hv _ ⟨a, rfl, ⟨_, s0.seq hs⟩, for_it (walk_list (K := K) (a := a) (xs := xs)) Pv h0 (fun i σ H' hi p => (hG i σ H' hi p).seq hs) (fun i x σ H' H2 hi p y => ?_) hd⟩)
    obtain ⟨rfl, ex⟩ := y
    exact hl i x σ H2 ex p
  · refine .inr (hv _ ⟨a, rfl, ⟨_, seqT_keep hs s0⟩, for_it (walk_tup (K := K) (a := a) (xs := xs)) Pv h0 (fun i σ H' hi p => seqT_keep hs (hG i σ H' hi p)) (fun i x σ H' H2 hi p y => ?_) hd⟩)
    obtain ⟨rfl, ex⟩ := y
    exact hl i x σ H2 ex p
end My
set_option Elab.async false
set_option linter.all false
set_option maxRecDepth 100000
set_option maxHeartbeats 4000000
namespace My
open PySem PySem.Spec PyProof.Rows L2

/-! ### things in tuples through and through -/
mutual
def deepD : PyData → PyData
  | .list ds => .tuple (deepDs ds)
  | .tuple ds => .tuple (deepDs ds)
  | .dict e => .dict e
  | .none => .none
  | .bool b => .bool b
  | .int i => .int i
  | .str s => .str s
def deepDs : List PyData → List PyData
  | [] => []
  | d :: ds => deepD d :: deepDs ds
end
theorem deepDs_map : ∀ ds : List PyData, deepDs ds = ds.map deepD
  | [] => by rw [deepDs]; rfl
  | d :: ds => by rw [deepDs, deepDs_map ds]; rfl
mutual
theorem deep_noL : ∀ d : PyData, noL (deepD d) = true
  | .list ds => by rw [deepD, noL]; exact deeps_noL ds
  | .tuple ds => by rw [deepD, noL]; exact deeps_noL ds
  | .dict _ => by rw [deepD, noL]
  | .none => by rw [deepD, noL]
  | .bool _ => by rw [deepD, noL]
  | .int _ => by rw [deepD, noL]
  | .str _ => by rw [deepD, noL]
theorem deeps_noL : ∀ ds : List PyData, noLs (deepDs ds) = true
  | [] => by rw [deepDs, noLs]
  | d :: ds => by rw [deepDs, noLs, deep_noL d, deeps_noL ds]; rfl
end
theorem deep_seq {d : PyData} {ds : List PyData} (h : seqOf d = some ds) : deepD d = .tuple (ds.map deepD) := by
  cases d with
  | list es =>
    cases Option.some.inj h
    rw [deepD, deepDs_map]
  | tuple es =>
    cases Option.some.inj h
    rw [deepD, deepDs_map]
  | _ => cases h
theorem deep_flat {d : PyData} (h : seqOf d = none) : deepD d = d := by
  cases d with
  | list es => cases h
  | tuple es => cases h
  | _ => rw [deepD]
theorem dep_seq {d : PyData} {ds : List PyData} {n : Nat} (h : seqOf d = some ds) (hn : dep d ≤ n + 1) : ∀ e ∈ ds, dep e ≤ n := fun e m => by
  have z := depAll_mem m
  cases d with
  | list es =>
    cases Option.some.inj h
    rw [dep] at hn
    omega
  | tuple es =>
    cases Option.some.inj h
    rw [dep] at hn
    omega
  | _ => cases h
def spDeep (K : PySem.W.Frag) (n : Nat) : Sp := fun vs H Q _ => ∃ (x : V) (d : PyData), vs = [x] ∧ Dq H x d ∧ fewD d = true ∧ dep d ≤ n ∧ ∀ (v : V) (H' : Hp), Same H H' → Dq H' v (deepD d) → Q v H'
section
variable {P : Program} {w : World} {K : PySem.W.Frag} {mg : Str → Option Value} {base : Heap}
theorem sc__law_deep : FnScope ["_law_thing", "_law_item"] ["_law_thing"] (defScope (topS 35)) := ⟨rfl, rfl, rfl, by decide +kernel, rfl, by decide +kernel, by decide +kernel⟩
theorem ok__law_deep {f : Addr} {fd : FuncData} (F : Fun K "_law_deep" "_law_deep" (topS 35) f fd) (mf : mg "_law_deep" = some (.ref f)) (b : Binds K fd ["_law_thing"] []) (cS : Cal P w K mg base 1 "_law_seq" (spLSeq K)) (m_tuple : mg "tuple" = none) : ∀ n : Nat, FnOk P w K mg base CX0 (n + 2) f fd ["_law_thing"] (spDeep K n) := by
  intro n
  induction n with
  | zero =>
    refine F.ok sc__law_deep (fun vs H Q E h => ?_) (fun cdv A outer s0 H vs Q E hr h => ?_)
    · obtain ⟨x, d, rfl, _⟩ := h
      rfl
    · obtain ⟨x, d, rfl, hd, few, hn, k⟩ := h
      refine ⟨_, (pss_cons (ps_if (pt_val (pe_c cS hr (by omega) rfl (pa_cons (pv 0) pa_nil))) pss_never pss_nil)
      (pss_one (ps_ret (pv 0)))), ?_⟩
      refine ⟨_, rfl, x, d, rfl, hd, _, rfl, ?_⟩
      cases e : seqOf d with
      | some ds =>
        exfalso
        cases d with
        | list es => rw [dep] at hn; omega
        | tuple es => rw [dep] at hn; omega
        | _ => cases e
      | none =>
        refine iteF ⟨_, rfl, k x H (Same.refl _) ?_⟩
        rw [deep_flat e]
        exact hd
  | succ n ih =>
    have cI : Cal P w K mg base (n + 2) "_law_deep" (spDeep K n) := ⟨⟨f, fd, _, ih, mf, F.kp, b⟩⟩
    refine F.ok sc__law_deep (fun vs H Q E h => ?_) (fun cdv A outer s0 H vs Q E hr h => ?_)
    · obtain ⟨x, d, rfl, _⟩ := h
      rfl
    · obtain ⟨x, d, rfl, hd, few, hn, k⟩ := h
      refine ⟨_, (pss_cons (ps_if (pt_val (pe_c cS hr (by omega) rfl (pa_cons (pv 0) pa_nil))) (pss_one (ps_ret (pe_callTy call_tuple_of (by rfl) m_tuple (by decide +kernel) (pa_cons (pe_lc (own := [("_law_item", 1)]) (g := gName 1) (tt := tYes) rfl sc__law_deep.nd (pi_seq (pv 0)) (blkOk_by (N := ["_law_thing", "_law_item"]) (sc := defScope (topS 35)) (by decide +kernel)) (fun _ _ _ _ _ => pg_name (i := 1) sc__law_deep.nd rfl (Or.inl rfl)) (fun _ _ _ _ _ => pts_nil) (fun _ _ _ _ _ => (pe_c cI hr (by omega) rfl (pa_cons (pv 1) pa_nil)))) pa_nil)))) pss_nil)
      (pss_one (ps_ret (pv 0)))), ?_⟩
      refine ⟨_, rfl, x, d, rfl, hd, _, rfl, ?_⟩
      cases e : seqOf d with
      | some ds =>
        refine iteT ?_
        obtain ⟨a, xs, rfl, ha, hall⟩ := hd.seq e
        obtain ⟨few1, few2⟩ := few_items few
        rw [itemsD_some e] at few1 few2
        dsimp only [tRet, tCB, tCons, tNil]
        refine lcQd (K := K) deepD (fun R h => ⟨_, rfl, h⟩) (sqv_of ha) hall few1 (fun t _ => deep_noL t) (fun y t H2 R N m s2 hy go => ?_) (fun D ys H2 s2 nD hD hys => ?_)
        · exact ⟨rfl, iteT ⟨_, rfl, y, t, rfl, hy, few2 t m, dep_seq e hn t m, fun v H3 s3 h3 => go v H3 s3 h3⟩⟩
        · refine ⟨D, ys, rfl, .inl ⟨SqL.of hD, fun l nl => ?_⟩⟩
          have sl := same_upd (o := HO.tup ys) nl
          refine k _ _ (s2.trans sl) ?_
          rw [deep_seq e]
          exact .tup upd_same (hys.keep sl)
      | none =>
        refine iteF ⟨_, rfl, k x H (Same.refl _) ?_⟩
        rw [deep_flat e]
        exact hd
end
end My
set_option Elab.async false
set_option linter.all false
set_option maxRecDepth 100000
set_option maxHeartbeats 4000000
namespace My
open PySem PySem.Spec PyProof.Rows L2

def spWord (K : PySem.W.Frag) : Sp := fun vs H Q _ => ∃ (x y : V) (ws : List Int) (d : PyData), vs = [x, y, .str "row", .str "value"] ∧ IntsAt H x ws ∧ Dq H y d ∧ ∀ H', Same H H' → Q (optS (wordD "row" "value" valueD ws d)) H'
theorem ints_seq {K : PySem.W.Frag} {H : Hp} {x : V} {ws : List Int} (h : IntsAt H x ws) : ∃ a, x = .ref a ∧ SqV K H a (ws.map V.int) := by
  obtain ⟨a, e, h⟩ := h
  exact ⟨a, e, sqv_of h⟩
section
variable {P : Program} {w : World} {K : PySem.W.Frag} {mg : Str → Option Value} {base : Heap}
theorem sc__law_word : FnScope ["_law_widths", "_law_thing", "_law_first", "_law_last", "_law_part"] ["_law_widths", "_law_thing", "_law_first", "_law_last"] (defScope (topS 41)) := ⟨rfl, rfl, rfl, by decide +kernel, rfl, by decide +kernel, by decide +kernel⟩
theorem ok__law_word {f : Addr} {fd : FuncData} (F : L2.Fun K "_law_word" "_law_word" (topS 41) f fd) (cS : Cal P w K mg base 1 "_law_seq" (spLSeq K)) (cI : Cal P w K mg base 1 "_law_int" (spLInt K)) (cV : Cal P w K mg base 2 "_law_is_value" (spLVal K)) (cN : Cal P w K mg base 1 "_law_is_name" (spLName K)) (m_len : mg "len" = none) : FnOk P w K mg base CX0 3 f fd ["_law_widths", "_law_thing", "_law_first", "_law_last"] (spWord K) := by
  refine F.ok sc__law_word (fun vs H Q E h => ?_) (fun cdv A outer s0 H vs Q E hr h => ?_)
  · obtain ⟨x, y, ws, d, rfl, _⟩ := h
    rfl
  · obtain ⟨x, y, ws, d, rfl, hx, hd, q⟩ := h
    refine ⟨_, (pss_cons (ps_if (PW.pt (pw_or (pt_not (pt_val (pe_c cS hr (by decide) rfl (pa_cons (pv 1) pa_nil)))) (pw_or (pt_cmpR op_ne (pe_callB call_len_seq (by rfl) m_len PySem.boot_len (pa_cons (pv 1) pa_nil)) pe_int (nomark _)) (pw_or (pt_not (pt_val (pe_c cI hr (by decide) rfl (pa_cons (pe_ix ix_seq (pv 1) pe_int (fun _ _ => rfl)) pa_nil)))) (pw_or1 (pt_not (pt_val (pe_c cS hr (by decide) rfl (pa_cons (pe_ix ix_seq (pv 1) pe_int (fun _ _ => rfl)) pa_nil))))))))) (pss_one (ps_ret (pv 2))) pss_nil)
      (pss_cons (ps_if (PW.pt (pw_or (pt_cmpR op_lt (pe_ix ix_seq (pv 1) pe_int (fun _ _ => rfl)) pe_int (nomark _)) (pw_or1 (pt_cmpR op_ge (pe_ix ix_seq (pv 1) pe_int (fun _ _ => rfl)) (pe_callB call_len_seq (by rfl) m_len PySem.boot_len (pa_cons (pv 0) pa_nil)) (nomark _))))) (pss_one (ps_ret pe_str)) pss_nil)
      (pss_cons (ps_if (pt_cmpR op_ne (pe_callB call_len_seq (by rfl) m_len PySem.boot_len (pa_cons (pe_ix ix_seq (pv 1) pe_int (fun _ _ => rfl)) pa_nil)) (pe_ix ix_seq (pv 0) (pe_ix ix_seq (pv 1) pe_int (fun _ _ => rfl)) (fun _ _ => rfl)) (nomark _)) (pss_one (ps_ret pe_str)) pss_nil)
      (pss_cons (ps_for PassesOwn.never rfl (pi_seq (pe_ix ix_seq (pv 1) pe_int (fun _ _ => rfl))) (pg_name (i := 4) sc__law_word.nd rfl (.inl rfl)) (pss_one (ps_if (PW.pt (pw_and (pt_not (pt_val (pe_c cV hr (by decide) rfl (pa_cons (pv 4) pa_nil)))) (pw_and1 (pt_not (PW.pt (pw_and (pt_cmpR op_eq (pv 3) pe_str (nomark _)) (pw_and1 (pt_val (pe_c cN hr (by decide) rfl (pa_cons (pv 4) pa_nil)))))))))) (pss_one (ps_ret (pv 3))) pss_nil)))
      (pss_one (ps_ret pe_non)))))), ?_⟩
    obtain ⟨wa, rfl, hws⟩ := ints_seq (K := K) hx
    have row : (lenIn 2 2 d && (intD (itemD d 0) && (seqOf (itemD d 1)).isSome)) = false → wordD "row" "value" valueD ws d = some ("row" : Str) := fun z => by
      unfold wordD placeD
      rw [z]
      rfl
    refine ⟨_, rfl, y, d, rfl, hd, _, rfl, ?_⟩
    cases e : seqOf d with
    | none =>
      have hc : lenIn 2 2 d = false := by unfold lenIn; rw [e]
      rw [row (by rw [hc]; rfl)] at q
      exact iteT (iteT ⟨_, rfl, q H (Same.refl _)⟩)
    | some ds =>
      refine iteF ?_
      obtain ⟨a, xs, rfl, hs, hall⟩ := hd.seq e
      have lx := hall.len
      refine ⟨_, rfl, a, _, rfl, hs.imp SqL.of SqT.of, rfl, _, rfl, ?_⟩
      by_cases two : xs.length = 2
      · refine iteNS (by rw [two]; rfl) ?_
        have l2 : ds.length = 2 := by omega
        have hc : lenIn 2 2 d = true := by
          unfold lenIn
          rw [e]
          show (decide ((2 : Int) ≤ (ds.length : Int)) && decide ((ds.length : Int) ≤ 2)) = true
          rw [l2]
          rfl
        rw [hc, Bool.true_and] at row
        obtain ⟨a', xs', t, ea, hs', hl', et, ht⟩ := hd.item (i := 0) e (by omega)
        cases ea
        obtain ⟨a', xs2, r, ea, hs2, hl2, er, hr2⟩ := hd.item (i := 1) e (by omega)
        cases ea
        refine ⟨_, rfl, rd_ix (sqv_of hs') et ⟨t, _, rfl, ht, _, rfl, ?_⟩⟩
        cases hi : intD (itemD d 0) with
        | false =>
          rw [hi] at row
          rw [row rfl] at q
          exact iteT (iteT ⟨_, rfl, q H (Same.refl _)⟩)
        | true =>
          rw [hi, Bool.true_and] at row
          refine iteF ⟨_, rfl, rd_ix (sqv_of hs2) er ⟨r, _, rfl, hr2, _, rfl, ?_⟩⟩
          cases eq : seqOf (itemD d 1) with
          | none =>
            rw [eq] at row
            rw [row rfl] at q
            exact iteT ⟨_, rfl, q H (Same.refl _)⟩
          | some rs =>
            refine iteF ?_
            obtain ⟨i, ei⟩ : ∃ i : Int, itemD d 0 = .int i := by
              cases ed : itemD d 0 with
              | int i => exact ⟨i, rfl⟩
              | _ => rw [ed] at hi; cases hi
            rw [ei] at ht
            cases ht
            have place : placeD ws d = if !wholeD 0 ((ws.length : Int) - 1) (itemD d 0) then some ("table" : Str) else if ((itemsD (itemD d 1)).length : Int) ≠ ws.getD (tabD (itemD d 0)).toNat 0 then some ("width" : Str) else none := by
              unfold placeD
              rw [hc, hi, eq]
              rfl
            have hw : wholeD 0 ((ws.length : Int) - 1) (itemD d 0) = (decide (0 ≤ i) && decide (i ≤ (ws.length : Int) - 1)) := by rw [ei]; rfl
            have tab : ¬ (0 ≤ i ∧ i < ws.length) → wordD "row" "value" valueD ws d = some ("table" : Str) := fun z => by
              have z2 : wholeD 0 ((ws.length : Int) - 1) (itemD d 0) = false := by
                rw [hw, Bool.and_eq_false_iff]
                by_cases z0 : 0 ≤ i
                · exact .inr (decide_eq_false fun z1 => z ⟨z0, by omega⟩)
                · exact .inl (decide_eq_false z0)
              unfold wordD
              rw [place, z2]
              rfl
            have lw : (ws.map V.int).length = ws.length := List.length_map ..
            refine ⟨_, rfl, rd_ix (sqv_of hs') et ⟨_, _, rfl, rfl, _, rfl, ite2 (fun z => ?_) (fun z => ?_)⟩⟩
            · rw [tab (fun y => by have z := of_decide_eq_true z; omega)] at q
              exact iteT (q H (Same.refl _))
            refine ⟨_, rfl, rd_ix (sqv_of hs') et ⟨_, rfl, wa, _, rfl, hws, _, _, rfl, rfl, _, rfl, ?_⟩⟩
            rw [lw]
            refine ite2 (fun z1 => ?_) (fun z1 => ?_)
            · rw [tab (fun y => by have z1 := of_decide_eq_true z1; omega)] at q
              exact q H (Same.refl _)
            have i0 : 0 ≤ i := by
              by_cases y : 0 ≤ i
              · exact y
              · exact absurd (decide_eq_true (show i < 0 by omega)) z
            have i1 : i < ws.length := by
              by_cases y : i < ws.length
              · exact y
              · exact absurd (decide_eq_true (show (ws.length : Int) ≤ i by omega)) z1
            have wt : wholeD 0 ((ws.length : Int) - 1) (itemD d 0) = true := by
              rw [hw, decide_eq_true i0, decide_eq_true (show i ≤ (ws.length : Int) - 1 by omega)]
              rfl
            rw [wt, itemsD_some eq, ei] at place
            obtain ⟨b, ys, rfl, hb, hbl⟩ := hr2.seq eq
            have lb := hbl.len
            have ew : atI (ws.map V.int) i = some (.int (ws.getD i.toNat 0)) := by
              have e1 : ws[i.toNat]? = some (ws.getD i.toNat 0) := by
                rw [List.getD_eq_getElem?_getD, List.getElem?_eq_getElem (by omega)]
                rfl
              have e2 : (ws.map V.int)[i.toNat]? = some (.int (ws.getD i.toNat 0)) := by
                rw [List.getElem?_map, e1]
                rfl
              have e3 := atI_nat e2
              rw [Int.toNat_of_nonneg i0] at e3
              exact e3
            refine ⟨_, rfl, rd_ix (sqv_of hs2) er ⟨b, _, rfl, hb.imp SqL.of SqT.of, _, rfl, _, rfl, rd_ix (sqv_of hs') et (rd_ix hws ew ⟨rfl, _, rfl, ?_⟩)⟩⟩
            by_cases same : (ys.length : Int) = ws.getD i.toNat 0
            · refine iteNS (by rw [same]) ?_
              have pn : placeD ws d = none := by
                rw [place, if_neg (by decide), if_neg (show ¬ ((rs.length : Int) ≠ ws.getD (tabD (.int i)).toNat 0) from fun z => z (by rw [← lb]; exact same))]
              have wd : wordD "row" "value" valueD ws d = if rs.all valueD then none else some ("value" : Str) := by
                unfold wordD
                rw [pn]
                dsimp only
                rw [itemsD_some eq]
              rw [wd] at q
              refine forSeq (K := K) (a := b) (xs := ys) (H0 := H) (fun R h => ⟨_, rfl, rd_ix (sqv_of hs2) er h⟩) (hb.imp SqL.of SqT.of) (Same.refl _) (fun i σ H' => (∃ x4, σ = [some (.ref wa), some (.ref a), some (.str "row"), some (.str "value"), x4]) ∧ Same H H' ∧ (rs.take i).all valueD = true) ⟨⟨_, rfl⟩, Same.refl _, rfl⟩ (fun i σ H' hi hp => hp.2.1) (fun i x σ H' ex hp => ?_) (fun σ H' hp => ?_)
              · obtain ⟨⟨x4, rfl⟩, s1, ok⟩ := hp
                obtain ⟨t, et, hxt⟩ := hbl.get ex
                have tk : (rs.take (i + 1)).all valueD = valueD t := by
                  rw [List.take_add_one, et, List.all_append, ok]
                  simp
                have mt := List.mem_of_getElem? et
                refine ⟨_, rfl, x, t, rfl, hxt.keep s1, _, rfl, ?_⟩
                cases hv : valueD t with
                | true =>
                  refine iteF (iteF ⟨⟨_, rfl⟩, s1, ?_⟩)
                  rw [tk]
                  exact hv
                | false =>
                  have bad : rs.all valueD = false := by
                    cases z : rs.all valueD with
                    | false => rfl
                    | true =>
                      have y := List.all_eq_true.mp z t mt
                      rw [hv] at y
                      cases y
                  rw [bad] at q
                  refine iteT ⟨_, rfl, rfl, _, rfl, ite2 (fun z => absurd (of_decide_eq_true z) (fun z => nomatch V.str.inj z)) fun _ => iteT ⟨_, rfl, ?_⟩⟩
                  exact q H' s1
              · obtain ⟨⟨x4, rfl⟩, s1, ok⟩ := hp
                rw [lb, List.take_length] at ok
                rw [ok] at q
                exact q H' s1
            · have ne : (!decide (V.int ((ys.length : Nat) : Int) = V.int (ws.getD i.toNat 0))) = true := by
                rw [decide_eq_false fun z => same (V.int.inj z)]
                rfl
              have wd : wordD "row" "value" valueD ws d = some ("width" : Str) := by
                unfold wordD
                rw [place, if_neg (by decide), if_pos (show ((rs.length : Int) ≠ ws.getD (tabD (.int i)).toNat 0) from fun z => same (by rw [lb]; exact z))]
                rfl
              rw [ne]
              rw [wd] at q
              exact iteT (q H (Same.refl _))
      · have hc : lenIn 2 2 d = false := by
          unfold lenIn
          rw [e]
          show (decide ((2 : Int) ≤ (ds.length : Int)) && decide ((ds.length : Int) ≤ 2)) = false
          rw [Bool.and_eq_false_iff]
          by_cases z0 : (2 : Int) ≤ (ds.length : Int)
          · exact .inr (decide_eq_false fun z1 => two (by omega))
          · exact .inl (decide_eq_false z0)
        rw [row (by rw [hc]; rfl)] at q
        have ne : (!decide (V.int ((xs.length : Nat) : Int) = V.int 2)) = true := by
          rw [decide_eq_false fun z => two (by have y := V.int.inj z; omega)]
          rfl
        rw [ne]
        exact iteT (iteT ⟨_, rfl, q H (Same.refl _)⟩)
end
end My
set_option Elab.async false
set_option linter.all false
set_option maxRecDepth 100000
set_option maxHeartbeats 4000000
namespace My
open PySem PySem.Spec PyProof.Rows L2
/-! ### repr of things with lists and the dict -/
/-- where the modules' dict lies, no list lies -/
def SysOk (K : PySem.W.Frag) : Prop := ∃ o, K.lookup sysModules = some o ∧ o.cls = .type "dict"
section
variable {X : Cx} {pins : List (Addr × Obj)} {σ : L2.St} {H : Hp} {s : Shared}
mutual
theorem dq_reads (I : Inv X pins σ H s) (sys : SysOk X.K) : ∀ (d : PyData) (v : V) (u : Value), Dq H v d → RelV v u → ∃ as, Reads s.heap u d as ∧ sysModules ∉ as
  | .none, _, _, h, r => by
    cases h
    cases r
    exact ⟨_, Reads.none, fun z => nomatch z⟩
  | .bool b, _, _, h, r => by
    cases h
    cases r
    exact ⟨_, Reads.bool b, fun z => nomatch z⟩
  | .int i, _, _, h, r => by
    cases h
    obtain ⟨t, rfl⟩ := r
    exact ⟨_, Reads.int i t, fun z => nomatch z⟩
  | .str x, _, _, h, r => by
    cases h
    obtain ⟨t, rfl⟩ := r
    exact ⟨_, Reads.str x t, fun z => nomatch z⟩
  | .list ds, _, _, h, r => by
    cases h with
    | lst hs ha =>
      cases r
      obtain ⟨its, rv, ⟨o, n, ho, hc, _, hd⟩, _⟩ := I.list (SqL.of hs)
      obtain ⟨as, hr, no⟩ := dqAll_reads I sys ds _ its ha rv
      refine ⟨_, Reads.list ho hc hd hr, fun z => ?_⟩
      rcases List.mem_cons.mp z with z | z
      · obtain ⟨o', lk, ec⟩ := sys
        have e := I.kIn _ _ lk
        rw [z, ho] at e
        cases e
        rw [hc] at ec
        exact absurd (show "list" = "dict" from by injection ec) (by decide)
      · exact no z
  | .tuple ds, _, _, h, r => by
    cases h with
    | tup hs ha =>
      cases r
      obtain ⟨its, rv, ⟨o, ho, hc, n, hd⟩, _⟩ := I.tuple (SqT.of hs)
      obtain ⟨as, hr, no⟩ := dqAll_reads I sys ds _ its ha rv
      exact ⟨_, Reads.tuple ho hc hd hr, no⟩
  | .dict es, _, _, h, r => by
    cases h with
    | dct ha =>
      cases r
      obtain ⟨_, hsm, vs, kv, o, en, ep, ho, hx, hd, _, pr, _⟩ := dk_of I.hok ha
      have hsm := beq_eq_false_iff_ne.mp hsm
      cases kv with
      | cons k1 k2 =>
      cases k2
      obtain ⟨e1, t2, e2⟩ := k1
      generalize hes : en.toList = el at pr
      cases pr with
      | cons h1 h2 h3 =>
      cases h3
      rcases keyIs_shape h1 with ⟨i, t, z1, z2⟩ | ⟨x, t, z1, _⟩
      · have z1 : Sum.inl 0 = Sum.inl i := e1.trans z1
        cases Sum.inl.inj z1
        rw [e2] at h2
        refine ⟨_, Reads.dict (as := []) (bs := []) ho hx.1 hd ?_ ?_, fun z => ?_⟩
        · rw [hes]
          show ReadsAll s.heap [_] [.int 0] _
          dsimp only
          rw [z2]
          exact .cons (.int 0 t) .nil
        · rw [hes]
          show ReadsAll s.heap [_] [.int 1] _
          dsimp only
          rw [h2]
          exact .cons (.int 1 t2) .nil
        · rcases List.mem_cons.mp z with z | z
          · exact hsm z.symm
          · cases z
      · have z3 := e1.trans z1; cases z3
theorem dqAll_reads (I : Inv X pins σ H s) (sys : SysOk X.K) : ∀ (ds : List PyData) (vs : List V) (us : List Value), DqAll H vs ds → Vals vs us → ∃ as, ReadsAll s.heap us ds as ∧ sysModules ∉ as
  | [], _, _, h, r => by
    cases h
    cases r
    exact ⟨_, ReadsAll.nil, fun z => nomatch z⟩
  | d :: ds, _, _, h, r => by
    cases h with
    | cons h1 h2 =>
      cases r with
      | cons r1 r2 =>
        obtain ⟨as, q1, n1⟩ := dq_reads I sys d _ _ h1 r1
        obtain ⟨bs, q2, n2⟩ := dqAll_reads I sys ds _ _ h2 r2
        exact ⟨_, ReadsAll.cons q1 q2, fun z => (List.mem_append.mp z).elim n1 n2⟩
end
end
/-- repr of a thing, where no repr is under way -/
def rReprQ : List V → Hp → VK → Prop := fun xs H Q => ∃ (v : V) (d : PyData), xs = [v] ∧ Dq H v d ∧ d.showable = true ∧ d.depth ≤ 100 ∧ d.shown.length ≤ sizeLine ∧ Q (.str d.shown) H
theorem call_reprQ {X : Cx} (hg : X.A.guards = some []) (hu : X.A.units + 150 < cLine) (sys : SysOk X.K) : CallR X (.builtin "repr") rReprQ := by
  intro pins s σ H xs us Q I r h
  obtain ⟨v, d, rfl, hd, hs, hz, hl, q⟩ := h
  obtain ⟨u, rfl, ru⟩ : ∃ u, us = [u] ∧ RelV v u := by
    cases r with
    | cons r1 r2 =>
      cases r2
      exact ⟨_, rfl, r1⟩
  obtain ⟨as, rd, no⟩ := dq_reads I sys d _ _ hd ru
  have onRef : ∀ a, u = .ref a → wpAny (model X.prog X.w) X.A (call (.builtin "repr") [u]) (EP X pins σ Q) X.xe s := fun a e => by
    subst e
    refine repr_of_reads' rd hs (fun _ => no) hg (by omega) (fun b o e => e) (fun h' t tk k => ?_) hl
    exact ⟨.str d.shown, H, I.kept k, ⟨t, rfl⟩, q⟩
  cases hd with
  | lst _ _ => exact onRef _ ru
  | tup _ _ => exact onRef _ ru
  | dct _ => exact onRef _ ru
  | non =>
    cases ru
    exact PySem.P.repr_of_none ⟨.str "None", H, I.tok _, ⟨_, rfl⟩, q⟩
  | bl b =>
    cases ru
    exact PySem.P.repr_of_bool ⟨.str (if b then "True" else "False"), H, I.tok _, ⟨_, rfl⟩, q⟩
  | int i =>
    obtain ⟨t, rfl⟩ := ru
    exact PySem.P.repr_of_int (of_decide_eq_true hs) ⟨.str (toString i), H, I.tok _, ⟨_, rfl⟩, q⟩
  | str x =>
    obtain ⟨t, rfl⟩ := ru
    exact PySem.P.repr_of_str ⟨.str (reprText x), H, I.tok _, ⟨_, rfl⟩, q⟩ hl
end My
set_option Elab.async false
set_option linter.all false
set_option maxRecDepth 100000
set_option maxHeartbeats 4000000
namespace My
open PySem PySem.Spec PyProof.Rows L2
/-! ### how long a thing's text is -/
mutual
def szD : PyData → Nat
  | .none => 4
  | .bool _ => 5
  | .int _ => 20
  | .str _ => 12
  | .dict _ => 6
  | .list ds => szDs ds + 3
  | .tuple ds => szDs ds + 3
def szDs : List PyData → Nat
  | [] => 0
  | d :: ds => szD d + 2 + szDs ds
end
def wordsD : List Str := ["a", "b", "c", "d", "e", "f", "g", "h", "i", "A", "", "ab", "1", "0", "form", "body", "atom", "table", "width", "term", "head", "unlike", "many", "heads", "union", "row", "value", "widths", "2"]
def one01 : List (PyData × PyData) → Bool
  | [(.int 0, .int 1)] => true
  | _ => false
/-! the leaves of what the law draws -/
mutual
def leafD : PyData → Bool
  | .none => true
  | .bool _ => true
  | .int i => decide (i.natAbs < 10 ^ 19)
  | .str s => decide (s ∈ wordsD)
  | .dict es => one01 es
  | .list ds => leafDs ds
  | .tuple ds => leafDs ds
def leafDs : List PyData → Bool
  | [] => true
  | d :: ds => leafD d && leafDs ds
end
theorem words_short : ∀ s ∈ wordsD, (reprText s).length ≤ 12 := by decide +kernel
theorem listText_le : ∀ ts : List Str, (listText ts).length ≤ piled ts + 2
  | [] => by decide +kernel
  | t :: r => by
    have e : (listText (t :: r)).length = (textFrom 0 "[" (t :: r)).length + 1 := by
      unfold listText
      rw [strLen_append]
      rfl
    have e2 : textFrom 0 "[" (t :: r) = textFrom 1 ("[" ++ (if 0 > 0 then ", " else "" : String) ++ t) r := rfl
    rw [e, e2, textFrom_length_pos _ _ _ (by decide), strLen_append, strLen_append, piled_cons]
    have e3 : ((if 0 > 0 then ", " else "" : String) : Str).length = 0 := by decide +kernel
    have e4 : ("[" : Str).length = 1 := by decide +kernel
    omega
theorem tupleText_le (ts : List Str) : (tupleText ts).length ≤ piled ts + 3 := by
  unfold tupleText
  rw [strLen_append, strLen_append]
  have e1 : ("(" : Str).length = 1 := by decide +kernel
  have e2 : ((if ts.length == 1 then ",)" else ")" : String) : Str).length ≤ 2 := by split <;> decide +kernel
  have e3 : (Str.join ", " ts).length ≤ piled ts := by
    by_cases h : ts = []
    · subst h
      decide +kernel
    · have := join_length_add ts h
      omega
  omega
theorem one_is {es : List (PyData × PyData)} (h : one01 es = true) : es = [(.int 0, .int 1)] := by
  unfold one01 at h
  split at h
  · rfl
  · cases h
mutual
theorem shown_le : ∀ d : PyData, leafD d = true → d.shown.length ≤ szD d
  | .none, _ => by decide +kernel
  | .bool b, _ => by cases b <;> decide +kernel
  | .int i, h => by
    rw [leafD] at h
    have e := int_text_length_le10 (k := 19) (by decide) (of_decide_eq_true h)
    rw [PyData.shown, szD]
    have e2 : (Str.ofString (toString i)).length = (toString i).length := PySem.ofString_length _
    omega
  | .str s, h => by
    rw [leafD] at h
    rw [PyData.shown, szD]
    exact words_short s (of_decide_eq_true h)
  | .dict es, h => by
    rw [leafD] at h
    rw [one_is h]
    decide +kernel
  | .list ds, h => by
    rw [leafD] at h
    rw [PyData.shown, szD]
    have := listText_le (PyData.shownAll ds)
    have := shownAll_le ds h
    omega
  | .tuple ds, h => by
    rw [leafD] at h
    rw [PyData.shown, szD]
    have := tupleText_le (PyData.shownAll ds)
    have := shownAll_le ds h
    omega
theorem shownAll_le : ∀ ds : List PyData, leafDs ds = true → piled (PyData.shownAll ds) ≤ szDs ds
  | [], _ => by decide +kernel
  | d :: ds, h => by
    rw [leafDs, Bool.and_eq_true] at h
    rw [PyData.shownAll, szDs, piled_cons]
    have := shown_le d h.1
    have := shownAll_le ds h.2
    omega
end
mutual
theorem leaf_showable : ∀ d : PyData, leafD d = true → d.showable = true
  | .none, _ => rfl
  | .bool b, _ => rfl
  | .int i, h => by
    rw [leafD] at h
    have h := of_decide_eq_true h
    rw [PyData.showable]
    refine decide_eq_true ?_
    have : i.natAbs < 2 ^ 64 := by omega
    by_cases z : i.natAbs = 0
    · rw [z]; decide
    · have := (Nat.log2_lt z (k := 64)).mpr this
      omega
  | .str s, h => rfl
  | .dict es, h => by
    rw [leafD] at h
    rw [one_is h]
    decide +kernel
  | .list ds, h => by
    rw [leafD] at h
    rw [PyData.showable]
    exact leafs_showable ds h
  | .tuple ds, h => by
    rw [leafD] at h
    rw [PyData.showable]
    exact leafs_showable ds h
theorem leafs_showable : ∀ ds : List PyData, leafDs ds = true → PyData.showableAll ds = true
  | [], _ => rfl
  | d :: ds, h => by
    rw [leafDs, Bool.and_eq_true] at h
    rw [PyData.showableAll, leaf_showable d h.1, leafs_showable ds h.2]
    rfl
end
mutual
theorem depth_le : ∀ d : PyData, leafD d = true → d.depth ≤ dep d + 1
  | .none, _ => by decide +kernel
  | .bool b, _ => by cases b <;> decide +kernel
  | .int i, h => Nat.zero_le _
  | .str s, h => Nat.zero_le _
  | .dict es, h => by
    rw [leafD] at h
    rw [one_is h]
    decide +kernel
  | .list ds, h => by
    rw [leafD] at h
    rw [PyData.depth, dep]
    have := depths_le ds h
    omega
  | .tuple ds, h => by
    rw [leafD] at h
    rw [PyData.depth, dep]
    have := depths_le ds h
    omega
theorem depths_le : ∀ ds : List PyData, leafDs ds = true → PyData.depthAll ds ≤ depAll ds + 1
  | [], _ => Nat.zero_le _
  | d :: ds, h => by
    rw [leafDs, Bool.and_eq_true] at h
    rw [PyData.depthAll, depAll]
    have := depth_le d h.1
    have := depths_le ds h.2
    omega
end
end My
set_option Elab.async false
set_option linter.all false
set_option maxRecDepth 100000
set_option maxHeartbeats 4000000
namespace My
open PySem PySem.Spec PyProof.Rows L2

/-! ### a def that is called where no repr is under way -/
structure CalG (P : Program) (w : World) (K : PySem.W.Frag) (mg : Str → Option Value) (base : Heap) (k : Nat) (x : Str) (sp : Sp) : Prop where
  ex : ∃ (f : Addr) (fd : FuncData) (ps : List Str), FnG P w K mg base k f fd ps sp ∧ mg x = some (.ref f) ∧ PySem.W.keepIn K (.ref f) = true ∧ Binds K fd ps []
theorem pe_cG {X : Cx} {k j : Nat} {x : Str} {sp : Sp} {p pos : Pos} {e : Expr} {es : List Expr} {t : TA} (c : CalG X.prog X.w X.K X.mg X.base k x sp) (free : X.A.guards = some []) (hr : Room j X.A) (hk : k ≤ j) (hg : Gl X x) (ha : PA X (e :: es) t)
    (d1 : (x == ("__debug__" : Str)) = false := by decide) (d2 : starEach (e :: es) X.env = (false, eval e X.env) :: starEach es X.env := by rfl) (d3 : (backTo pos (starEach es X.env)).any (·.1) = false := by rfl) :
    PE X (.Call (.Name x p) (e :: es) [] pos) (tCall sp [] E0 t) := by
  obtain ⟨f, fd, ps, F, gx, kp, b⟩ := c.ex
  refine ⟨fun pins s σ H Q I h => ?_⟩
  refine wpAny_Call_Name_kw (ld_glob I hg gx ?_ d1)
  refine PySem.W.callWith_K (h₀ := X.base) I.ok.mod.kin kp (thn (ha.run pos pins s σ H _ I h) fun us s1 ⟨vs, H1, I1, r, q⟩ => ⟨I1.kIn, ?_⟩) d2 d3
  have q : sp (vs ++ []) H1 Q E0 := q
  rw [List.append_nil] at q
  have hl : us.length = ps.length := by rw [← r.length]; exact F.len _ _ _ _ q
  refine wpAny_call (codeAny_mono (F.run X.A X.stack s1 H1 ⟨us, []⟩ us vs Q free (hr.mono hk) I1.env0 (by have z := b s1 us I1.kIn (by rw [List.append_nil]; exact hl); rw [List.append_nil] at z; exact z) r q) fun r s' hq => ?_)
  cases r with
  | error e => exact hq.elim
  | ok fl =>
    cases fl with
    | ret u => exact I1.after hq
    | next => exact False.elim hq
    | brk => exact False.elim hq
    | cont => exact False.elim hq
theorem szDs_le {ds : List PyData} {n : Nat} (h : ∀ d ∈ ds, szD d ≤ n) : szDs ds ≤ (n + 2) * ds.length := by
  induction ds with
  | nil => rw [szDs]; exact Nat.zero_le _
  | cons d r ih =>
    have h1 := h d (List.mem_cons_self ..)
    have h2 := ih fun x m => h x (List.mem_cons_of_mem _ m)
    rw [szDs, List.length_cons, Nat.mul_succ]
    omega
theorem leafDs_of {ds : List PyData} (h : ∀ d ∈ ds, leafD d = true) : leafDs ds = true := by
  induction ds with
  | nil => rw [leafDs]
  | cons d r ih =>
    rw [leafDs, h d (List.mem_cons_self ..), ih fun x m => h x (List.mem_cons_of_mem _ m)]
    rfl
theorem leafDs_mem {ds : List PyData} {d : PyData} (h : leafDs ds = true) (m : d ∈ ds) : leafD d = true := by
  induction ds with
  | nil => cases m
  | cons e r ih =>
    rw [leafDs, Bool.and_eq_true] at h
    rcases List.mem_cons.mp m with z | z
    · rw [z]; exact h.1
    · exact ih h.2 z
end My
set_option Elab.async false
set_option linter.all false
set_option maxRecDepth 100000
set_option maxHeartbeats 4000000
namespace My
open PySem PySem.Spec PyProof.Rows L2
/-! ### try: several clauses, each with a name for what it caught -/
/-- the ends of a suite whose name is let go -/
def gone (i : Nat) (D : Ends) : Ends := { nx := fun σ H => D.nx (σ.set i none) H, rt := D.rt, bk := fun σ H => D.bk (σ.set i none) H, ct := fun σ H => D.ct (σ.set i none) H }
abbrev Cls3 := Value × Nat × (Addr → Value → Option Addr → TS)
def wAll (K : PySem.W.Frag) (Wout : WX) (D : Ends) : List Cls3 → WX
  | [] => Wout
  | (c, i, ts) :: r => fun cls d σ H => ∃ b, PySem.W.exmOne K cls c = some b ∧ (b = true → ∀ a, H a = none → ts a cls d (gone i D) (σ.set i (some (.ref a))) H) ∧ (b = false → wAll K Wout D r cls d σ H)
inductive Clauses (X : Cx) : List ExceptHandler → List Cls3 → Prop
  | nil : Clauses X [] []
  | cons {x n : Str} {c : Value} {i : Nat} {ts : Addr → Value → Option Addr → TS} {b₀ : Stmt} {suite : List Stmt} {np pos' : Pos} {hds : List ExceptHandler} {l : List Cls3} (hc : Names X x c) (hi : X.N[i]? = some n) (hln : X.env.kindOf n = some .local)
      (hsu : ∀ (a : Addr) (oe : Obj) (cls : Value) (d : Option Addr) (pn : List (Addr × Obj)), L2N.Zn cls d oe → (∃ vs, oe.data = .fields vs) → PSs (X.suite a ((a, oe) :: pn)) (b₀ :: suite) (ts a cls d)) (r : Clauses X hds l) :
      Clauses X (.ExceptHandler (some (.Name x np)) (some n) (b₀ :: suite) pos' :: hds) ((c, i, ts) :: l)
section
open L2N
variable {X : Cx} {body : List Stmt} {h₀ : ExceptHandler} {hds : List ExceptHandler} {l : List Cls3} {pos : Pos} {tb : WX → TS} {Wout : WX}
theorem ps_tryN (hs : X.stack = X.env :: X.outer) (hf : X.env.frame = some X.env.locals) (nd : X.N.Nodup) (tk : L2N.Takes X Wout)
    (hb : ∀ (W : WX) (pn : List (Addr × Obj)) (xe : Value → Shared → Prop), L2N.Takes (X.tr pn xe) W → PassesOwn (model X.prog X.w) X.A X.env xe → PSs (X.tr pn xe) body (tb W))
    (hh : Clauses X (h₀ :: hds) l) : PS X (.Try body (h₀ :: hds) [] [] pos) (fun D σ H => tb (wAll X.K Wout D l) D σ H) := by
  refine ⟨fun pins s σ H D I wish => ?_⟩
  have ok := I.ok
  have frames : X.A.frames = some (X.env :: X.outer) := by rw [ok.frames, hs]
  refine wpAny_Try_except ?_
  refine wpAny_mono ((hb (wAll X.K Wout D l) (X.pn ++ pins) (fun e t => wpAny (model X.prog X.w) X.A (noteFrame e X.env) (fun _ t2 => wpAny (model X.prog X.w) X.A (setFlight e none) (fun _ t3 =>
    wpAny (model X.prog X.w) X.A (handleBy e X.env (h₀ :: hds)) (SP X pins D) X.xe t3) X.xe t2) X.xe t) (fun u t out => ?_) PassesOwn.looking).run [] s σ H D (I.toTry _) wish) (fun f t sp => ?_) (fun e t z => z)
  · obtain ⟨a, B, sI, pins', σ', H', cls, d, rfl, J', nb, up, sky, na, os, ag, w⟩ := out
    have J : Inv X pins σ' H' sI := J'.ofTry ok
    have sky' : Sky B (X.env :: X.outer) a (Zn cls d) X.env.locals t.heap := by rw [← hs]; exact sky
    show wpAny (model X.prog X.w) X.A (noteFrame (.ref a) X.env) _ _ _
    refine Sky.land Zn.steady frames hf sky' fun g fl up3 => ?_
    obtain ⟨oe, vs, he, hz, hd⟩ := fl.there
    have J3 : Inv X pins σ' H' { t with heap := g } := J.landed nb fl.1 (up.trans up3) os ag
    have notFr : a ∉ frs (X.env :: X.outer) := fun hm => by
      obtain ⟨_, o', e', hnf⟩ := fl.2.2.1.mem hm
      rw [he] at e'
      cases e'
      exact hnf _ hd
    have nL : a ≠ X.env.locals := fun z => notFr (List.mem_filterMap.mpr ⟨X.env, List.mem_cons_self, by rw [hf, z]⟩)
    have nF : a ∉ X.fs := fun hm => by
      obtain ⟨e, me, q⟩ := List.mem_filterMap.mp hm
      exact notFr (List.mem_filterMap.mpr ⟨e, List.mem_cons_of_mem _ me, q⟩)
    have S3 := J3.suite he hd na nL nF
    have turn : ∀ {hds' : List ExceptHandler} {l' : List Cls3}, Clauses X hds' l' → wAll X.K Wout D l' cls d σ' H' → wpAny (model X.prog X.w) X.A (handleBy (.ref a) X.env hds') (SP X pins D) X.xe { t with heap := g } := by
      intro hds' l' hk
      induction hk with
      | nil =>
        intro w
        refine wpAny_handleBy_nil ?_
        obtain ⟨k1, k2, k3, oe, vs, T, oT, ts', he, hz, hd, h1, hr⟩ := id fl
        unfold PySem.passOn
        refine wpAny_bind (wpAny_field he hd h1 ?_)
        rw [if_neg (show ¬ ((Value.ref T == Value.none) = true) from by simp)]
        have last : wpAny (model X.prog X.w) X.A (setFlight (.ref a) X.env.frame) (fun _ t4 => wpAny (model X.prog X.w) X.A (throw (.ref a) : Sem Flow) (SP X pins D) X.xe t4) X.xe { t with heap := g } := by
          rw [hf]
          refine HandSPX.setFlight_upZ fl fun g4 hh4 up4 => wpAny_throw (tk _ _ ?_)
          exact ⟨a, B, sI, pins, σ', H', cls, d, rfl, J, nb, (up.trans up3).trans up4, .inr (.inr (by rw [hs]; exact hh4)), na, os, ag, w⟩
        first
          | exact wpAny_bind (wpAny_pure (wpAny_bind last))
          | exact wpAny_bind last
      | @cons x n c i ts b₀ suite np pos' hds2 l2 hc hi hln hsu r ih =>
        intro w
        obtain ⟨b, hb1, hyes, hno⟩ := w
        refine wpAny_handleBy_cons (codeAny_handlers_test ?_) (by intro q; cases q)
        have typ : PySem.W.Looks (model X.prog X.w) g (typeOf (.ref a)) cls := fun A Q E s k q => wpAny_typeOf_ref (k _ _ he) (by rw [hz.1]; exact q)
        have asked := PySem.W.exm_one (M := model X.prog X.w) (J3.kIn) typ hb1
        have load : ∀ {Q : Value → Shared → Prop} {E : Value → Shared → Prop}, Q c { t with heap := g } → wpAny (model X.prog X.w) (X.A.mark (some (.ref a))) (eval (.Name x np) X.env) Q E { t with heap := g } := fun {Q E} q => by
          obtain ⟨hg, hdbg, hm | ⟨hm, hv, hnn⟩⟩ := hc
          · exact ld_glob (X := X.suite a ((a, oe) :: (X.pn ++ pins))) S3 hg hm q hdbg
          · exact ld_blt (X := X.suite a ((a, oe) :: (X.pn ++ pins))) S3 hg hm hv q hnn hdbg
        refine load (asked.here ?_)
        cases b with
        | true =>
          refine codeAny_handlers_suite_as ?_
          refine HandSPX.lands_againZ fl fun g4 fl4 up4 => ?_
          have J4 : Inv X pins σ' H' { t with heap := g4 } := J.landed nb fl4.1 ((up.trans up3).trans up4) os ag
          obtain ⟨oe4, vs4, he4, hz4, hd4⟩ := fl4.there
          have S4 := J4.suite he4 hd4 na nL nF
          refine store_ok (X := X.suite a ((a, oe4) :: (X.pn ++ pins))) (v := .ref a) S4 nd hi (.inl hln) rfl (fun t5 S5 => ?_) (.inr hln)
          refine wpAny_mono ((hsu a oe4 cls d (X.pn ++ pins) hz4 ⟨_, hd4⟩).run [] t5 _ H' _ S5 (hyes rfl a na)) (fun f t6 sp => ?_) (fun _ _ z => False.elim z)
          have leave : ∀ {σ6 : L2.St} {H6 : Hp} {Q : Shared → Prop}, Inv (X.suite a ((a, oe4) :: (X.pn ++ pins))) [] σ6 H6 t6 → (∀ t7, Inv X pins (σ6.set i none) H6 t7 → Q t7) →
              wpAny (model X.prog X.w) X.A (do bindName X.env n .none; unbindBehindTheSuite X.env n pos') (fun _ t7 => Q t7) X.xe t6 := fun {σ6 H6 Q} S6 hq => gone_ok (S6.unsuite ok) nd hi hln hq
          cases f with
          | next =>
            obtain ⟨σ6, H6, S6, q6⟩ := sp
            exact leave S6 fun t7 J7 => ⟨_, _, J7, q6⟩
          | brk =>
            obtain ⟨σ6, H6, S6, q6⟩ := sp
            exact leave S6 fun t7 J7 => ⟨_, _, J7, q6⟩
          | cont =>
            obtain ⟨σ6, H6, S6, q6⟩ := sp
            exact leave S6 fun t7 J7 => ⟨_, _, J7, q6⟩
          | ret u =>
            obtain ⟨v6, σ6, H6, S6, r6, q6⟩ := sp
            exact leave S6 fun t7 J7 => ⟨_, _, _, J7, r6, q6⟩
        | false =>
          show wpAny _ X.A (handleBy (.ref a) X.env hds2) _ _ _
          exact ih (hno rfl)
    exact turn hh w
  · cases f with
    | next =>
      obtain ⟨σ', H', J', q⟩ := sp
      exact wpAny_execs_nil ⟨σ', H', J'.ofTry ok, q⟩
    | brk =>
      obtain ⟨σ', H', J', q⟩ := sp
      exact ⟨σ', H', J'.ofTry ok, q⟩
    | cont =>
      obtain ⟨σ', H', J', q⟩ := sp
      exact ⟨σ', H', J'.ofTry ok, q⟩
    | ret u =>
      obtain ⟨v, σ', H', J', r, q⟩ := sp
      exact ⟨v, σ', H', J'.ofTry ok, r, q⟩
end
end My
set_option Elab.async false
set_option linter.all false
set_option maxRecDepth 100000
set_option maxHeartbeats 4000000
namespace My
open PySem PySem.Spec PyProof.Rows L2

/-- what an except clause asks: this class is caught by that one -/
def Caught (K : PySem.W.Frag) (D C : Addr) (b : Bool) : Prop := PySem.W.exmOne K (.ref D) (.ref C) = some b
theorem takesF {X : Cx} : L2N.Takes X (fun _ _ _ _ => False) := fun _ _ x => by
  obtain ⟨_, _, _, _, _, _, _, _, _, _, _, _, _, _, _, _, z⟩ := x
  exact z.elim
/-! what becomes of widths, rows, stores; errors as the law writes them -/
def resW (dw : PyData) : PyData := match wResD dw with
  | some i => .list [.int i]
  | none => .tuple ((wsOf dw).map PyData.int)
def resR (dw d : PyData) : PyData := match wResD dw with
  | some i => .list [.int i, .str "widths"]
  | none => match rowW (wsOf dw) d with
    | some w => .list [.str w]
    | none => rowT d
def StoreEnd (ws : List Int) (d r : PyData) : Prop := match storeR ws d with
  | some u => r = .list [.int u.1, .str u.2]
  | none => ∃ es, IsStore ((itemsD d).map rowT) es ∧ r = .tuple es
def ResS (dw d r : PyData) : Prop := match wResD dw with
  | some i => r = .list [.int i, .str "widths"]
  | none => StoreEnd (wsOf dw) d r
def spChkW (K : PySem.W.Frag) : Sp := fun vs H Q _ => ∃ (x : V) (dw : PyData), vs = [x] ∧ Dq H x dw ∧ ∀ (v : V) (H' : Hp), Same H H' → Dq H' v (resW dw) → Q v H'
def spChkR (K : PySem.W.Frag) : Sp := fun vs H Q _ => ∃ (x y : V) (dw d : PyData), vs = [x, y] ∧ Dq H x dw ∧ Dq H y d ∧ fewD d = true ∧ ∀ (v : V) (H' : Hp), Same H H' → Dq H' v (resR dw d) → Q v H'
def spChkS (K : PySem.W.Frag) : Sp := fun vs H Q _ => ∃ (x y : V) (dw d : PyData), vs = [x, y] ∧ Dq H x dw ∧ Dq H y d ∧ fewD d = true ∧ ∀ (v : V) (r : PyData) (H' : Hp), Same H H' → ResS dw d r → Dq H' v r → Q v H'
theorem dqs_ints {H : Hp} : ∀ ns : List Int, DqAll H (ns.map V.int) (ns.map PyData.int)
  | [] => .nil
  | n :: ns => .cons (.int n) (dqs_ints ns)
section
variable {P : Program} {w : World} {K : PySem.W.Frag} {mg : Str → Option Value} {base : Heap}
theorem sc__law_checked_widths : FnScope ["_law_widths", "wrong", "_law_found"] ["_law_widths"] (defScope (topS 43)) := ⟨rfl, rfl, rfl, by decide +kernel, rfl, by decide +kernel, by decide +kernel⟩
theorem ok__law_checked_widths {f : Addr} {fd : FuncData} (F : L2.Fun K "_law_checked_widths" "_law_checked_widths" (topS 43) f fd) {BW : Addr} (cQ : CalX P w K mg base 4 "check_widths" (spCheckW K BW)) (RW : ErrF P w K mg base "BadWidths" BW ["index"]) (ww : Caught K BW BW true) : FnOk P w K mg base CX0 5 f fd ["_law_widths"] (spChkW K) := by
  refine F.ok sc__law_checked_widths (fun vs H Q E h => ?_) (fun cdv A outer s0 H vs Q E hr h => ?_)
  · obtain ⟨x, dw, rfl, _⟩ := h
    rfl
  · obtain ⟨x, dw, rfl, hx, k⟩ := h
    refine ⟨_, (pss_cons (ps_tryN rfl rfl sc__law_checked_widths.nd takesF (fun W pn xe tk _ => (pss_one (ps_set (i := 2) sc__law_checked_widths.nd rfl (.inl rfl) (show PE _ _ (tCallSD (spCheckW K BW) [] (WE W) _) from pe_cX cQ tk hr (by decide) rfl (pa_cons (pv 0) pa_nil))))) (.cons ⟨rfl, by decide, .inl RW.gx⟩ (i := 1) rfl rfl (fun a oe cls d pn hz hf => (pss_one (ps_set (i := 2) sc__law_checked_widths.nd rfl (.inl rfl) (pe_lst (pa_cons (pe_xf RW.xf (RW.nf "index" (by decide)) hz.zc hf (pv 1)) pa_nil))))) .nil)) (pss_one (ps_ret (pv 2)))), ?_⟩
    have lst1 : (1 : Nat) ≤ sizeLine := Nat.le_of_lt (small1000 (by omega))
    unfold resW at k
    refine ⟨_, rfl, x, dw, rfl, hx, ?_⟩
    cases ew : wResD dw with
    | some i =>
      rw [ew] at k
      dsimp only at k
      refine .inr ⟨i, rfl, fun dd H1 s1 nd ed => ⟨true, ww, fun _ a na => ?_, fun z => nomatch z⟩⟩
      refine ⟨_, rfl, rfl, rfl, dd, _, _, rfl, ed, rfl, lst1, fun p np => ?_⟩
      exact ⟨_, rfl, k _ _ (s1.trans (same_upd np)) (.lst upd_same (.cons (.int i) .nil))⟩
    | none =>
      rw [ew] at k
      exact .inl ⟨rfl, fun p H1 s1 hp => ⟨_, rfl, k _ _ s1 (.tup hp (dqs_ints _))⟩⟩
theorem sc__law_checked_row : FnScope ["_law_widths", "_law_row", "wrong", "_law_found"] ["_law_widths", "_law_row"] (defScope (topS 44)) := ⟨rfl, rfl, rfl, by decide +kernel, rfl, by decide +kernel, by decide +kernel⟩
theorem ok__law_checked_row {f : Addr} {fd : FuncData} (F : L2.Fun K "_law_checked_row" "_law_checked_row" (topS 44) f fd) {BW BR : Addr} (cQ : CalX P w K mg base 6 "check_row" (spCheckRow BW BR K)) (RR : ErrF P w K mg base "BadRow" BR ["what"]) (RW : ErrF P w K mg base "BadWidths" BW ["index"]) (rr : Caught K BR BR true) (wr : Caught K BW BR false) (ww : Caught K BW BW true) : FnOk P w K mg base CX0 7 f fd ["_law_widths", "_law_row"] (spChkR K) := by
  refine F.ok sc__law_checked_row (fun vs H Q E h => ?_) (fun cdv A outer s0 H vs Q E hr h => ?_)
  · obtain ⟨x, y, dw, d, rfl, _⟩ := h
    rfl
  · obtain ⟨x, y, dw, d, rfl, hx, hd, few, k⟩ := h
    refine ⟨_, (pss_cons (ps_tryN rfl rfl sc__law_checked_row.nd takesF (fun W pn xe tk _ => (pss_one (ps_set (i := 3) sc__law_checked_row.nd rfl (.inl rfl) (show PE _ _ (tCallSD (spCheckRow BW BR K) [] (WE W) _) from pe_cX cQ tk hr (by decide) rfl (pa_cons (pv 0) (pa_cons (pv 1) pa_nil)))))) (.cons ⟨rfl, by decide, .inl RR.gx⟩ (i := 2) rfl rfl (fun a oe cls d pn hz hf => (pss_one (ps_set (i := 3) sc__law_checked_row.nd rfl (.inl rfl) (pe_lst (pa_cons (pe_xf RR.xf (RR.nf "what" (by decide)) hz.zc hf (pv 2)) pa_nil))))) (.cons ⟨rfl, by decide, .inl RW.gx⟩ (i := 2) rfl rfl (fun a oe cls d pn hz hf => (pss_one (ps_set (i := 3) sc__law_checked_row.nd rfl (.inl rfl) (pe_lst (pa_cons (pe_xf RW.xf (RW.nf "index" (by decide)) hz.zc hf (pv 2)) (pa_cons pe_str pa_nil)))))) .nil))) (pss_one (ps_ret (pv 3)))), ?_⟩
    have lst1 : (1 : Nat) ≤ sizeLine := Nat.le_of_lt (small1000 (by omega))
    have lst2 : (2 : Nat) ≤ sizeLine := Nat.le_of_lt (small1000 (by omega))
    unfold resR at k
    refine ⟨_, rfl, _, rfl, x, y, dw, d, rfl, hx, hd, few, ?_⟩
    cases ew : wResD dw with
    | some i =>
      rw [ew] at k
      dsimp only at k
      refine .inl ⟨i, rfl, fun dd H1 s1 nd ed => ?_⟩
      refine ⟨false, wr, fun z => (nomatch z), fun _ => ⟨true, ww, fun _ a na => ?_, fun z => nomatch z⟩⟩
      refine ⟨_, rfl, rfl, rfl, dd, _, _, rfl, ed, rfl, lst2, fun p np => ?_⟩
      exact ⟨_, rfl, k _ _ (s1.trans (same_upd np)) (.lst upd_same (.cons (.int i) (.cons (.str _) .nil)))⟩
    | none =>
      rw [ew] at k
      dsimp only at k
      cases er : rowW (wsOf dw) d with
      | some wd =>
        rw [er] at k
        dsimp only at k
        refine .inr (.inl ⟨rfl, wd, rfl, fun dd H1 s1 nd ed => ⟨true, rr, fun _ a na => ?_, fun z => nomatch z⟩⟩)
        refine ⟨_, rfl, rfl, rfl, dd, _, _, rfl, ed, rfl, lst1, fun p np => ?_⟩
        exact ⟨_, rfl, k _ _ (s1.trans (same_upd np)) (.lst upd_same (.cons (.str wd) .nil))⟩
      | none =>
        rw [er] at k
        exact .inr (.inr ⟨rfl, rfl, fun v H1 s1 hv => ⟨_, rfl, k _ _ s1 hv⟩⟩)
theorem sc__law_checked_store : FnScope ["_law_widths", "_law_rows", "wrong", "_law_found"] ["_law_widths", "_law_rows"] (defScope (topS 45)) := ⟨rfl, rfl, rfl, by decide +kernel, rfl, by decide +kernel, by decide +kernel⟩
theorem ok__law_checked_store {f : Addr} {fd : FuncData} (F : L2.Fun K "_law_checked_store" "_law_checked_store" (topS 45) f fd) {BW BS : Addr} (cQ : CalX P w K mg base 6 "check_store" (spCheckStore BW BS K)) (RS : ErrF P w K mg base "BadStore" BS ["index", "what"]) (RW : ErrF P w K mg base "BadWidths" BW ["index"]) (ss : Caught K BS BS true) (ws_ : Caught K BW BS false) (ww : Caught K BW BW true) : FnOk P w K mg base CX0 7 f fd ["_law_widths", "_law_rows"] (spChkS K) := by
  refine F.ok sc__law_checked_store (fun vs H Q E h => ?_) (fun cdv A outer s0 H vs Q E hr h => ?_)
  · obtain ⟨x, y, dw, d, rfl, _⟩ := h
    rfl
  · obtain ⟨x, y, dw, d, rfl, hx, hd, few, k⟩ := h
    refine ⟨_, (pss_cons (ps_tryN rfl rfl sc__law_checked_store.nd takesF (fun W pn xe tk _ => (pss_one (ps_set (i := 3) sc__law_checked_store.nd rfl (.inl rfl) (show PE _ _ (tCallSD (spCheckStore BW BS K) [] (WE W) _) from pe_cX cQ tk hr (by decide) rfl (pa_cons (pv 0) (pa_cons (pv 1) pa_nil)))))) (.cons ⟨rfl, by decide, .inl RS.gx⟩ (i := 2) rfl rfl (fun a oe cls d pn hz hf => (pss_one (ps_set (i := 3) sc__law_checked_store.nd rfl (.inl rfl) (pe_lst (pa_cons (pe_xf RS.xf (RS.nf "index" (by decide)) hz.zc hf (pv 2)) (pa_cons (pe_xf RS.xf (RS.nf "what" (by decide)) hz.zc hf (pv 2)) pa_nil)))))) (.cons ⟨rfl, by decide, .inl RW.gx⟩ (i := 2) rfl rfl (fun a oe cls d pn hz hf => (pss_one (ps_set (i := 3) sc__law_checked_store.nd rfl (.inl rfl) (pe_lst (pa_cons (pe_xf RW.xf (RW.nf "index" (by decide)) hz.zc hf (pv 2)) (pa_cons pe_str pa_nil)))))) .nil))) (pss_one (ps_ret (pv 3)))), ?_⟩
    have lst2 : (2 : Nat) ≤ sizeLine := Nat.le_of_lt (small1000 (by omega))
    unfold ResS StoreEnd at k
    refine ⟨_, rfl, _, rfl, x, y, dw, d, rfl, hx, hd, few, ?_⟩
    cases ew : wResD dw with
    | some i =>
      rw [ew] at k
      dsimp only at k
      refine .inl ⟨i, rfl, fun dd H1 s1 nd ed => ?_⟩
      refine ⟨false, ws_, fun z => (nomatch z), fun _ => ⟨true, ww, fun _ a na => ?_, fun z => nomatch z⟩⟩
      refine ⟨_, rfl, rfl, rfl, dd, _, _, rfl, ed, rfl, lst2, fun p np => ?_⟩
      exact ⟨_, rfl, k _ _ _ (s1.trans (same_upd np)) rfl (.lst upd_same (.cons (.int i) (.cons (.str _) .nil)))⟩
    | none =>
      rw [ew] at k
      dsimp only at k
      cases er : storeR (wsOf dw) d with
      | some u =>
        obtain ⟨i, wd⟩ := u
        rw [er] at k
        dsimp only at k
        refine .inr (.inl ⟨rfl, i, wd, rfl, fun dd H1 s1 nd ed => ⟨true, ss, fun _ a na => ?_, fun z => nomatch z⟩⟩)
        refine ⟨_, rfl, rfl, rfl, dd, _, _, rfl, ed, rfl, _, rfl, rfl, rfl, dd, _, _, rfl, ed, rfl, lst2, fun p np => ?_⟩
        exact ⟨_, rfl, k _ _ _ (s1.trans (same_upd np)) rfl (.lst upd_same (.cons (.int i) (.cons (.str wd) .nil)))⟩
      | none =>
        rw [er] at k
        exact .inr (.inr ⟨rfl, rfl, fun v es H1 s1 st hv => ⟨_, rfl, k _ _ _ s1 ⟨es, st, rfl⟩ hv⟩⟩)
end
end My
set_option Elab.async false
set_option linter.all false
set_option maxRecDepth 100000
set_option maxHeartbeats 4000000
namespace My
open PySem PySem.Spec PyProof.Rows L2
/-- for i in range(len(xs)): data told wrong by f let out -/
theorem forAt {β : Type} {ta : TA} {g : TG} {tb : TS} {D : Ends} {σ : L2.St} {H : Hp} (f : PyData → Option β) (ds : List PyData) (S : L2.St → Prop) (h0 : S σ) (few : ds.length ≤ 1000)
    (hv : ∀ R : List V → Hp → Prop, R [.int (ds.length : Nat)] H → ta σ H R)
    (hl : ∀ (i : Nat) (d : PyData) (σ : L2.St) (H' : Hp) (N : L2.St → Hp → Prop), S σ → Same H H' → ds[i]? = some d → (f d = none → ∀ σ' H2, S σ' → Same H' H2 → N σ' H2) → (∀ w, f d = some w → firstW f 0 ds = some (w, i)) →
      g (.int (i : Nat)) σ H' fun σ2 H2 => tb { D with nx := N, ct := N, bk := D.nx } σ2 H2)
    (he : firstW f 0 ds = none → ∀ σ H', S σ → Same H H' → D.nx σ H') : tFor (iRng1 ta) g tb D σ H := by
  refine hv _ ⟨(ds.length : Nat), rfl, by omega, by omega, ?_⟩
  rw [Int.toNat_natCast]
  refine for_range (lo := 0) (n := ds.length) (fun i σ H' => Same H H' ∧ S σ ∧ firstW f 0 ds = firstW f i (ds.drop i)) ⟨Same.refl _, h0, rfl⟩ ?_ ?_
  · rintro i σ H' li ⟨s, hS, e⟩
    have e0 : (0 : Int) + (i : Int) = ((i : Nat) : Int) := Int.zero_add _
    rw [e0]
    rw [firstW_drop li] at e
    refine hl i ds[i] σ H' _ hS s (List.getElem?_eq_getElem li) (fun z σ' H2 h2 s2 => ⟨s.trans s2, h2, ?_⟩) (fun w z => ?_)
    · rw [z] at e
      exact e
    · rw [z] at e
      exact e
  · rintro σ H' ⟨s, hS, e⟩
    rw [List.drop_length] at e
    exact he e σ H' hS s
theorem len_in {l g : Int} {d : PyData} {ds : List PyData} (e : seqOf d = some ds) : lenIn l g d = (decide (l ≤ (ds.length : Int)) && decide ((ds.length : Int) ≤ g)) := by
  unfold lenIn
  rw [e]
theorem len_no {l g : Int} {d : PyData} (e : seqOf d = none) : lenIn l g d = false := by
  unfold lenIn
  rw [e]

theorem IntsAt.keep {H H' : Hp} {x : V} {ws : List Int} (h : IntsAt H x ws) (s : Same H H') : IntsAt H' x ws := by
  obtain ⟨a, e, h⟩ := h
  exact ⟨a, e, h.imp (s _ _) (s _ _)⟩
theorem whole_dec (l g n : Int) : wholeD l g (.int n) = (decide (l ≤ n) && decide (n ≤ g)) := rfl
theorem sqV_keep {K : PySem.W.Frag} {H H' : Hp} {a : Addr} {xs : List V} (h : SqV K H a xs) (s : Same H H') : SqV K H' a xs := h.imp s.seq fun h => seqT_keep h s
theorem ints_seq' {K : PySem.W.Frag} {H : Hp} {x : V} {ws : List Int} (h : IntsAt H x ws) : ∃ a, x = .ref a ∧ SqV K H a (ws.map V.int) := ints_seq h
/-- widths that are right -/
def WsOk (ws : List Int) : Prop := 1 ≤ ws.length ∧ ws.length ≤ 6 ∧ ∀ w ∈ ws, 1 ≤ w ∧ w ≤ 3
theorem firstW_no {α β : Type} {f : α → Option β} : ∀ {xs : List α} {i : Nat}, (∀ x ∈ xs, f x = none) → firstW f i xs = none
  | [], _, _ => rfl
  | x :: xs, i, h => by
    rw [firstW, h x (List.mem_cons_self ..)]
    exact firstW_no fun y m => h y (List.mem_cons_of_mem _ m)
theorem ws_right {dw : PyData} {ws : List Int} (h : WsOk ws) (e : seqOf dw = some (ws.map PyData.int)) : wResD dw = none ∧ wsOf dw = ws := by
  constructor
  · unfold wResD
    rw [e]
    dsimp only
    rw [List.length_map, if_pos ⟨h.1, h.2.1⟩, firstW_no fun x m => ?_]
    · rfl
    · obtain ⟨w, mw, rfl⟩ := List.mem_map.mp m
      have z := h.2.2 w mw
      unfold wBadD
      rw [whole_dec, decide_eq_true z.1, decide_eq_true z.2]
      rfl
  · unfold wsOf
    rw [itemsD_some e, List.map_map]
    exact List.map_id' ws
def spWDue (K : PySem.W.Frag) : Sp := fun vs H Q _ => ∃ (x : V) (dw : PyData), vs = [x] ∧ Dq H x dw ∧ fewD dw = true ∧ ∀ (v : V) (H' : Hp), Same H H' → Dq H' v (resW dw) → Q v H'
def spSDue (K : PySem.W.Frag) : Sp := fun vs H Q _ => ∃ (x y : V) (ws : List Int) (d : PyData), vs = [x, y] ∧ IntsAt H x ws ∧ WsOk ws ∧ Dq H y d ∧ fewD d = true ∧ dep d ≤ 8 ∧ ∀ (v : V) (r : PyData) (H' : Hp), Same H H' → StoreEnd ws d r → Dq H' v r → Q v H'
def spLVals (K : PySem.W.Frag) : Sp := fun vs H Q _ => ∃ (x : V) (es : List PyData), vs = [x] ∧ Dq H x (.tuple es) ∧ (∀ e ∈ es, RowD e) ∧ es.length ≤ 60 ∧
  ∀ (ns : List Int) (r : Addr) (H' : Hp), VOf es ns → Same H H' → H' r = some (.lst (ns.map V.int)) → Q (.ref r) H'
theorem deep_ints : ∀ {rs : List PyData}, (∀ y ∈ rs, valueD y = true) → rs.map deepD = rs
  | [], _ => rfl
  | y :: rs, h => by
    rw [List.map_cons, deep_ints fun z m => h z (List.mem_cons_of_mem _ m), (whole_int (h y (List.mem_cons_self ..))).1, deepD]
theorem deep_row {ws : List Int} {d : PyData} (h : rowW ws d = none) : deepD d = rowT d := by
  obtain ⟨t, r, rs, i, ed, e0, e1, er, rfl, _, _, _, k3⟩ := row_seq h
  rw [deep_seq ed]
  unfold rowT
  rw [e0, e1, itemsD_some er, List.map_cons, List.map_cons, List.map_nil, deepD, deep_seq er, deep_ints k3]
section
variable {P : Program} {w : World} {K : PySem.W.Frag} {mg : Str → Option Value} {base : Heap}
theorem sc__law_widths_due : FnScope ["_law_widths", "_law_at"] ["_law_widths"] (defScope (topS 46)) := ⟨rfl, rfl, rfl, by decide +kernel, rfl, by decide +kernel, by decide +kernel⟩
theorem ok__law_widths_due {f : Addr} {fd : FuncData} (F : L2.Fun K "_law_widths_due" "_law_widths_due" (topS 46) f fd) (cS : Cal P w K mg base 1 "_law_seq" (spLSeq K)) (cI : Cal P w K mg base 1 "_law_int" (spLInt K)) (m_len : mg "len" = none) (m_range : mg "range" = none) (m_tuple : mg "tuple" = none) : FnOk P w K mg base CX0 3 f fd ["_law_widths"] (spWDue K) := by
  refine F.ok sc__law_widths_due (fun vs H Q E h => ?_) (fun cdv A outer s0 H vs Q E hr h => ?_)
  · obtain ⟨x, dw, rfl, _⟩ := h
    rfl
  · obtain ⟨x, dw, rfl, hx, fw, q⟩ := h
    refine ⟨_, (pss_cons (ps_if (PW.pt (pw_or (pt_not (pt_val (pe_c cS hr (by decide) rfl (pa_cons (pv 0) pa_nil)))) (pw_or (pt_cmpR op_lt (pe_callB call_len_seq (by rfl) m_len PySem.boot_len (pa_cons (pv 0) pa_nil)) pe_int (nomark _)) (pw_or1 (pt_cmpR op_gt (pe_callB call_len_seq (by rfl) m_len PySem.boot_len (pa_cons (pv 0) pa_nil)) pe_int (nomark _)))))) (pss_one (ps_ret (pe_lst (pa_cons pe_int pa_nil)))) pss_nil)
      (pss_cons (ps_for PassesOwn.never rfl (pi_range1 (by rfl) m_range (pa_cons (pe_callB call_len_seq (by rfl) m_len PySem.boot_len (pa_cons (pv 0) pa_nil)) pa_nil)) (pg_name (i := 1) sc__law_widths_due.nd rfl (.inl rfl)) (pss_one (ps_if (PW.pt (pw_or (pt_not (pt_val (pe_c cI hr (by decide) rfl (pa_cons (pe_ix ix_seq (pv 0) (pv 1) (fun _ _ => rfl)) pa_nil)))) (pw_or (pt_cmpR op_lt (pe_ix ix_seq (pv 0) (pv 1) (fun _ _ => rfl)) pe_int (nomark _)) (pw_or1 (pt_cmpR op_gt (pe_ix ix_seq (pv 0) (pv 1) (fun _ _ => rfl)) pe_int (nomark _)))))) (pss_one (ps_ret (pe_lst (pa_cons (pv 1) pa_nil)))) pss_nil)))
      (pss_one (ps_ret (pe_callTy call_tuple_of (by rfl) m_tuple (by decide +kernel) (pa_cons (pv 0) pa_nil)))))), ?_⟩
    have lst1 : (1 : Nat) ≤ sizeLine := Nat.le_of_lt (small1000 (by omega))
    have err : ∀ (i : Int) (p : Addr) (H1 : Hp), Same H H1 → H1 p = none → wResD dw = some i → Q (.ref p) (upd H1 p (.lst [.int i])) := fun i p H1 s1 np e => by
      refine q _ _ (s1.trans (same_upd np)) ?_
      unfold resW
      rw [e]
      exact .lst upd_same (.cons (.int i) .nil)
    refine ⟨_, rfl, x, dw, rfl, hx, _, rfl, ?_⟩
    cases e : seqOf dw with
    | none => exact iteT (iteT ⟨lst1, fun p np => err 0 p H (Same.refl _) np (by unfold wResD; rw [e])⟩)
    | some ds =>
      have eW : wResD dw = if 1 ≤ ds.length ∧ ds.length ≤ 6 then (firstW wBadD 0 ds).map fun u => (u.2 : Int) else some 0 := by unfold wResD; rw [e]
      refine iteF ?_
      obtain ⟨a, xs, rfl, hs, hall⟩ := hx.seq e
      have lx := hall.len
      have few := (few_items fw).1
      rw [itemsD_some e] at few
      refine ⟨_, rfl, a, _, rfl, hs.imp SqL.of SqT.of, _, _, rfl, rfl, _, rfl, ite2 (fun z => ?_) (fun z => ?_)⟩
      · refine iteT ⟨lst1, fun p np => err 0 p H (Same.refl _) np ?_⟩
        have z := of_decide_eq_true z
        rw [eW, if_neg (by omega)]
      refine ⟨_, rfl, a, _, rfl, hs.imp SqL.of SqT.of, _, _, rfl, rfl, _, rfl, ite2 (fun z1 => ?_) (fun z1 => ?_)⟩
      · refine ⟨lst1, fun p np => err 0 p H (Same.refl _) np ?_⟩
        have z1 := of_decide_eq_true z1
        rw [eW, if_neg (by omega)]
      have n1 : ¬ (xs.length : Int) < 1 := fun y => z (decide_eq_true y)
      have n6 : ¬ (xs.length : Int) > 6 := fun y => z1 (decide_eq_true y)
      rw [if_pos (by omega)] at eW
      dsimp only [tNext, tSeq]
      refine forAt wBadD ds (fun σ => ∃ v1, σ = [some (.ref a), v1]) ⟨_, rfl⟩ few (fun R h => ⟨_, rfl, a, _, rfl, hs.imp SqL.of SqT.of, by rw [lx]; exact h⟩) ?_ ?_
      · rintro i t _ H' N ⟨v1, rfl⟩ s et go stop
        obtain ⟨u, eu, hu⟩ := hall.getD et
        have at_ : SqV K H' a xs := sqV_keep (sqv_of hs) s
        have bad : wholeD 1 3 t = false → ∀ p, H' p = none → Q (.ref p) (upd H' p (.lst [.int (i : Nat)])) := fun z p np => err i p H' s np (by rw [eW, stop () (by unfold wBadD; rw [z]; rfl)]; rfl)
        refine ⟨_, rfl, _, rfl, rd_ix at_ (atI_nat eu) ⟨u, t, rfl, hu.keep s, _, rfl, ?_⟩⟩
        cases ei : intD t with
        | false => exact iteT (iteT ⟨_, rfl, lst1, fun p np => bad (by cases t <;> first | rfl | cases ei) p np⟩)
        | true =>
          cases t with
          | int n =>
            cases hu
            refine iteF ⟨_, rfl, _, rfl, rd_ix at_ (atI_nat eu) ⟨_, _, rfl, rfl, _, rfl, ite2 (fun z => ?_) (fun z => ?_)⟩⟩
            · refine iteT ⟨_, rfl, lst1, fun p np => bad ?_ p np⟩
              have z := of_decide_eq_true z
              rw [whole_dec, decide_eq_false (show ¬ (1 : Int) ≤ n by omega)]
              rfl
            refine ⟨_, rfl, _, rfl, rd_ix at_ (atI_nat eu) ⟨_, _, rfl, rfl, _, rfl, ite2 (fun z1 => ?_) (fun z1 => ?_)⟩⟩
            · refine ⟨_, rfl, lst1, fun p np => bad ?_ p np⟩
              have z1 := of_decide_eq_true z1
              rw [whole_dec, decide_eq_false (show ¬ n ≤ 3 by omega), Bool.and_false]
            have m1 : ¬ n < 1 := fun y => z (decide_eq_true y)
            have m3 : ¬ n > 3 := fun y => z1 (decide_eq_true y)
            refine go ?_ _ _ ⟨_, rfl⟩ (Same.refl _)
            unfold wBadD
            rw [whole_dec, decide_eq_true (show (1 : Int) ≤ n by omega), decide_eq_true (show n ≤ 3 by omega)]
            rfl
          | _ => cases ei
      · rintro ok _ H1 ⟨v1, rfl⟩ s1
        rw [ok] at eW
        have good := wsOf_good eW
        rw [e] at good
        have ed : ds = (wsOf dw).map PyData.int := Option.some.inj good.1
        rw [ed] at hall
        have ex := dqAll_intsV hall
        subst ex
        have fin : ∀ (p : Addr) (H2 : Hp), Same H H2 → H2 p = some (.tup ((wsOf dw).map V.int)) → Q (.ref p) H2 := fun p H2 s2 hp => by
          refine q _ _ s2 ?_
          unfold resW
          rw [eW]
          exact .tup hp (dqs_ints _)
        refine ⟨_, rfl, ?_⟩
        rcases hs with ha | ha
        · exact ⟨a, _, rfl, .inl ⟨SqL.of (s1 _ _ ha), fun p np => fin p _ (s1.trans (same_upd np)) upd_same⟩⟩
        · exact ⟨a, _, rfl, .inr ⟨SqT.of (s1 _ _ ha), fin a _ s1 (s1 _ _ ha)⟩⟩
theorem sc__law_store_due : FnScope ["_law_widths", "_law_rows", "_law_at", "_law_word_here", "_law_row"] ["_law_widths", "_law_rows"] (defScope (topS 47)) := ⟨rfl, rfl, rfl, by decide +kernel, rfl, by decide +kernel, by decide +kernel⟩
theorem ok__law_store_due {f : Addr} {fd : FuncData} (F : L2.Fun K "_law_store_due" "_law_store_due" (topS 47) f fd) (cS : Cal P w K mg base 1 "_law_seq" (spLSeq K)) (cW : Cal P w K mg base 3 "_law_word" (spWord K)) (cD : Cal P w K mg base 10 "_law_deep" (spDeep K 8)) (m_len : mg "len" = none) (m_range : mg "range" = none) (m_tuple : mg "tuple" = none) (m_sorted : mg "sorted" = none) (m_set : mg "set" = none) : FnOk P w K mg base CX0 11 f fd ["_law_widths", "_law_rows"] (spSDue K) := by
  refine F.ok sc__law_store_due (fun vs H Q E h => ?_) (fun cdv A outer s0 H vs Q E hr h => ?_)
  · obtain ⟨x, y, ws, d, rfl, _⟩ := h
    rfl
  · obtain ⟨x, y, ws, d, rfl, hx, hw, hd, few, dp, q⟩ := h
    refine ⟨_, (pss_cons (ps_if (PW.pt (pw_or (pt_not (pt_val (pe_c cS hr (by decide) rfl (pa_cons (pv 1) pa_nil)))) (pw_or1 (pt_cmpR op_gt (pe_callB call_len_seq (by rfl) m_len PySem.boot_len (pa_cons (pv 1) pa_nil)) pe_int (nomark _))))) (pss_one (ps_ret (pe_lst (pa_cons pe_int (pa_cons pe_str pa_nil))))) pss_nil)
      (pss_cons (ps_for PassesOwn.never rfl (pi_range1 (by rfl) m_range (pa_cons (pe_callB call_len_seq (by rfl) m_len PySem.boot_len (pa_cons (pv 1) pa_nil)) pa_nil)) (pg_name (i := 2) sc__law_store_due.nd rfl (.inl rfl)) (pss_cons (ps_set (i := 3) sc__law_store_due.nd rfl (.inl rfl) (pe_c cW hr (by decide) rfl (pa_cons (pv 0) (pa_cons (pe_ix ix_seq (pv 1) (pv 2) (fun _ _ => rfl)) (pa_cons pe_str (pa_cons pe_str pa_nil)))))) (pss_one (ps_if (pt_cmpR op_notN (pv 3) pe_non (nomark _)) (pss_one (ps_ret (pe_lst (pa_cons (pv 2) (pa_cons (pv 3) pa_nil))))) pss_nil))))
      (pss_one (ps_ret (pe_callTy call_tuple_of (by rfl) m_tuple (by decide +kernel) (pa_cons (pe_callB (cr_sortedS rfl (Nat.lt_of_le_of_lt (Nat.add_le_add_left (by decide) _) hr.units)) (by rfl) m_sorted (by decide +kernel) (pa_cons (pe_callTy (cr_setD rfl hr.units) (by rfl) m_set (by decide +kernel) (pa_cons (pe_lc (own := [("_law_row", 4)]) (g := gName 4) (tt := tYes) rfl sc__law_store_due.nd (pi_seq (pv 1)) (blkOk_by (N := ["_law_widths", "_law_rows", "_law_at", "_law_word_here", "_law_row"]) (sc := defScope (topS 47)) (by decide +kernel)) (fun _ _ _ _ _ => pg_name (i := 4) sc__law_store_due.nd rfl (Or.inl rfl)) (fun _ _ _ _ _ => pts_nil) (fun _ _ _ _ _ => (pe_c cD hr (by decide) rfl (pa_cons (pv 4) pa_nil)))) pa_nil)) pa_nil)) pa_nil)))))), ?_⟩
    have lst2 : (2 : Nat) ≤ sizeLine := Nat.le_of_lt (small1000 (by omega))
    have err : ∀ (i : Int) (w : Str) (p : Addr) (H1 : Hp), Same H H1 → H1 p = none → storeR ws d = some (i, w) → Q (.ref p) (upd H1 p (.lst [.int i, .str w])) := fun i w p H1 s1 np e => by
      refine q _ (.list [.int i, .str w]) _ (s1.trans (same_upd np)) ?_ (.lst upd_same (.cons (.int i) (.cons (.str w) .nil)))
      unfold StoreEnd
      rw [e]
    refine ⟨_, rfl, y, d, rfl, hd, _, rfl, ?_⟩
    cases e : seqOf d with
    | none => exact iteT (iteT ⟨lst2, fun p np => err 0 _ p H (Same.refl _) np (by unfold storeR; rw [len_no e]; rfl)⟩)
    | some ds =>
      refine iteF ?_
      obtain ⟨a, xs, rfl, hs, hall⟩ := hd.seq e
      have lx := hall.len
      have few1 := few_items few
      rw [itemsD_some e] at few1
      refine ⟨_, rfl, a, _, rfl, hs.imp SqL.of SqT.of, _, _, rfl, rfl, _, rfl, ite2 (fun z => ?_) (fun z => ?_)⟩
      · refine ⟨lst2, fun p np => err 0 _ p H (Same.refl _) np ?_⟩
        have z := of_decide_eq_true z
        unfold storeR
        rw [len_in e, decide_eq_false (show ¬ (ds.length : Int) ≤ 60 by omega), Bool.and_false]
        rfl
      have n60 : ¬ (xs.length : Int) > 60 := fun y => z (decide_eq_true y)
      have eR : storeR ws d = (firstW (rowW ws) 0 ds).map fun u => ((u.2 : Int), u.1) := by
        unfold storeR
        rw [len_in e, decide_eq_true (show (0 : Int) ≤ (ds.length : Int) by omega), decide_eq_true (show (ds.length : Int) ≤ 60 by omega), itemsD_some e]
        rfl
      dsimp only [tNext, tSeq]
      refine forAt (rowW ws) ds (fun σ => ∃ v2 v3, σ = [some x, some (.ref a), v2, v3, none]) ⟨_, _, rfl⟩ few1.1 (fun R h => ⟨_, rfl, a, _, rfl, hs.imp SqL.of SqT.of, by rw [lx]; exact h⟩) ?_ ?_
      · rintro i t _ H' N ⟨v2, v3, rfl⟩ s et go stop
        obtain ⟨u, eu, hu⟩ := hall.getD et
        refine ⟨_, rfl, _, rfl, _, rfl, rd_ix (sqV_keep (sqv_of hs) s) (atI_nat eu) ⟨x, u, ws, t, rfl, hx.keep s, hu.keep s, fun H2 s2 => ?_⟩⟩
        refine ⟨_, rfl, rfl, _, rfl, ?_⟩
        have same : wordD "row" "value" valueD ws t = rowW ws t := rfl
        rw [same]
        cases ew : rowW ws t with
        | none => exact iteF (go ew _ _ ⟨_, _, rfl⟩ s2)
        | some w =>
          refine iteT ⟨_, rfl, _, rfl, lst2, fun p np => err i w p H2 (s.trans s2) np ?_⟩
          rw [eR, stop w ew]
          rfl
      · rintro ok _ H1 ⟨v2, v3, rfl⟩ s1
        rw [ok] at eR
        have good := firstW_none ok
        have deeps : ds.map deepD = ds.map rowT := List.map_congr_left fun r m => deep_row (good r m)
        have rows : ∀ r ∈ ds.map deepD, RowD r := fun r m => by
          rw [deeps] at m
          obtain ⟨r0, m0, rfl⟩ := List.mem_map.mp m
          exact row_good (good r0 m0) fun w mw => (hw.2.2 w mw).2
        dsimp only [tRet, tCB, tCons, tNil]
        refine lcQd (K := K) deepD (fun R h => ⟨_, rfl, h⟩) (sqV_keep (sqv_of hs) s1) (hall.keep s1) few1.1 (fun r m => deep_noL r) (fun z t H4 R N m s4 hz kR => ?_) fun D ys H4 s4 nD hD hys => ?_
        · refine ⟨rfl, ?_⟩
          rw [if_pos rfl]
          exact ⟨_, rfl, z, t, rfl, hz, few1.2 t m, Nat.le_of_lt (Nat.lt_succ_of_le (dep_seq e (by omega) t m)), fun v H5 s5 hv => kR v H5 s5 hv⟩
        · have s04 := s1.trans s4
          obtain ⟨ks, rfl, ek, hk⟩ := rows_at hys rows
          have lk : ks.length < 64 := by
            have z := congrArg List.length ek
            rw [List.length_map, List.length_map] at z
            omega
          have inS : ∀ (H1 : Hp), Same H4 H1 → ∀ m ∈ ks, InSet K H1 m := fun H1 s1 m hm => by
            obtain ⟨p1, p2, _⟩ := (rows m.2 (by rw [ek]; exact List.mem_map.mpr ⟨m, hm, rfl⟩)).pure
            exact ⟨dq_dp m.2 _ p1 ((hk m hm).keep s1), p1, p2⟩
          refine ⟨D, ks, rfl, SqL.of hD, inS H4 (Same.refl _), lk, fun A L nA sub all nd le => ?_⟩
          have sa := same_upd (o := SetD P w A L) nA
          have rL : ∀ r ∈ L.map Prod.snd, RowD r := fun r m => by
            obtain ⟨m0, h0, rfl⟩ := List.mem_map.mp m
            exact rows _ (by rw [ek]; exact List.mem_map.mpr ⟨m0, sub m0 h0, rfl⟩)
          refine ⟨A, L, rfl, upd_same, fun m hm => inS _ sa m (sub m hm), (rows_alike rL).1, (rows_alike rL).2, fun M p pm ri np => ?_⟩
          refine ⟨p, _, rfl, .inl ⟨SqL.of upd_same, fun t nt => ?_⟩⟩
          have nt' : upd (upd H4 A (SetD P w A L)) p (HO.lst (M.map fun m => V.ref m.1)) t = none := nt
          have s2 := (sa.trans (same_upd (o := HO.lst (M.map fun m => V.ref m.1)) np)).trans (same_upd (o := HO.tup (M.map fun m => V.ref m.1)) nt')
          refine q _ (.tuple (M.map Prod.snd)) _ (s04.trans s2) ?_ (.tup upd_same (dqs_of M fun m hm => (hk m (sub m (pm.mem_iff.mp hm))).keep s2))
          unfold StoreEnd
          rw [eR, itemsD_some e, ← deeps]
          refine ⟨_, ⟨List.pairwise_map.mpr ri, (pm.map Prod.snd).nodup_iff.mpr nd, by rw [ek, List.length_map, List.length_map, pm.length_eq]; exact le, fun r => ?_⟩, rfl⟩
          rw [(pm.map Prod.snd).mem_iff, ek]
          constructor
          · intro m
            obtain ⟨m0, h0, rfl⟩ := List.mem_map.mp m
            exact List.mem_map.mpr ⟨m0, sub m0 h0, rfl⟩
          · intro m
            obtain ⟨m0, h0, rfl⟩ := List.mem_map.mp m
            exact all m0 h0
theorem sc__law_store_values : FnScope ["_law_store", "_law_values", "_law_table", "_law_row"] ["_law_store"] (defScope (topS 28)) := ⟨rfl, rfl, rfl, by decide +kernel, rfl, by decide +kernel, by decide +kernel⟩
theorem ok__law_store_values {f : Addr} {fd : FuncData} (F : L2.Fun K "_law_store_values" "_law_store_values" (topS 28) f fd) (m_list : mg "list" = none) (m_sorted : mg "sorted" = none) (m_set : mg "set" = none) : FnOk P w K mg base CX0 1 f fd ["_law_store"] (spLVals K) := by
  refine F.ok sc__law_store_values (fun vs H Q E h => ?_) (fun cdv A outer s0 H vs Q E hr h => ?_)
  · obtain ⟨x, es, rfl, _⟩ := h
    rfl
  · obtain ⟨x, es, rfl, hx, rows, few, q⟩ := h
    refine ⟨_, (pss_cons (ps_set (i := 1) sc__law_store_values.nd rfl (.inl rfl) (pe_lst pa_nil))
      (pss_cons (ps_for PassesOwn.never rfl (pi_seq (pv 0)) (pg_sq rfl (pgs_cons (pg_name (i := 2) sc__law_store_values.nd rfl (.inl rfl)) (pgs_cons (pg_name (i := 3) sc__law_store_values.nd rfl (.inl rfl)) pgs_nil))) (pss_one (ps_set (i := 1) sc__law_store_values.nd rfl (.inl rfl) (pe_op op_cat (pv 1) (pe_callTy call_list_of (by rfl) m_list (by decide +kernel) (pa_cons (pv 3) pa_nil))))))
      (pss_one (ps_ret (pe_callB (cr_sortedI rfl (Nat.lt_of_le_of_lt (Nat.add_le_add_left (by decide) _) hr.units)) (by rfl) m_sorted (by decide +kernel) (pa_cons (pe_callTy (cr_setL rfl) (by rfl) m_set (by decide +kernel) (pa_cons (pv 1) pa_nil)) pa_nil)))))), ?_⟩
    cases hx with
    | @tup a xs _ ha hxs =>
    have lx := hxs.len
    refine ⟨Nat.zero_le _, fun V0 nV0 => ?_⟩
    dsimp only [tNext, tSeq]
    refine forSeq (K := K) (a := a) (xs := xs) (H0 := H) (fun R h => ⟨_, rfl, h⟩) (.inr (SqT.of ha)) (same_upd nV0) (fun i σ H' => ∃ v2 v3 vl ns, σ = [some (.ref a), some (.ref vl), v2, v3] ∧ Same H H' ∧ H' vl = some (.lst (ns.map V.int)) ∧ ns.map V.int = ((es.take i).map valsOf).flatten) ⟨_, _, V0, [], rfl, same_upd nV0, upd_same, rfl⟩ (fun i σ H' hi ⟨_, _, _, _, _, s, _⟩ => s) (fun i x σ H' ex hp => ?_) (fun σ H' hp => ?_)
    · obtain ⟨v2, v3, vl, ns, rfl, s1, hV, eV⟩ := hp
      obtain ⟨e, ee, dx⟩ := hxs.get ex
      have me := List.mem_of_getElem? ee
      obtain ⟨t, ms, rfl, l3⟩ := rows e me
      cases dx with
      | @tup b ys _ hb hys =>
      cases hys with
      | @cons y0 _ _ _ h0 r0 =>
      cases r0 with
      | @cons y1 _ _ _ h1 r1 =>
      cases r1
      cases h1 with
      | @tup c zs _ hc hzs =>
      have ez := dqAll_intsV hzs
      subst ez
      have total : ((es.take i).map valsOf).flatten.length ≤ 180 := by
        have z := vals_few (es := es.take i) fun f m => rows f (List.mem_of_mem_take m)
        have : (es.take i).length ≤ 60 := by rw [List.length_take]; omega
        omega
      have ln : (ns.map V.int).length ≤ 180 := by rw [eV]; exact total
      refine .inl ⟨b, _, rfl, SqT.of (s1 _ _ hb), rfl, _, _, rfl, _, _, rfl, rfl, ?_⟩
      refine ⟨_, rfl, _, rfl, c, _, rfl, .inr (SqT.of (s1 _ _ hc)), fun l nl => ?_⟩
      have sl := same_upd (o := HO.lst (ms.map V.int)) nl
      have hV2 := sl _ _ hV
      refine ⟨vl, l, _, _, rfl, rfl, hV2, upd_same, Nat.le_of_lt (small1000 (by rw [List.length_map (as := ms)]; omega)), fun m nm => ?_⟩
      refine ⟨_, _, m, ns ++ ms, rfl, s1.trans (sl.trans (same_upd nm)), by rw [List.map_append]; exact upd_same, ?_⟩
      rw [List.map_append, eV, List.take_add_one, ee, List.map_append, List.flatten_append]
      show _ = _ ++ ([_] : List (List V)).flatten
      rw [rowVals]
      simp
    · obtain ⟨v2, v3, vl, ns, rfl, s1, hV, eV⟩ := hp
      rw [lx, List.take_length] at eV
      have ln : ns.length ≤ 1000 := by
        have z := congrArg List.length eV
        have := vals_few rows
        rw [List.length_map] at z
        omega
      refine ⟨_, rfl, vl, ns, rfl, SqL.of hV, ln, fun p c np lc => ?_⟩
      refine ⟨p, _, _, rfl, upd_same, fun rs r pw mem nr => ?_⟩
      refine q rs r _ ⟨pw, fun k => ?_⟩ (s1.trans ((same_upd np).trans (same_upd nr))) upd_same
      rw [mem, decide_eq_true_eq, ← vals_mem rows, ← eV]
      constructor
      · intro m
        exact List.mem_map.mpr ⟨k, m, rfl⟩
      · intro m
        obtain ⟨k', mk, ek⟩ := List.mem_map.mp m
        cases ek
        exact mk
end
end My
set_option Elab.async false
set_option linter.all false
set_option maxRecDepth 100000
set_option maxHeartbeats 4000000
namespace My
open PySem PySem.Spec PyProof.Rows L2

/-! ### what the law draws -/
/-- what is drawn is a datum with R, among the data -/
def Drawn (a c : Addr) (H G : Hp) (R : PyData → Prop) (Q : VK) : Prop := ∀ (v : V) (d : PyData) (H' G' : Hp), Hand MO H' a c → Ext a H G H' G' → Dq G' v d → R d → Q v H'
theorem rd_take {a c : Addr} {H G Hn Gn : Hp} {m : Int} {Q : VK} {E : XK} (h : Hand MO Hn a c) (x : Ext a H G Hn Gn) (m0 : 0 < m) (m8 : m < 2 ^ 64) (q : ∀ (v : Int) (H' : Hp), 0 ≤ v → v < m → Hand MO H' a c → Ext a H G H' Gn → (∀ b o, b ≠ a → Hn b = some o → H' b = some o) → Q (.int v) H') : spDraw MO [.ref a, .int m] Hn Q E :=
  ⟨a, c, m, rfl, h, m0, lt8000 (by omega), fun v l v0 v1 h' => q v _ v0 v1 h' x.draw fun b o n e => by rw [upd_ne n]; exact e⟩
/-- take(hand, m) as the terms have it -/
theorem tk {a c : Addr} {H G Hn Gn : Hp} {m : Int} {Q : VK} {σ : L2.St} {i : Nat} {tb : TE} (h : Hand MO Hn a c) (x : Ext a H G Hn Gn) (hv : σ[i]? = some (some (.ref a))) (hb : ∀ R : VK, R (.int m) Hn → tb σ Hn R) (m0 : 0 < m) (m8 : m < 2 ^ 64)
    (q : ∀ (v : Int) (H' : Hp), 0 ≤ v → v < m → Hand MO H' a c → Ext a H G H' Gn → (∀ b o, b ≠ a → Hn b = some o → H' b = some o) → Q (.int v) H') : tCall (spDraw MO) [] E0 (tCons (tVar i) (tCons tb tNil)) σ Hn Q :=
  ⟨_, hv, hb _ (rd_take (E := fun _ _ _ => False) h x m0 m8 q)⟩
/-- the hand itself is none of the data and stays, when something is made -/
theorem hand_keep {a c p : Addr} {H : Hp} {o : HO} (h : Hand MO H a c) (n : H p = none) : Hand MO (upd H p o) a c := by
  obtain ⟨cs, l, e, e2, r⟩ := h.ex
  exact h.keep (same_upd n)
theorem hand_some {a c : Addr} {H : Hp} (h : Hand MO H a c) : H a ≠ none := by
  obtain ⟨cs, l, e, _⟩ := h.ex
  rw [e]
  intro z
  cases z
section
variable {P : Program} {w : World} {K : PySem.W.Frag} {mg : Str → Option Value} {base : Heap}
/-- a value -/
def spAny (K : PySem.W.Frag) : Sp := fun vs H Q _ => ∃ (a c : Addr) (G : Hp), vs = [.ref a] ∧ Hand MO H a c ∧ Same G H ∧ G a = none ∧ Drawn a c H G (fun d => ∃ i : Int, d = .int i ∧ 0 ≤ i ∧ i ≤ 1000000000) Q
theorem sc__law_any_value : FnScope ["_law_hand_here", "_law_kind"] ["_law_hand_here"] (defScope (topS 39)) := ⟨rfl, rfl, rfl, by decide +kernel, rfl, by decide +kernel, by decide +kernel⟩
theorem ok__law_any_value {f : Addr} {fd : FuncData} (F : L2.Fun K "_law_any_value" "_law_any_value" (topS 39) f fd) (cT : Cal P w K mg base 2 "_law_take" (spDraw MO)) : FnOk P w K mg base CX0 3 f fd ["_law_hand_here"] (spAny K) := by
  refine F.ok sc__law_any_value (fun vs H Q E h => ?_) (fun cdv A outer s0 H vs Q E hr h => ?_)
  · obtain ⟨a, c, G, rfl, _⟩ := h
    rfl
  · obtain ⟨a, c, G, rfl, hh, sG, nG, k⟩ := h
    refine ⟨_, (pss_cons (ps_set (i := 1) sc__law_any_value.nd rfl (.inl rfl) (pe_c cT hr (by decide) rfl (pa_cons (pv 0) (pa_cons pe_int pa_nil))))
      (pss_cons (ps_if (pt_cmpR op_lt (pv 1) pe_int (nomark _)) (pss_one (ps_ret (pe_ix ix_tup (pe_tup (pa_cons pe_int (pa_cons (pe_op op_pow pe_int pe_int) pa_nil))) (pv 1) (fun _ _ => rfl)))) pss_nil)
      (pss_one (ps_ret (pe_ifExp (pt_cmpR op_eq (pv 1) pe_int (nomark _)) (pe_c cT hr (by decide) rfl (pa_cons (pv 0) (pa_cons (pe_op op_add (pe_op op_pow pe_int pe_int) pe_int) pa_nil))) (pe_c cT hr (by decide) rfl (pa_cons (pv 0) (pa_cons pe_int pa_nil)))))))), ?_⟩
    have x0 := Ext.refl (hand_some hh) sG nG
    dsimp only [tSeq, tAsg]
    refine tk hh x0 rfl (fun R h => h) (by omega) (by omega) fun v H1 v0 v1 h1 x1 sx1 => ?_
    refine ⟨_, rfl, _, _, rfl, rfl, _, rfl, ite2 (fun z => ?_) (fun z => ?_)⟩
    · have z := of_decide_eq_true z
      refine ⟨_, _, rfl, rfl, ⟨by decide, by decide, by decide⟩, Nat.le_of_lt (small1000 (by show 2 ≤ 1000; omega)), fun p np => ?_⟩
      refine ⟨_, rfl, p, _, v, if v = 0 then .int 0 else .int 1000000000, rfl, rfl, SqT.of upd_same, ?_, ?_⟩
      · have e : v = 0 ∨ v = 1 := by omega
        rcases e with rfl | rfl
        · rfl
        · rfl
      · by_cases e : v = 0
        · rw [if_pos e]
          exact k _ (.int 0) _ _ (hand_keep h1 np) (x1.mk0 np) (.int 0) ⟨0, rfl, by omega, by omega⟩
        · rw [if_neg e]
          exact k _ (.int 1000000000) _ _ (hand_keep h1 np) (x1.mk0 np) (.int _) ⟨_, rfl, by omega, by omega⟩
    · refine ⟨_, rfl, rfl, _, rfl, ?_⟩
      have e9 : (10 : Int) ^ (9 : Int).toNat = 1000000000 := by decide
      refine ite2 (fun z2 => ?_) (fun z2 => ?_)
      · refine tk h1 x1 rfl (fun R h => ⟨_, _, rfl, rfl, ⟨by decide, by decide, by decide⟩, _, _, rfl, rfl, h⟩) (by rw [e9]; omega) (by rw [e9]; omega) fun u H2 u0 u1 h2 x2 sx2 => ?_
        rw [e9] at u1
        exact k _ (.int u) _ _ h2 x2 (.int u) ⟨u, rfl, u0, by omega⟩
      · refine tk h1 x1 rfl (fun R h => h) (by omega) (by omega) fun u H2 u0 u1 h2 x2 sx2 => ?_
        exact k _ (.int u) _ _ h2 x2 (.int u) ⟨u, rfl, u0, by omega⟩
/-- what is no value and no name -/
def NoVal (d : PyData) : Prop := leafD d = true ∧ fewD d = true ∧ dep d ≤ 1 ∧ szD d ≤ 30 ∧ termD d = false ∧ (∀ e ∈ itemsD d, e = .int 0)
def spNoVal (K : PySem.W.Frag) : Sp := fun vs H Q _ => ∃ (a c : Addr) (G : Hp), vs = [.ref a] ∧ Hand MO H a c ∧ Same G H ∧ G a = none ∧ Drawn a c H G NoVal Q
theorem sc__law_no_value : FnScope ["_law_hand_here"] ["_law_hand_here"] (defScope (topS 40)) := ⟨rfl, rfl, rfl, by decide +kernel, rfl, by decide +kernel, by decide +kernel⟩
theorem ok__law_no_value {f : Addr} {fd : FuncData} (F : L2.Fun K "_law_no_value" "_law_no_value" (topS 40) f fd) (cT : Cal P w K mg base 2 "_law_take" (spDraw MO)) : FnOk P w K mg base CX0 3 f fd ["_law_hand_here"] (spNoVal K) := by
  refine F.ok sc__law_no_value (fun vs H Q E h => ?_) (fun cdv A outer s0 H vs Q E hr h => ?_)
  · obtain ⟨a, c, G, rfl, _⟩ := h
    rfl
  · obtain ⟨a, c, G, rfl, hh, sG, nG, k⟩ := h
    refine ⟨_, (pss_one (ps_ret (pe_ix ix_tup (pe_tup (pa_cons (pe_un un_neg pe_int) (pa_cons (pe_op op_add (pe_op op_pow pe_int pe_int) pe_int) (pa_cons pe_bl (pa_cons pe_bl (pa_cons pe_non (pa_cons pe_str (pa_cons pe_str (pa_cons pe_str (pa_cons pe_str (pa_cons (pe_tup (pa_cons pe_int pa_nil)) (pa_cons (pe_lst pa_nil) (pa_cons (pe_op op_sub (pe_un un_neg pe_int) (pe_c cT hr (by decide) rfl (pa_cons (pv 0) (pa_cons (pe_op op_pow pe_int pe_int) pa_nil)))) (pa_cons (pe_op op_add (pe_op op_add (pe_op op_pow pe_int pe_int) pe_int) (pe_c cT hr (by decide) rfl (pa_cons (pv 0) (pa_cons (pe_op op_pow pe_int pe_int) pa_nil)))) pa_nil)))))))))))))) (pe_c cT hr (by decide) rfl (pa_cons (pv 0) (pa_cons pe_int pa_nil))) (fun _ _ => rfl)))), ?_⟩
    have x0 := Ext.refl (hand_some hh) sG nG
    dsimp only [tRet]
    have few : ∀ {n : Nat}, n ≤ 1000 → n ≤ sizeLine := fun h => Nat.le_of_lt (small1000 h)
    have e9 : (10 : Int) ^ (9 : Int).toNat = 1000000000 := by decide
    have e15 : (10 : Int) ^ (15 : Int).toNat = 1000000000000000 := by decide
    refine ⟨_, rfl, _, _, rfl, rfl, ⟨by decide, by decide, by decide⟩, _, _, rfl, rfl, few (by show 1 ≤ 1000; omega), fun t nt => ?_⟩
    have x1 := x0.mk_ (o := HO.tup [V.int 0]) nt
    have h1 := hand_keep (o := HO.tup [V.int 0]) hh nt
    have g1 : (upd G t (.tup [V.int 0])) t = some (.tup [V.int 0]) := upd_same
    generalize upd H t (.tup [V.int 0]) = H1 at x1 h1 ⊢
    generalize upd G t (.tup [V.int 0]) = G1 at x1 g1
    refine ⟨few (Nat.zero_le _), fun l nl => ?_⟩
    have x2 := x1.mk_ (o := HO.lst []) nl
    have h2 := hand_keep (o := HO.lst []) h1 nl
    have g2 : (upd G1 l (.lst [])) l = some (.lst []) := upd_same
    have g2t : (upd G1 l (.lst [])) t = some (.tup [V.int 0]) := by
      rw [upd_ne (ne_of_none (x1.sub _ _ g1) nl)]
      exact g1
    generalize upd H1 l (.lst []) = H2 at x2 h2 ⊢
    generalize upd G1 l (.lst []) = G2 at x2 g2 g2t
    refine ⟨_, rfl, ?_⟩
    refine tk h2 x2 rfl (fun R h => ⟨_, _, rfl, rfl, ⟨by decide, by decide, by decide⟩, h⟩) (by rw [e15]; omega) (by rw [e15]; omega) fun u H3 u0 u1 h3 x3 sx3 => ?_
    rw [e15] at u1
    refine ⟨_, _, rfl, rfl, _, _, rfl, rfl, ⟨by decide, by decide, by decide⟩, _, _, rfl, rfl, ?_⟩
    refine tk h3 x3 rfl (fun R h => ⟨_, _, rfl, rfl, ⟨by decide, by decide, by decide⟩, h⟩) (by rw [e15]; omega) (by rw [e15]; omega) fun w H4 w0 w1 h4 x4 sx4 => ?_
    rw [e15] at w1
    refine ⟨_, _, rfl, rfl, few (by show 13 ≤ 1000; omega), fun p np => ?_⟩
    rw [e9]
    have x5 := x4.mk0 (o := HO.tup [V.int (-1), V.int (1000000000 + 1), V.bl true, V.bl false, V.non, V.str "1", V.str "i", V.str "ab", V.str "", V.ref t, V.ref l, V.int (-1 - u), V.int (1000000000 + 1 + w)]) np
    have h5 := hand_keep (o := HO.tup [V.int (-1), V.int (1000000000 + 1), V.bl true, V.bl false, V.non, V.str "1", V.str "i", V.str "ab", V.str "", V.ref t, V.ref l, V.int (-1 - u), V.int (1000000000 + 1 + w)]) h4 np
    refine tk h5 x5 rfl (fun R h => h) (by omega) (by omega) fun v H6 v0 v1 h6 x6 sx6 => ?_
    have all : DqAll G2 [V.int (-1), V.int (1000000000 + 1), V.bl true, V.bl false, V.non, V.str "1", V.str "i", V.str "ab", V.str "", V.ref t, V.ref l, V.int (-1 - u), V.int (1000000000 + 1 + w)] [.int (-1), .int (1000000000 + 1), .bool true, .bool false, .none, .str "1", .str "i", .str "ab", .str "", .tuple [.int 0], .list [], .int (-1 - u), .int (1000000000 + 1 + w)] :=
      .cons (.int _) (.cons (.int _) (.cons (.bl _) (.cons (.bl _) (.cons .non (.cons (.str _) (.cons (.str _) (.cons (.str _) (.cons (.str _) (.cons (.tup g2t (.cons (.int _) .nil)) (.cons (.lst g2 .nil) (.cons (.int _) (.cons (.int _) .nil))))))))))))
    have nov : ∀ d ∈ ([.int (-1), .int (1000000000 + 1), .bool true, .bool false, .none, .str "1", .str "i", .str "ab", .str "", .tuple [.int 0], .list [], .int (-1 - u), .int (1000000000 + 1 + w)] : List PyData), NoVal d := by
      have num : ∀ i : Int, (i < 0 ∨ 1000000000 < i) → i.natAbs < 10 ^ 19 → NoVal (.int i) := fun i h hn => by
        refine ⟨by rw [leafD]; exact decide_eq_true hn, by rw [fewD], by rw [dep]; omega, by rw [szD]; omega, ?_, fun e m => nomatch m⟩
        show (false || (decide (0 ≤ i) && decide (i ≤ 1000000000))) = false
        rw [Bool.false_or, Bool.and_eq_false_iff]
        rcases h with h | h
        · exact .inl (decide_eq_false (by omega))
        · exact .inr (decide_eq_false (by omega))
      have txt : ∀ s : Str, s ∈ wordsD → decide (s ∈ eight) = false → NoVal (.str s) := fun s h hn => by
        refine ⟨by rw [leafD]; exact decide_eq_true h, by rw [fewD], by rw [dep]; omega, by rw [szD]; omega, ?_, fun e m => nomatch m⟩
        show (decide (s ∈ eight) || false) = false
        rw [hn]
        rfl
      intro d m
      simp only [List.mem_cons, List.not_mem_nil, or_false] at m
      rcases m with rfl | rfl | rfl | rfl | rfl | rfl | rfl | rfl | rfl | rfl | rfl | rfl | rfl
      · exact num _ (.inl (by omega)) (by decide)
      · exact num _ (.inr (by omega)) (by decide)
      · exact ⟨rfl, rfl, Nat.zero_le _, by decide +kernel, rfl, fun e m => nomatch m⟩
      · exact ⟨rfl, rfl, Nat.zero_le _, by decide +kernel, rfl, fun e m => nomatch m⟩
      · exact ⟨rfl, rfl, Nat.zero_le _, by decide +kernel, rfl, fun e m => nomatch m⟩
      · exact txt _ (by decide +kernel) (by decide +kernel)
      · exact txt _ (by decide +kernel) (by decide +kernel)
      · exact txt _ (by decide +kernel) (by decide +kernel)
      · exact txt _ (by decide +kernel) (by decide +kernel)
      · exact ⟨by decide +kernel, by decide +kernel, by decide +kernel, by decide +kernel, rfl, fun e m => List.mem_singleton.mp m⟩
      · exact ⟨by decide +kernel, by decide +kernel, by decide +kernel, by decide +kernel, rfl, fun e m => nomatch m⟩
      · exact num _ (.inl (by omega)) (by omega)
      · exact num _ (.inr (by omega)) (by omega)
    obtain ⟨n, rfl⟩ : ∃ n : Nat, v = (n : Int) := ⟨v.toNat, (Int.toNat_of_nonneg v0).symm⟩
    obtain ⟨x, ex⟩ : ∃ x, [V.int (-1), V.int (1000000000 + 1), V.bl true, V.bl false, V.non, V.str "1", V.str "i", V.str "ab", V.str "", V.ref t, V.ref l, V.int (-1 - u), V.int (1000000000 + 1 + w)][n]? = some x := ⟨_, List.getElem?_eq_getElem (by show n < 13; omega)⟩
    obtain ⟨d, ed, hd⟩ := all.get ex
    have pt : H6 p = some (.tup [V.int (-1), V.int (1000000000 + 1), V.bl true, V.bl false, V.non, V.str "1", V.str "i", V.str "ab", V.str "", V.ref t, V.ref l, V.int (-1 - u), V.int (1000000000 + 1 + w)]) := by
      exact sx6 p _ (fun z => by rw [z] at np; exact hand_some h4 np) upd_same
    exact ⟨p, _, _, _, rfl, rfl, SqT.of pt, atI_nat ex, k x d H6 G2 h6 x6 hd (nov d (List.mem_of_getElem? ed))⟩
end
end My
set_option Elab.async false
set_option linter.all false
set_option maxRecDepth 100000
set_option maxHeartbeats 4000000
namespace My
open PySem PySem.Spec PyProof.Rows L2

theorem hand_upd {a c D : Addr} {H : Hp} {o : HO} (h : Hand MO H a c) (na : D ≠ a) (nc : D ≠ c) : Hand MO (upd H D o) a c := by
  obtain ⟨cs, l, e1, e2, r⟩ := h.ex
  exact ⟨cs, l, by rw [upd_ne (Ne.symm na)]; exact e1, by rw [upd_ne (Ne.symm nc)]; exact e2, r⟩
theorem hand_apart {a c D : Addr} {H : Hp} (h : Hand MO H a c) (n : H D = none) : D ≠ a ∧ D ≠ c := by
  obtain ⟨cs, l, e1, e2, r⟩ := h.ex
  exact ⟨fun z => (by rw [z, e1] at n; cases n), fun z => (by rw [z, e2] at n; cases n)⟩
/-- [what is drawn for k in range(n)], n drawn too -/
theorem lcDraw {j : Nat} {vs : List Nat} {σ : L2.St} {a c : Addr} {H G : Hp} {Q : VK} {ta : TA} {te : TE} (R : PyData → Prop) (B : Nat → Prop)
    (hv : ∀ R : List V → Hp → Prop, (∀ (n : Nat) (Hn Gn : Hp), B n → n ≤ 1000 → Hand MO Hn a c → Ext a H G Hn Gn → R [.int (n : Nat)] Hn) → ta σ H R)
    (hw : ∀ x, wipe ((wipe σ vs).set j (some x)) vs = wipe σ vs)
    (he : ∀ (k : Nat) (H1 G1 : Hp) (R1 : VK), Hand MO H1 a c → Ext a H G H1 G1 → (∀ y d H2 G2, Hand MO H2 a c → Ext a H1 G1 H2 G2 → Dq G2 y d → R d → R1 y H2) → te ((wipe σ vs).set j (some (.int (k : Nat)))) H1 R1)
    (hq : ∀ (n : Nat) (D : Addr) (ys : List V) (ds : List PyData) (H1 G1 : Hp), B n → Hand MO H1 a c → Ext a H G H1 G1 → G1 D = some (.lst ys) → DqAll G1 ys ds → ds.length = n → (∀ d ∈ ds, R d) → Q (.ref D) H1) : tLc (iRng1 ta) (gName j) tYes te vs σ H Q := by
  refine hv _ fun n Hn Gn hB few hh xn => ⟨(n : Int), rfl, by omega, by omega, fun D nD => lc_range (lo := 0) (n := n) (fun i H' => ∃ G' ys ds, Hand MO H' a c ∧ Ext a Hn Gn H' G' ∧ H' D = some (.lst ys) ∧ G' D = none ∧ DqAll G' ys ds ∧ ds.length = i ∧ ∀ d ∈ ds, R d) ?_ ?_ fun H' p => ?_⟩
  · have gD : Gn D = none := by
      cases e : Gn D with
      | none => rfl
      | some u => rw [xn.sub _ _ e] at nD; cases nD
    exact ⟨Gn, [], [], hand_keep hh nD, (Ext.refl (hand_some hh) xn.sub xn.off).mk0 nD, upd_same, gD, .nil, rfl, fun d m => nomatch m⟩
  · rintro i H' li ⟨G', ys, ds, h1, x1, hD, gD, all, len, ok⟩
    obtain ⟨Da, Dc⟩ := hand_apart hh nD
    refine ⟨hw _, ?_⟩
    have e0 : (0 : Int) + (i : Int) = ((i : Nat) : Int) := Int.zero_add _
    rw [e0]
    dsimp only [tYes]
    refine iteT (he i H' G' _ h1 (xn.trans x1) fun y d H2 G2 h2 x2 hy rd => ?_)
    obtain ⟨hD2, gD2⟩ := x2.stays hD gD Da
    refine ⟨ys, hD2, small1000 (by rw [all.len, len]; omega), G2, ys ++ [y], ds ++ [d], hand_upd h2 Da Dc, (x1.trans x2).put nD gD2 Da, upd_same, gD2, (all.keep x2.up).snoc hy, by rw [List.length_append, len]; rfl, fun e m => ?_⟩
    rcases List.mem_append.mp m with m | m
    · exact ok e m
    · rw [List.mem_singleton.mp m]; exact rd
  · obtain ⟨G', ys, ds, h1, x1, hD, gD, all, len, ok⟩ := p
    obtain ⟨Da, Dc⟩ := hand_apart hh nD
    exact hq n D ys ds H' _ hB h1 (xn.trans (x1.ice nD hD gD Da)) upd_same (all.keep (same_upd gD)) len ok
/-- what stands in the place of a thing -/
def Rid (d : PyData) : Prop := d ∈ [PyData.none, .int 3, .str "ab", .bool true, D01, .int (-1)]
def spRid (K : PySem.W.Frag) : Sp := fun vs H Q _ => ∃ (a c : Addr) (G : Hp), vs = [.ref a] ∧ Hand MO H a c ∧ Same G H ∧ G a = none ∧ Drawn a c H G Rid Q
/-- widths, a list or a tuple of them -/
def spLists (K : PySem.W.Frag) : Sp := fun vs H Q _ => ∃ (a c w : Addr) (G : Hp) (ws : List Int), vs = [.ref a, .ref w] ∧ Hand MO H a c ∧ Same G H ∧ G a = none ∧ G w = some (.lst (ws.map V.int)) ∧
  ∀ (v : V) (H' G' : Hp), Hand MO H' a c → Ext a H G H' G' → IntsAt G' v ws → Q v H'
/-- widths drawn -/
def spWidths (K : PySem.W.Frag) : Sp := fun vs H Q _ => ∃ (a c : Addr) (G : Hp), vs = [.ref a] ∧ Hand MO H a c ∧ Same G H ∧ G a = none ∧
  ∀ (w : Addr) (ws : List Int) (H' G' : Hp), Hand MO H' a c → Ext a H G H' G' → G' w = some (.lst (ws.map V.int)) → 1 ≤ ws.length → ws.length ≤ 6 → (∀ w ∈ ws, 1 ≤ w ∧ w ≤ 3) → Q (.ref w) H'
section
variable {P : Program} {w : World} {K : PySem.W.Frag} {mg : Str → Option Value} {base : Heap}
theorem sc__law_rid : FnScope ["_law_hand_here"] ["_law_hand_here"] (defScope (topS 29)) := ⟨rfl, rfl, rfl, by decide +kernel, rfl, by decide +kernel, by decide +kernel⟩
theorem ok__law_rid {f : Addr} {fd : FuncData} (F : L2.Fun K "_law_rid" "_law_rid" (topS 29) f fd) (cT : Cal P w K mg base 2 "_law_take" (spDraw MO)) : FnOk P w K mg base CX0 3 f fd ["_law_hand_here"] (spRid K) := by
  refine F.ok sc__law_rid (fun vs H Q E h => ?_) (fun cdv A outer s0 H vs Q E hr h => ?_)
  · obtain ⟨a, c, G, rfl, _⟩ := h
    rfl
  · obtain ⟨a, c, G, rfl, hh, sG, nG, k⟩ := h
    refine ⟨_, (pss_one (ps_ret (pe_ix ix_tup (pe_tup (pa_cons pe_non (pa_cons pe_int (pa_cons pe_str (pa_cons pe_bl (pa_cons (pe_disp (pps_cons pe_int pe_int pps_nil) rfl rfl (by intro z; cases z) (by decide)) (pa_cons (pe_un un_neg pe_int) pa_nil))))))) (pe_c cT hr (by decide) rfl (pa_cons (pv 0) (pa_cons pe_int pa_nil))) (fun _ _ => rfl)))), ?_⟩
    have x0 := Ext.refl (hand_some hh) sG nG
    dsimp only [tRet]
    refine fun t nt => ⟨upd_same, [(Sum.inl 0, .int 1)], rfl, by decide, ?_⟩
    rw [upd_upd]
    have x1 := x0.mk_ (o := HO.dK [(Sum.inl 0, V.int 1)]) nt
    have h1 := hand_keep (o := HO.dK [(Sum.inl 0, V.int 1)]) hh nt
    have g1 : (upd G t (.dK [(Sum.inl 0, V.int 1)])) t = some (.dK [(Sum.inl 0, V.int 1)]) := upd_same
    have em : mergeK [] [((Sum.inl 0 : Key), V.int 1)] = [(Sum.inl 0, V.int 1)] := rfl
    rw [em]
    generalize upd H t (.dK [(Sum.inl 0, V.int 1)]) = H1 at x1 h1 ⊢
    generalize upd G t (.dK [(Sum.inl 0, V.int 1)]) = G1 at x1 g1
    refine ⟨_, rfl, Nat.le_of_lt (small1000 (by show 6 ≤ 1000; omega)), fun p np => ?_⟩
    have x5 := x1.mk0 (o := HO.tup [V.non, V.int 3, V.str "ab", V.bl true, V.ref t, V.int (-1)]) np
    have h5 := hand_keep (o := HO.tup [V.non, V.int 3, V.str "ab", V.bl true, V.ref t, V.int (-1)]) h1 np
    refine tk h5 x5 rfl (fun R h => h) (by omega) (by omega) fun v H6 v0 v1 h6 x6 sx6 => ?_
    have all : DqAll G1 [V.non, V.int 3, V.str "ab", V.bl true, V.ref t, V.int (-1)] [PyData.none, .int 3, .str "ab", .bool true, D01, .int (-1)] := .cons .non (.cons (.int _) (.cons (.str _) (.cons (.bl _) (.cons (.dct g1) (.cons (.int _) .nil)))))
    obtain ⟨n, rfl⟩ : ∃ n : Nat, v = (n : Int) := ⟨v.toNat, (Int.toNat_of_nonneg v0).symm⟩
    obtain ⟨x, ex⟩ : ∃ x, [V.non, V.int 3, V.str "ab", V.bl true, V.ref t, V.int (-1)][n]? = some x := ⟨_, List.getElem?_eq_getElem (by show n < 6; omega)⟩
    obtain ⟨d, ed, hd⟩ := all.get ex
    have pt := sx6 p _ (fun z => by rw [z] at np; exact hand_some h1 np) upd_same
    exact ⟨p, _, _, _, rfl, rfl, SqT.of pt, atI_nat ex, k x d H6 G1 h6 x6 hd (List.mem_of_getElem? ed)⟩
theorem sc__law_lists : FnScope ["_law_hand_here", "_law_thing"] ["_law_hand_here", "_law_thing"] (defScope (topS 30)) := ⟨rfl, rfl, rfl, by decide +kernel, rfl, by decide +kernel, by decide +kernel⟩
theorem ok__law_lists {f : Addr} {fd : FuncData} (F : L2.Fun K "_law_lists" "_law_lists" (topS 30) f fd) (cT : Cal P w K mg base 2 "_law_take" (spDraw MO)) (m_list : mg "list" = none) (m_tuple : mg "tuple" = none) : FnOk P w K mg base CX0 3 f fd ["_law_hand_here", "_law_thing"] (spLists K) := by
  refine F.ok sc__law_lists (fun vs H Q E h => ?_) (fun cdv A outer s0 H vs Q E hr h => ?_)
  · obtain ⟨a, c, w, G, ws, rfl, _⟩ := h
    rfl
  · obtain ⟨a, c, w, G, ws, rfl, hh, sG, nG, gw, k⟩ := h
    refine ⟨_, (pss_one (ps_ret (pe_ifExp (pt_truth (pe_c cT hr (by decide) rfl (pa_cons (pv 0) (pa_cons pe_int pa_nil))) (by intro _; rfl)) (pe_callTy call_list_of (by rfl) m_list (by decide +kernel) (pa_cons (pv 1) pa_nil)) (pe_callTy call_tuple_of (by rfl) m_tuple (by decide +kernel) (pa_cons (pv 1) pa_nil))))), ?_⟩
    have x0 := Ext.refl (hand_some hh) sG nG
    dsimp only [tRet]
    refine tk hh x0 rfl (fun R h => h) (by omega) (by omega) fun v H1 v0 v1 h1 x1 sx1 => ?_
    have hw1 := x1.sub _ _ gw
    by_cases z : v = 0
    · subst z
      refine ⟨false, rfl, iteF ⟨_, rfl, w, _, rfl, .inl ⟨SqL.of hw1, fun l nl => ?_⟩⟩⟩
      exact k _ _ _ (hand_keep h1 nl) (x1.mk_ nl) ⟨l, rfl, .inr upd_same⟩
    · have e : (v != 0) = true := by
        rw [bne_iff_ne]
        exact z
      refine ⟨true, e.symm, iteT ⟨_, rfl, w, _, rfl, .inl (SqL.of hw1), fun l nl => ?_⟩⟩
      exact k _ _ _ (hand_keep h1 nl) (x1.mk_ nl) ⟨l, rfl, .inl upd_same⟩
theorem sc__law_many_widths : FnScope ["_law_hand_here", "_law_step"] ["_law_hand_here"] (defScope (topS 38)) := ⟨rfl, rfl, rfl, by decide +kernel, rfl, by decide +kernel, by decide +kernel⟩
theorem ok__law_many_widths {f : Addr} {fd : FuncData} (F : L2.Fun K "_law_many_widths" "_law_many_widths" (topS 38) f fd) (cT : Cal P w K mg base 2 "_law_take" (spDraw MO)) (m_range : mg "range" = none) : FnOk P w K mg base CX0 3 f fd ["_law_hand_here"] (spWidths K) := by
  refine F.ok sc__law_many_widths (fun vs H Q E h => ?_) (fun cdv A outer s0 H vs Q E hr h => ?_)
  · obtain ⟨a, c, G, rfl, _⟩ := h
    rfl
  · obtain ⟨a, c, G, rfl, hh, sG, nG, k⟩ := h
    refine ⟨_, (pss_one (ps_ret (pe_lc (own := [("_law_step", 1)]) (g := gName 1) (tt := tYes) rfl sc__law_many_widths.nd (pi_range1 (by rfl) m_range (pa_cons (pe_op op_add pe_int (pe_c cT hr (by decide) rfl (pa_cons (pv 0) (pa_cons pe_int pa_nil)))) pa_nil)) (blkOk_by (N := ["_law_hand_here", "_law_step"]) (sc := defScope (topS 38)) (by decide +kernel)) (fun _ _ _ _ _ => pg_name (i := 1) sc__law_many_widths.nd rfl (Or.inl rfl)) (fun _ _ _ _ _ => pts_nil) (fun _ _ _ _ _ => (pe_op op_add pe_int (pe_c cT hr (by decide) rfl (pa_cons (pv 0) (pa_cons pe_int pa_nil)))))))), ?_⟩
    have x0 := Ext.refl (hand_some hh) sG nG
    dsimp only [tRet]
    refine lcDraw (a := a) (c := c) (G := G) (fun d => ∃ i : Int, d = .int i ∧ 1 ≤ i ∧ i ≤ 3) (fun n => 1 ≤ n ∧ n ≤ 6) (fun R hR => ?_) (by intro _; rfl) (fun i H1 G1 R1 h1 x1 hR => ?_) (fun n D ys ds H1 G1 hB h1 x1 gD all len ok => ?_)
    · refine tk hh x0 rfl (fun R h => h) (by omega) (by omega) fun v H1 v0 v1 h1 x1 sx1 => ?_
      refine ⟨_, _, rfl, rfl, ?_⟩
      obtain ⟨n, rfl⟩ : ∃ n : Nat, v = (n : Int) := ⟨v.toNat, (Int.toNat_of_nonneg v0).symm⟩
      have e : (1 : Int) + (n : Int) = ((n + 1 : Nat) : Int) := by omega
      show R [V.int (1 + (n : Int))] H1
      rw [e]
      exact hR (n + 1) H1 _ ⟨by omega, by omega⟩ (by omega) h1 x1
    · refine tk h1 (Ext.refl (hand_some h1) x1.sub x1.off) rfl (fun R h => h) (by omega) (by omega) fun v H2 v0 v1 h2 x2 sx2 => ?_
      exact ⟨_, _, rfl, rfl, hR _ (.int (1 + v)) H2 _ h2 x2 (.int _) ⟨_, rfl, by omega, by omega⟩⟩
    · have form : ∀ {ys : List V} {ds : List PyData}, DqAll G1 ys ds → (∀ d ∈ ds, ∃ i : Int, d = .int i ∧ 1 ≤ i ∧ i ≤ 3) → ∃ ws : List Int, ys = ws.map V.int ∧ ws.length = ds.length ∧ ∀ w ∈ ws, 1 ≤ w ∧ w ≤ 3 := by
        intro ys ds hall
        induction ds generalizing ys with
        | nil => intro _; cases hall; exact ⟨[], rfl, rfl, fun w m => nomatch m⟩
        | cons d r ih =>
          intro ok
          cases hall with
          | cons h1 h2 =>
          obtain ⟨i, rfl, i1, i3⟩ := ok d (List.mem_cons_self ..)
          cases h1
          obtain ⟨ws, rfl, lw, okw⟩ := ih h2 fun x m => ok x (List.mem_cons_of_mem _ m)
          refine ⟨i :: ws, rfl, by rw [List.length_cons, List.length_cons, lw], fun w m => ?_⟩
          rcases List.mem_cons.mp m with z | m
          · rw [z]; exact ⟨i1, i3⟩
          · exact okw w m
      obtain ⟨ws, rfl, lw, okw⟩ := form all ok
      exact k D ws H1 G1 h1 x1 gD (by omega) (by omega) okw
end
end My
set_option Elab.async false
set_option linter.all false
set_option maxRecDepth 100000
set_option maxHeartbeats 4000000
namespace My
open PySem PySem.Spec PyProof.Rows L2

/-! ### lists and tuples in one another's place -/
/-- [drawn anew from x for x in xs] -/
theorem lcLoose {K : PySem.W.Frag} {j : Nat} {vs : List Nat} {σ : L2.St} {a c s : Addr} {Hn Gn : Hp} {Q : VK} {ti te : TE} {xs : List V} {ds : List PyData} (hh : Hand MO Hn a c) (sG : Same Gn Hn) (nG : Gn a = none)
    (hv : ∀ R : VK, R (.ref s) Hn → ti σ Hn R) (hs : Gn s = some (.lst xs) ∨ Gn s = some (.tup xs)) (hd : DqAll Gn xs ds) (few : ds.length ≤ 1000)
    (hw : ∀ x, wipe ((wipe σ vs).set j (some x)) vs = wipe σ vs)
    (he : ∀ (x : V) (d : PyData) (H1 G1 : Hp) (R1 : VK), d ∈ ds → Dq G1 x d → Hand MO H1 a c → Ext a Hn Gn H1 G1 → (∀ y e H2 G2, Hand MO H2 a c → Ext a H1 G1 H2 G2 → Dq G2 y e → deepD e = deepD d → R1 y H2) → te ((wipe σ vs).set j (some x)) H1 R1)
    (hq : ∀ (D : Addr) (ys : List V) (es : List PyData) (H1 G1 : Hp), Hand MO H1 a c → Ext a Hn Gn H1 G1 → G1 D = some (.lst ys) → DqAll G1 ys es → es.map deepD = ds.map deepD → Q (.ref D) H1) : tLc (iSeq K ti) (gName j) tYes te vs σ Hn Q := by
  have len := hd.len
  have core : ∀ (J : It) (GG : Hp → Prop), Walk J xs.length GG (YAt xs) → (∀ H' G', Ext a Hn Gn H' G' → GG H') → ∀ D, Hn D = none → ∃ W : Nat → Nat → Hp → Prop, (∃ m, W 0 m (upd Hn D (.lst []))) ∧ ∀ i m H, W i m H →
      (J.stop i H ∧ Q (.ref D) H) ∨ (J.go i H ∧ ∃ Nx : Hp → Prop, (∀ H', Nx H' → ∃ m', m' < m ∧ W (i + 1) m' H') ∧ ∀ x H', J.yld i H x H' → gName j x (wipe σ vs) H' fun σ2 H2 => wipe σ2 vs = wipe σ vs ∧ tYes σ2 H2 fun b H3 =>
        if b = true then te σ2 H3 fun y H4 => ∃ acc, H4 D = some (.lst acc) ∧ acc.length < sizeLine ∧ Nx (upd H4 D (.lst (acc ++ [y]))) else Nx H3) := by
    intro J GG w hG D nD
    obtain ⟨Da, Dc⟩ := hand_apart hh nD
    have gD : Gn D = none := by
      cases e : Gn D with
      | none => rfl
      | some u => rw [sG _ _ e] at nD; cases nD
    let Pv : Nat → Hp → Prop := fun i H' => ∃ G' ys es, Hand MO H' a c ∧ Ext a Hn Gn H' G' ∧ H' D = some (.lst ys) ∧ G' D = none ∧ DqAll G' ys es ∧ es.map deepD = (ds.take i).map deepD
    refine ⟨fun i m H' => m = xs.length - i ∧ i ≤ xs.length ∧ Pv i H', ⟨xs.length, rfl, Nat.zero_le _, Gn, [], [], hand_keep hh nD, (Ext.refl (hand_some hh) sG nG).mk0 nD, upd_same, gD, .nil, rfl⟩, ?_⟩
    rintro i m H' ⟨rfl, hi, G', ys, es, h1, x1, hD, gD1, all, same⟩
    by_cases lt : i < xs.length
    · refine .inr ⟨w.goes i H' lt (hG _ _ x1), Pv (i + 1), fun H2 p => ⟨xs.length - (i + 1), by omega, rfl, lt, p⟩, ?_⟩
      intro x H2 y
      obtain ⟨rfl, ex⟩ := w.yields i H' x H2 lt (hG _ _ x1) y
      obtain ⟨d, ed, hxd⟩ := hd.get ex
      refine ⟨hw _, ?_⟩
      dsimp only [tYes]
      refine iteT (he x d H2 G' _ (List.mem_of_getElem? ed) (hxd.keep x1.up) h1 x1 fun y e H3 G3 h3 x3 hy eq => ?_)
      obtain ⟨hD3, gD3⟩ := x3.stays hD gD1 Da
      have le : es.length = i := by
        have z := congrArg List.length same
        rw [List.length_map, List.length_map, List.length_take] at z
        omega
      refine ⟨ys, hD3, small1000 (by rw [all.len, le]; omega), G3, ys ++ [y], es ++ [e], hand_upd h3 Da Dc, (x1.trans x3).put nD gD3 Da, upd_same, gD3, (all.keep x3.up).snoc hy, ?_⟩
      rw [List.take_add_one, ed, List.map_append, List.map_append, same]
      show _ ++ [deepD e] = _ ++ [deepD d]
      rw [eq]
    · have e : i = xs.length := by omega
      subst e
      rw [len, List.take_length] at same
      exact .inl ⟨w.stops H' (hG _ _ x1), hq D ys es H' _ h1 (x1.ice nD hD gD1 Da) upd_same (all.keep (same_upd gD1)) same⟩
  rcases hs with hs | hs
  · exact .inl (hv _ ⟨s, rfl, ⟨_, SqL.of (sG _ _ hs)⟩, core _ _ (walk_list (K := K) (a := s)) fun H' G' x => SqL.of (x.sub _ _ (x.up _ _ hs))⟩)
  · exact .inr (hv _ ⟨s, rfl, ⟨_, SqT.of (sG _ _ hs)⟩, core _ _ (walk_tup (K := K) (a := s)) fun H' G' x => SqT.of (x.sub _ _ (x.up _ _ hs))⟩)
def spLoose (K : PySem.W.Frag) (n : Nat) : Sp := fun vs H Q _ => ∃ (a c : Addr) (x : V) (G : Hp) (d : PyData), vs = [.ref a, x] ∧ Hand MO H a c ∧ Same G H ∧ G a = none ∧ Dq G x d ∧ fewD d = true ∧ dep d ≤ n ∧ Drawn a c H G (fun e => deepD e = deepD d) Q
section
variable {P : Program} {w : World} {K : PySem.W.Frag} {mg : Str → Option Value} {base : Heap}
theorem sc__law_loose : FnScope ["_law_hand_here", "_law_thing", "_law_items", "_law_item"] ["_law_hand_here", "_law_thing"] (defScope (topS 37)) := ⟨rfl, rfl, rfl, by decide +kernel, rfl, by decide +kernel, by decide +kernel⟩
theorem ok__law_loose {f : Addr} {fd : FuncData} (F : L2.Fun K "_law_loose" "_law_loose" (topS 37) f fd) (mf : mg "_law_loose" = some (.ref f)) (b : Binds K fd ["_law_hand_here", "_law_thing"] []) (cS : Cal P w K mg base 1 "_law_seq" (spLSeq K)) (cT : Cal P w K mg base 2 "_law_take" (spDraw MO)) (m_tuple : mg "tuple" = none) : ∀ n : Nat, FnOk P w K mg base CX0 (n + 3) f fd ["_law_hand_here", "_law_thing"] (spLoose K n) := by
  intro n
  induction n with
  | zero =>
    refine F.ok sc__law_loose (fun vs H Q E h => ?_) (fun cdv A outer s0 H vs Q E hr h => ?_)
    · obtain ⟨a, c, x, G, d, rfl, _⟩ := h
      rfl
    · obtain ⟨a, c, x, G, d, rfl, hh, sG, nG, hd, few, hn, k⟩ := h
      refine ⟨_, (pss_cons (ps_if (pt_val (pe_c cS hr (by omega) rfl (pa_cons (pv 1) pa_nil))) pss_never pss_nil)
      (pss_one (ps_ret (pv 1)))), ?_⟩
      refine ⟨_, rfl, x, d, rfl, hd.keep sG, _, rfl, ?_⟩
      cases e : seqOf d with
      | some ds =>
        exfalso
        cases d with
        | list es => rw [dep] at hn; omega
        | tuple es => rw [dep] at hn; omega
        | _ => cases e
      | none => exact iteF ⟨_, rfl, k x d H G hh (Ext.refl (hand_some hh) sG nG) hd rfl⟩
  | succ n ih =>
    have cI : Cal P w K mg base (n + 3) "_law_loose" (spLoose K n) := ⟨⟨f, fd, _, ih, mf, F.kp, b⟩⟩
    refine F.ok sc__law_loose (fun vs H Q E h => ?_) (fun cdv A outer s0 H vs Q E hr h => ?_)
    · obtain ⟨a, c, x, G, d, rfl, _⟩ := h
      rfl
    · obtain ⟨a, c, x, G, d, rfl, hh, sG, nG, hd, few, hn, k⟩ := h
      refine ⟨_, (pss_cons (ps_if (pt_val (pe_c cS hr (by omega) rfl (pa_cons (pv 1) pa_nil))) (pss_cons (ps_setLc (i := 2) (own := [("_law_item", 3)]) (g := gName 3) (tt := tYes) rfl sc__law_loose.nd rfl rfl rfl (pi_seq (pv 1)) (blkOk_by (N := ["_law_hand_here", "_law_thing", "_law_items", "_law_item"]) (sc := defScope (topS 37)) (by decide +kernel)) (fun _ _ _ _ _ => pg_name (i := 3) sc__law_loose.nd rfl (Or.inl rfl)) (fun _ _ _ _ _ => pts_nil) (fun _ _ _ _ _ => (show PE _ _ (tCall (spLoose K n) [] E0 (tCons (tVar 0) (tCons (tVar 3) tNil))) from (pe_c cI hr (by omega) rfl (pa_cons (pv 0) (pa_cons (pv 3) pa_nil)))))) (pss_one (ps_ret (pe_ifExp (pt_truth (pe_c cT hr (by omega) rfl (pa_cons (pv 0) (pa_cons pe_int pa_nil))) (by intro _; rfl)) (pv 2) (pe_callTy call_tuple_of (by rfl) m_tuple (by decide +kernel) (pa_cons (pv 2) pa_nil)))))) pss_nil)
      (pss_one (ps_ret (pv 1)))), ?_⟩
      refine ⟨_, rfl, x, d, rfl, hd.keep sG, _, rfl, ?_⟩
      cases e : seqOf d with
      | some ds =>
        refine iteT ?_
        obtain ⟨s, xs, rfl, hs, hall⟩ := hd.seq e
        obtain ⟨few1, few2⟩ := few_items few
        rw [itemsD_some e] at few1 few2
        dsimp only [tNext, tSeq, tAsg]
        refine lcLoose (K := K) hh sG nG (fun R h => ⟨_, rfl, h⟩) hs hall few1 (by intro _; rfl) (fun y t H1 G1 R1 m hy h1 x1 go => ?_) (fun D ys es H1 G1 h1 x1 gD all same => ?_)
        · exact ⟨_, rfl, _, rfl, a, c, y, G1, t, rfl, h1, x1.sub, x1.off, hy, few2 t m, dep_seq e hn t m, go⟩
        · have xr := Ext.refl (hand_some h1) x1.sub x1.off
          try dsimp only [gName, tSeq, tAsg, tNext, tRet, tIf]
          refine tk h1 x1 rfl (fun R h => h) (by omega) (by omega) fun v H2 v0 v1 h2 x2 sx2 => ?_
          have deep : ∀ e', (e' = .list es ∨ e' = .tuple es) → deepD e' = deepD d := fun e' z => by
            rw [deep_seq e, ← same]
            rcases z with rfl | rfl
            · rw [deepD, deepDs_map]
            · rw [deepD, deepDs_map]
          by_cases z : v = 0
          · subst z
            refine ⟨false, rfl, iteF ⟨_, rfl, D, _, rfl, .inl ⟨SqL.of (x2.sub _ _ gD), fun l nl => ?_⟩⟩⟩
            have gl : G1 l = none := by
              cases e : G1 l with
              | none => rfl
              | some u => rw [x2.sub _ _ e] at nl; cases nl
            exact k _ (.tuple es) _ _ (hand_keep h2 nl) (x2.mk_ nl) (.tup upd_same (all.keep (same_upd gl))) (deep _ (.inr rfl))
          · have ev : (v != 0) = true := by
              rw [bne_iff_ne]
              exact z
            exact ⟨true, ev.symm, iteT ⟨_, rfl, k _ (.list es) _ _ h2 x2 (.lst gD all) (deep _ (.inl rfl))⟩⟩
      | none => exact iteF ⟨_, rfl, k x d H G hh (Ext.refl (hand_some hh) sG nG) hd rfl⟩
end
end My
set_option Elab.async false
set_option linter.all false
set_option maxRecDepth 100000
set_option maxHeartbeats 4000000
namespace My
open PySem PySem.Spec PyProof.Rows L2

/-- a term: a name or one of these values -/
def TermD (S : List Int) (y : PyData) : Prop := (∃ s, s ∈ eight ∧ y = .str s) ∨ ∃ i, i ∈ S ∧ y = .int i
theorem eight_words : ∀ s ∈ eight, s ∈ wordsD := by decide +kernel

/-! ### small things: how large, how deep, which values -/
mutual
def inL (L : List Int) : PyData → Bool
  | .none => true
  | .bool _ => true
  | .int i => !(decide (0 ≤ i) && decide (i ≤ 1000000000)) || decide (i ∈ L)
  | .str _ => true
  | .dict _ => true
  | .list ds => inLs L ds
  | .tuple ds => inLs L ds
def inLs (L : List Int) : List PyData → Bool
  | [] => true
  | d :: ds => inL L d && inLs L ds
end
theorem inLs_of {L : List Int} {ds : List PyData} (h : ∀ d ∈ ds, inL L d = true) : inLs L ds = true := by
  induction ds with
  | nil => rw [inLs]
  | cons d r ih =>
    rw [inLs, h d (List.mem_cons_self ..), ih fun x m => h x (List.mem_cons_of_mem _ m)]
    rfl
theorem inLs_mem {L : List Int} {ds : List PyData} {d : PyData} (h : inLs L ds = true) (m : d ∈ ds) : inL L d = true := by
  induction ds with
  | nil => cases m
  | cons e r ih =>
    rw [inLs, Bool.and_eq_true] at h
    rcases List.mem_cons.mp m with z | z
    · rw [z]; exact h.1
    · exact ih h.2 z
mutual
theorem inL_mono {L M : List Int} (s : ∀ i ∈ L, i ∈ M) : ∀ d : PyData, inL L d = true → inL M d = true
  | .none, _ => by rw [inL]
  | .bool _, _ => by rw [inL]
  | .int i, h => by
    rw [inL, Bool.or_eq_true] at h ⊢
    exact h.imp id fun h => decide_eq_true (s i (of_decide_eq_true h))
  | .str _, _ => by rw [inL]
  | .dict _, _ => by rw [inL]
  | .list ds, h => by
    rw [inL] at h ⊢
    exact inLs_mono s ds h
  | .tuple ds, h => by
    rw [inL] at h ⊢
    exact inLs_mono s ds h
theorem inLs_mono {L M : List Int} (s : ∀ i ∈ L, i ∈ M) : ∀ ds : List PyData, inLs L ds = true → inLs M ds = true
  | [], _ => by rw [inLs]
  | d :: ds, h => by
    rw [inLs, Bool.and_eq_true] at h ⊢
    exact ⟨inL_mono s d h.1, inLs_mono s ds h.2⟩
end
structure Sm (L : List Int) (m k : Nat) (d : PyData) : Prop where
  leaf : leafD d = true
  few : fewD d = true
  dp : dep d ≤ k
  sz : szD d ≤ m
  vals : inL L d = true
theorem Sm.mono {L M : List Int} {m k m' k' : Nat} {d : PyData} (h : Sm L m k d) (s : ∀ i ∈ L, i ∈ M) (hm : m ≤ m') (hk : k ≤ k') : Sm M m' k' d :=
  ⟨h.leaf, h.few, Nat.le_trans h.dp hk, Nat.le_trans h.sz hm, inL_mono s d h.vals⟩
theorem depAll_le {ds : List PyData} {k : Nat} (h : ∀ d ∈ ds, dep d ≤ k) : depAll ds ≤ k := by
  induction ds with
  | nil => exact Nat.zero_le _
  | cons d r ih =>
    have h1 := h d (List.mem_cons_self ..)
    have h2 := ih fun x m => h x (List.mem_cons_of_mem _ m)
    rw [depAll]
    omega
theorem Sm.list {L : List Int} {m k n : Nat} {ds : List PyData} (h : ∀ d ∈ ds, Sm L m k d) (hn : ds.length ≤ n) (n1 : n ≤ 1000) : Sm L ((m + 2) * n + 3) (k + 1) (.list ds) where
  leaf := by rw [leafD]; exact leafDs_of fun d q => (h d q).leaf
  few := by rw [fewD, decide_eq_true (show ds.length ≤ 1000 by omega), fewDs_of fun d q => (h d q).few]; rfl
  dp := by
    rw [dep]
    have := depAll_le fun d q => (h d q).dp
    omega
  sz := by
    rw [szD]
    have z := szDs_le fun d q => (h d q).sz
    have : (m + 2) * ds.length ≤ (m + 2) * n := Nat.mul_le_mul_left _ hn
    omega
  vals := by rw [inL]; exact inLs_of fun d q => (h d q).vals
theorem Sm.tuple {L : List Int} {m k n : Nat} {ds : List PyData} (h : ∀ d ∈ ds, Sm L m k d) (hn : ds.length ≤ n) (n1 : n ≤ 1000) : Sm L ((m + 2) * n + 3) (k + 1) (.tuple ds) where
  leaf := by rw [leafD]; exact leafDs_of fun d q => (h d q).leaf
  few := by rw [fewD, decide_eq_true (show ds.length ≤ 1000 by omega), fewDs_of fun d q => (h d q).few]; rfl
  dp := by
    rw [dep]
    have := depAll_le fun d q => (h d q).dp
    omega
  sz := by
    rw [szD]
    have z := szDs_le fun d q => (h d q).sz
    have : (m + 2) * ds.length ≤ (m + 2) * n := Nat.mul_le_mul_left _ hn
    omega
  vals := by rw [inL]; exact inLs_of fun d q => (h d q).vals
/-- the small values that stand in the law's own text -/
def FL : List Int := [0, 1, 2, 3, 4, 5, 6, 7, 8]
theorem sm_int {L : List Int} {i : Int} (h : i.natAbs < 10 ^ 19) (m : 0 ≤ i → i ≤ 1000000000 → i ∈ L) : Sm L 30 1 (.int i) where
  leaf := by rw [leafD]; exact decide_eq_true h
  few := by rw [fewD]
  dp := by rw [dep]; omega
  sz := by rw [szD]; omega
  vals := by
    rw [inL]
    by_cases c : 0 ≤ i ∧ i ≤ 1000000000
    · rw [decide_eq_true (m c.1 c.2), Bool.or_true]
    · have e : (decide (0 ≤ i) && decide (i ≤ 1000000000)) = false := by
        rw [Bool.and_eq_false_iff]
        by_cases c0 : 0 ≤ i
        · exact .inr (decide_eq_false fun c1 => c ⟨c0, c1⟩)
        · exact .inl (decide_eq_false c0)
      rw [e]
      rfl
theorem sm_str {L : List Int} {s : Str} (h : s ∈ wordsD) : Sm L 30 1 (.str s) where
  leaf := by rw [leafD]; exact decide_eq_true h
  few := by rw [fewD]
  dp := by rw [dep]; omega
  sz := by rw [szD]; omega
  vals := by rw [inL]
theorem sm_term {S L : List Int} {y : PyData} (h : TermD S y) (s : ∀ i ∈ S, i ∈ L) (r : ∀ i ∈ S, 0 ≤ i ∧ i ≤ 1000000000) : Sm L 30 1 y := by
  rcases h with ⟨z, m, rfl⟩ | ⟨i, m, rfl⟩
  · exact sm_str (eight_words z m)
  · have := r i m
    exact sm_int (by omega) fun _ _ => s i m
theorem sm_noVal {L : List Int} {y : PyData} (h : NoVal y) (s : ∀ i ∈ FL, i ∈ L) : Sm L 30 1 y where
  leaf := h.1
  few := h.2.1
  dp := h.2.2.1
  sz := h.2.2.2.1
  vals := by
    obtain ⟨_, _, _, _, ht, hi⟩ := h
    have z0 : inL L (.int 0) = true := by
      rw [inL, decide_eq_true (s 0 (by decide)), Bool.or_true]
    cases y with
    | int i =>
      rw [inL]
      have e : (decide (0 ≤ i) && decide (i ≤ 1000000000)) = false := by
        have ht : (false || (decide (0 ≤ i) && decide (i ≤ 1000000000))) = false := ht
        rw [Bool.false_or] at ht
        exact ht
      rw [e]
      rfl
    | list ds =>
      rw [inL]
      exact inLs_of fun d m => by rw [hi d m]; exact z0
    | tuple ds =>
      rw [inL]
      exact inLs_of fun d m => by rw [hi d m]; exact z0
    | _ => rw [inL]
theorem sm_rid {L : List Int} {y : PyData} (h : Rid y) (s : ∀ i ∈ FL, i ∈ L) : Sm L 30 1 y := by
  unfold Rid at h
  simp only [List.mem_cons, List.not_mem_nil, or_false] at h
  rcases h with rfl | rfl | rfl | rfl | rfl | rfl
  · exact ⟨by decide +kernel, by decide +kernel, by decide +kernel, by decide +kernel, by rw [inL]⟩
  · exact sm_int (by decide) fun _ _ => s 3 (by decide)
  · exact sm_str (by decide +kernel)
  · exact ⟨by decide +kernel, by decide +kernel, by decide +kernel, by decide +kernel, by rw [inL]⟩
  · exact ⟨by decide +kernel, by decide +kernel, by decide +kernel, by decide +kernel, by unfold D01; rw [inL]⟩
  · exact sm_int (by decide) fun z _ => by omega
/-- what is fresh now was so before -/
theorem Ext.was {a p : Addr} {H G H1 G1 : Hp} (x : Ext a H G H1 G1) (n : H1 p = none) (pa : p ≠ a) : H p = none := by
  cases e : H p with
  | none => rfl
  | some u => rw [x.old p u pa e] at n; cases n
theorem Ext.gone {a p : Addr} {H G H1 G1 : Hp} (x : Ext a H G H1 G1) (n : H1 p = none) : G1 p = none := by
  cases e : G1 p with
  | none => rfl
  | some u => rw [x.sub _ _ e] at n; cases n
/-- a row spoilt -/
def spSpoilt (K : PySem.W.Frag) : Sp := fun vs H Q _ => ∃ (a c W : Addr) (x : V) (G : Hp) (ws S : List Int) (t : Nat) (dd rr : PyData) (ts : List PyData), vs = [.ref a, .ref W, x] ∧ Hand MO H a c ∧ Same G H ∧ G a = none ∧ G W = some (.lst (ws.map V.int)) ∧ ws.length ≤ 6 ∧
  Dq G x dd ∧ seqOf dd = some [.int (t : Nat), rr] ∧ seqOf rr = some ts ∧ t < ws.length ∧ ts.length ≤ 3 ∧ (∀ y ∈ ts, TermD S y) ∧ (∀ i ∈ S, 0 ≤ i ∧ i ≤ 1000000000) ∧ Drawn a c H G (fun e => ∃ X : List Int, X.length ≤ 2 ∧ Sm (FL ++ (S ++ X)) 600 4 e) Q
section
variable {P : Program} {w : World} {K : PySem.W.Frag} {mg : Str → Option Value} {base : Heap}
end
end My
set_option Elab.async false
set_option linter.all false
set_option maxRecDepth 100000
set_option maxHeartbeats 4000000
namespace My
open PySem PySem.Spec PyProof.Rows L2

/-- how an atom under spoiling stands: its table, its parts (a list of one's own at P) -/
def SpS (a c : Addr) (H G : Hp) (S : List Int) (i : Nat) (P : Addr) (tv : V) (H' : Hp) : Prop := ∃ (G' : Hp) (ys : List V) (ps : List PyData) (td : PyData) (X : List Int), Hand MO H' a c ∧ Ext a H G H' G' ∧ H' P = some (.lst ys) ∧ G' P = none ∧ P ≠ a ∧ P ≠ c ∧ H P = none ∧ DqAll G' ys ps ∧ Dq G' tv td ∧
  ps.length ≤ 3 + i ∧ X.length ≤ i ∧ Sm (FL ++ (S ++ X)) 30 1 td ∧ ∀ p ∈ ps, Sm (FL ++ (S ++ X)) 30 1 p
theorem ixNat {n j : Nat} (hj : j < n) : ixN n (j : Int) = some j := by
  unfold ixN
  rw [if_pos (by omega), if_pos (by omega)]
  simp
theorem more {S X : List Int} {z : Int} : ∀ i ∈ FL ++ (S ++ X), i ∈ FL ++ (S ++ (X ++ [z])) := fun i m => by
  rcases List.mem_append.mp m with m | m
  · exact List.mem_append_left _ m
  · rcases List.mem_append.mp m with m | m
    · exact List.mem_append_right _ (List.mem_append_left _ m)
    · exact List.mem_append_right _ (List.mem_append_right _ (List.mem_append_left _ m))
theorem last {S X : List Int} {z : Int} : z ∈ FL ++ (S ++ (X ++ [z])) := List.mem_append_right _ (List.mem_append_right _ (List.mem_append_right _ (List.mem_singleton.mpr rfl)))
theorem inFL {L : List Int} : ∀ i ∈ FL, i ∈ FL ++ L := fun i m => List.mem_append_left _ m
section
variable {P : Program} {w : World} {K : PySem.W.Frag} {mg : Str → Option Value} {base : Heap}
theorem sc__law_spoilt : FnScope ["_law_hand_here", "_law_widths", "_law_thing", "_law_table", "_law_parts", "_law_turn", "_law_kind"] ["_law_hand_here", "_law_widths", "_law_thing"] (defScope (topS 42)) := ⟨rfl, rfl, rfl, by decide +kernel, rfl, by decide +kernel, by decide +kernel⟩
theorem ok__law_spoilt {f : Addr} {fd : FuncData} (F : L2.Fun K "_law_spoilt" "_law_spoilt" (topS 42) f fd) (cT : Cal P w K mg base 2 "_law_take" (spDraw MO)) (cA : Cal P w K mg base 3 "_law_any_value" (spAny K)) (cN : Cal P w K mg base 3 "_law_no_value" (spNoVal K)) (cR : Cal P w K mg base 3 "_law_rid" (spRid K)) (m_len : mg "len" = none) (m_range : mg "range" = none) (m_list : mg "list" = none) : FnOk P w K mg base CX0 4 f fd ["_law_hand_here", "_law_widths", "_law_thing"] (spSpoilt K) := by
  refine F.ok sc__law_spoilt (fun vs H Q E h => ?_) (fun cdv A outer s0 H vs Q E hr h => ?_)
  · obtain ⟨a, c, W, x, G, ws, S, t, dd, rr, ts, rfl, _⟩ := h
    rfl
  · obtain ⟨a, c, W, x, G, ws, S, t, dd, rr, ts, rfl, hh, sG, nG, hW, w6, hx, ed1, ed2, tw, t3, okT, okS, k⟩ := h
    refine ⟨_, (pss_cons (ps_set (i := 3) sc__law_spoilt.nd rfl (.inl rfl) (pe_ix ix_seq (pv 2) pe_int (fun _ _ => rfl)))
      (pss_cons (ps_set (i := 4) sc__law_spoilt.nd rfl (.inl rfl) (pe_callTy call_list_of (by rfl) m_list (by decide +kernel) (pa_cons (pe_ix ix_seq (pv 2) pe_int (fun _ _ => rfl)) pa_nil)))
      (pss_cons (ps_for PassesOwn.never rfl (pi_range1 (by rfl) m_range (pa_cons (pe_op op_add pe_int (pe_c cT hr (by decide) rfl (pa_cons (pv 0) (pa_cons pe_int pa_nil)))) pa_nil)) (pg_name (i := 5) sc__law_spoilt.nd rfl (.inl rfl)) (pss_cons (ps_set (i := 6) sc__law_spoilt.nd rfl (.inl rfl) (pe_c cT hr (by decide) rfl (pa_cons (pv 0) (pa_cons pe_int pa_nil)))) (pss_one (ps_if (pt_cmpR op_eq (pv 6) pe_int (nomark _)) (pss_one (ps_set (i := 3) sc__law_spoilt.nd rfl (.inl rfl) (pe_ix ix_tup (pe_tup (pa_cons (pe_un un_neg pe_int) (pa_cons (pe_callB call_len_seq (by rfl) m_len PySem.boot_len (pa_cons (pv 1) pa_nil)) (pa_cons (pe_op op_add (pe_callB call_len_seq (by rfl) m_len PySem.boot_len (pa_cons (pv 1) pa_nil)) (pe_c cT hr (by decide) rfl (pa_cons (pv 0) (pa_cons (pe_op op_pow pe_int pe_int) pa_nil)))) (pa_cons pe_bl (pa_cons pe_bl (pa_cons pe_non (pa_cons pe_str pa_nil)))))))) (pe_c cT hr (by decide) rfl (pa_cons (pv 0) (pa_cons pe_int pa_nil))) (fun _ _ => rfl)))) (pss_one (ps_if (pt_cmpR op_eq (pv 6) pe_int (nomark _)) (pss_one (ps_set (i := 4) sc__law_spoilt.nd rfl (.inl rfl) (pe_op op_cat (pv 4) (pe_lst (pa_cons (pe_c cA hr (by decide) rfl (pa_cons (pv 0) pa_nil)) pa_nil))))) (pss_one (ps_if (pt_cmpR op_eq (pv 6) pe_int (nomark _)) (pss_one (ps_set (i := 4) sc__law_spoilt.nd rfl (.inl rfl) (pe_slice sl_list (pv 4) (po_some pe_int) po_none))) (pss_one (ps_if (PW.pt (pw_and (pt_cmpR op_lt (pv 6) pe_int (nomark _)) (pw_and1 (pt_truth (pv 4) (by intro _; rfl))))) (pss_one (ps_asg (pe_c cN hr (by decide) rfl (pa_cons (pv 0) pa_nil)) (pg_sub (pv 4) (pe_c cT hr (by decide) rfl (pa_cons (pv 0) (pa_cons (pe_callB call_len_seq (by rfl) m_len PySem.boot_len (pa_cons (pv 4) pa_nil)) pa_nil))) set_list))) (pss_one (ps_if (pt_cmpR op_eq (pv 6) pe_int (nomark _)) (pss_one (ps_ret (pe_ix ix_list (pe_lst (pa_cons (pe_c cR hr (by decide) rfl (pa_cons (pv 0) pa_nil)) (pa_cons (pe_lst (pa_cons (pv 3) pa_nil)) (pa_cons (pe_lst (pa_cons (pv 3) (pa_cons (pv 4) (pa_cons (pv 4) pa_nil)))) (pa_cons (pe_lst (pa_cons (pv 3) (pa_cons (pe_c cR hr (by decide) rfl (pa_cons (pv 0) pa_nil)) pa_nil))) (pa_cons (pe_lst (pa_cons (pv 4) (pa_cons (pv 3) pa_nil))) (pa_cons (pe_lst pa_nil) pa_nil))))))) (pe_c cT hr (by decide) rfl (pa_cons (pv 0) (pa_cons pe_int pa_nil))) (fun _ _ => rfl)))) pss_nil))))))))))))
      (pss_one (ps_ret (pe_lst (pa_cons (pv 3) (pa_cons (pv 4) pa_nil)))))))), ?_⟩
    have few : ∀ {n : Nat}, n ≤ 1000 → n ≤ sizeLine := fun h => Nat.le_of_lt (small1000 h)
    have x0 := Ext.refl (hand_some hh) sG nG
    obtain ⟨p, xs, rfl, hp, hall⟩ := hx.seq ed1
    match xs, hall with
    | [y0, y1], .cons g0 (.cons g1 .nil) =>
    cases g0
    obtain ⟨r, ys0, rfl, hr, hys0⟩ := g1.seq ed2
    have hpH : H p = some (.lst [.int (t : Nat), .ref r]) ∨ H p = some (.tup [.int (t : Nat), .ref r]) := hp.imp (sG _ _) (sG _ _)
    refine ⟨_, rfl, rd_ix (sqv_of hpH) (atI_nat (j := 0) rfl) ?_⟩
    refine ⟨_, rfl, rd_ix (sqv_of hpH) (atI_nat (j := 1) rfl) ⟨r, ys0, rfl, hr.imp (fun z => SqL.of (sG _ _ z)) (fun z => SqT.of (sG _ _ z)), fun P nP => ?_⟩⟩
    obtain ⟨Pa, Pc⟩ := hand_apart hh nP
    have gP : G P = none := x0.gone nP
    have h1 := hand_keep (o := HO.lst ys0) hh nP
    have x1 := x0.mk0 (o := HO.lst ys0) nP
    have hP : (upd H P (.lst ys0)) P = some (.lst ys0) := upd_same
    generalize upd H P (.lst ys0) = H1 at h1 x1 hP ⊢
    try dsimp only [gName, tSeq, tAsg, tNext]
    refine tk h1 x1 rfl (fun R h => h) (by omega) (by omega) fun v H2 v0 v1 h2 x2 sx2 => ?_
    refine ⟨_, _, rfl, rfl, ?_⟩
    obtain ⟨nv, rfl⟩ : ∃ n : Nat, v = (n : Int) := ⟨v.toNat, (Int.toNat_of_nonneg v0).symm⟩
    have ev : (1 : Int) + (nv : Int) = ((nv + 1 : Nat) : Int) := by omega
    refine ⟨((nv + 1 : Nat) : Int), by rw [← ev], by omega, by omega, ?_⟩
    rw [Int.toNat_natCast]
    refine for_range (lo := 0) (n := nv + 1) (fun i σ H' => ∃ tv P v5 v6, σ = [some (.ref a), some (.ref W), some (.ref p), some tv, some (.ref P), v5, v6] ∧ SpS a c H G S i P tv H') ?_ ?_ ?_
    · refine ⟨_, P, _, _, rfl, G, ys0, ts, .int (t : Int), [], h2, x2, sx2 _ _ Pa hP, gP, Pa, Pc, nP, hys0, .int _, by omega, Nat.le_refl _, ?_, fun y m => ?_⟩
      · refine sm_int (by omega) fun _ _ => List.mem_append_left _ ?_
        unfold FL
        simp only [List.mem_cons, List.not_mem_nil, or_false]
        omega
      · exact sm_term (okT y m) (fun i mi => List.mem_append_right _ (List.mem_append_left _ mi)) okS
    · rintro i σ H3 li ⟨tv, P, v5, v6, rfl, G3, ys, ps, td, X, h3, x3, hP3, gP3, Pa, Pc, nP, allP, hT, lp, lX, smT, smP⟩
      have i2 : i < 2 := by omega
      try dsimp only [gName, tSeq, tAsg, tNext]
      refine tk h3 x3 rfl (fun R h => h) (by omega) (by omega) fun kd H4 k0 k1 h4 x4 sx4 => ?_
      have hP4 := sx4 _ _ Pa hP3
      have hW4 := x4.sub _ _ (x4.up _ _ hW)
      have lW : (ws.map V.int).length = ws.length := List.length_map ..
      refine ⟨_, rfl, rfl, _, rfl, ite2 (fun z => ?_) (fun z => ?_)⟩
      · -- another table
        have e12 : (10 : Int) ^ (12 : Int).toNat = 1000000000000 := by decide
        refine ⟨_, rfl, _, rfl, W, _, rfl, .inl (SqL.of hW4), _, rfl, W, _, rfl, .inl (SqL.of hW4), ?_⟩
        refine tk h4 x4 rfl (fun R h => ⟨_, _, rfl, rfl, ⟨by decide, by decide, by decide⟩, h⟩) (by rw [e12]; omega) (by rw [e12]; omega) fun u H5 u0 u1 h5 x5 sx5 => ?_
        rw [e12] at u1
        refine ⟨_, _, rfl, rfl, few (by show 7 ≤ 1000; omega), fun q nq => ?_⟩
        have h6 := hand_keep (o := HO.tup [V.int (-1), V.int ((ws.map V.int).length : Nat), V.int (((ws.map V.int).length : Nat) + u), V.bl true, V.bl false, V.non, V.str "0"]) h5 nq
        have x6 := x5.mk0 (o := HO.tup [V.int (-1), V.int ((ws.map V.int).length : Nat), V.int (((ws.map V.int).length : Nat) + u), V.bl true, V.bl false, V.non, V.str "0"]) nq
        have hP5 := sx5 _ _ Pa hP4
        have hP6 := same_upd (o := HO.tup [V.int (-1), V.int ((ws.map V.int).length : Nat), V.int (((ws.map V.int).length : Nat) + u), V.bl true, V.bl false, V.non, V.str "0"]) nq _ _ hP5
        have hq6 : (upd H5 q (.tup [V.int (-1), V.int ((ws.map V.int).length : Nat), V.int (((ws.map V.int).length : Nat) + u), V.bl true, V.bl false, V.non, V.str "0"])) q = some (.tup [V.int (-1), V.int ((ws.map V.int).length : Nat), V.int (((ws.map V.int).length : Nat) + u), V.bl true, V.bl false, V.non, V.str "0"]) := upd_same
        have qa : q ≠ a := (hand_apart h5 nq).1
        refine tk h6 x6 rfl (fun R h => h) (by omega) (by omega) fun y H7 y0 y1 h7 x7 sx7 => ?_
        have hP7 := sx7 _ _ Pa hP6
        have hq7 := sx7 _ _ qa hq6
        obtain ⟨n, rfl⟩ : ∃ n : Nat, y = (n : Int) := ⟨y.toNat, (Int.toNat_of_nonneg y0).symm⟩
        have all7 : DqAll G3 [V.int (-1), V.int ((ws.map V.int).length : Nat), V.int (((ws.map V.int).length : Nat) + u), V.bl true, V.bl false, V.non, V.str "0"] [.int (-1), .int ((ws.map V.int).length : Nat), .int (((ws.map V.int).length : Nat) + u), .bool true, .bool false, .none, .str "0"] :=
          .cons (.int _) (.cons (.int _) (.cons (.int _) (.cons (.bl _) (.cons (.bl _) (.cons .non (.cons (.str _) .nil))))))
        obtain ⟨tv', ex⟩ : ∃ x, [V.int (-1), V.int ((ws.map V.int).length : Nat), V.int (((ws.map V.int).length : Nat) + u), V.bl true, V.bl false, V.non, V.str "0"][n]? = some x := ⟨_, List.getElem?_eq_getElem (by show n < 7; omega)⟩
        obtain ⟨td', ed, hd⟩ := all7.get ex
        refine ⟨q, _, _, _, rfl, rfl, SqT.of hq7, atI_nat ex, ?_⟩
        refine ⟨tv', P, _, _, rfl, G3, ys, ps, td', X ++ [((ws.map V.int).length : Nat) + u], h7, x7, hP7, gP3, Pa, Pc, nP, allP, hd, by omega, ?_, ?_, fun e m => (smP e m).mono more (Nat.le_refl _) (Nat.le_refl _)⟩
        · rw [List.length_append]
          show X.length + 1 ≤ _
          omega
        · have md := List.mem_of_getElem? ed
          simp only [List.mem_cons, List.not_mem_nil, or_false] at md
          rcases md with rfl | rfl | rfl | rfl | rfl | rfl | rfl
          · exact sm_int (by decide) fun z _ => by omega
          · refine sm_int (by omega) fun _ _ => inFL _ ?_
            unfold FL
            simp only [List.mem_cons, List.not_mem_nil, or_false]
            omega
          · exact sm_int (by omega) fun _ _ => last
          · exact ⟨by decide +kernel, by decide +kernel, by decide +kernel, by decide +kernel, by rw [inL]⟩
          · exact ⟨by decide +kernel, by decide +kernel, by decide +kernel, by decide +kernel, by rw [inL]⟩
          · exact ⟨by decide +kernel, by decide +kernel, by decide +kernel, by decide +kernel, by rw [inL]⟩
          · exact sm_str (by decide +kernel)
      refine ⟨_, rfl, rfl, _, rfl, ite2 (fun z1 => ?_) (fun z1 => ?_)⟩
      · -- one part more
        refine ⟨_, rfl, ?_⟩
        refine ⟨_, rfl, a, c, G3, rfl, h4, x4.sub, x4.off, fun y d H5 G5 h5 x5 hy hd => ?_⟩
        obtain ⟨hP5, gP5⟩ := x5.stays hP4 gP3 Pa
        have x45 := x4.trans x5
        refine ⟨few (by show 1 ≤ 1000; omega), fun q nq => ?_⟩
        have h6 := hand_keep (o := HO.lst [y]) h5 nq
        have x6 := x45.mk0 (o := HO.lst [y]) nq
        have hP6 := same_upd (o := HO.lst [y]) nq _ _ hP5
        have hq6 : (upd H5 q (.lst [y])) q = some (.lst [y]) := upd_same
        generalize upd H5 q (.lst [y]) = H6 at h6 x6 hP6 hq6 ⊢
        refine ⟨P, q, _, _, rfl, rfl, hP6, hq6, Nat.le_of_lt (small1000 (by rw [allP.len]; show ps.length + 1 ≤ 1000; omega)), fun P2 nP2 => ?_⟩
        obtain ⟨Pa2, Pc2⟩ := hand_apart h6 nP2
        obtain ⟨iv, rfl, iv0, iv1⟩ := hd
        refine ⟨tv, P2, _, _, rfl, G5, ys ++ [y], ps ++ [.int iv], td, X ++ [iv], hand_keep h6 nP2, x6.mk0 nP2, upd_same, x6.gone nP2, Pa2, Pc2, x6.was nP2 Pa2, (allP.keep x5.up).snoc hy, hT.keep x5.up, ?_, ?_, smT.mono more (Nat.le_refl _) (Nat.le_refl _), fun e m => ?_⟩
        · rw [List.length_append]
          show ps.length + 1 ≤ _
          omega
        · rw [List.length_append]
          show X.length + 1 ≤ _
          omega
        · rcases List.mem_append.mp m with m | m
          · exact (smP e m).mono more (Nat.le_refl _) (Nat.le_refl _)
          · rw [List.mem_singleton.mp m]
            exact sm_int (by omega) fun _ _ => last
      refine ⟨_, rfl, rfl, _, rfl, ite2 (fun z2 => ?_) (fun z2 => ?_)⟩
      · -- one part less
        refine ⟨_, rfl, 1, rfl, P, ys, rfl, SqL.of hP4, fun P2 nP2 => ?_⟩
        obtain ⟨Pa2, Pc2⟩ := hand_apart h4 nP2
        refine ⟨tv, P2, _, _, rfl, G3, _, _, td, X, hand_keep h4 nP2, x4.mk0 nP2, upd_same, x4.gone nP2, Pa2, Pc2, x4.was nP2 Pa2, (allP.drop _).take _, hT, ?_, by omega, smT, fun e m => smP e (List.mem_of_mem_drop (List.mem_of_mem_take m))⟩
        rw [List.length_take, List.length_drop]
        omega
      have same : SpS a c H G S (i + 1) P tv H4 := ⟨G3, ys, ps, td, X, h4, x4, hP4, gP3, Pa, Pc, nP, allP, hT, by omega, by omega, smT, smP⟩
      refine ⟨_, rfl, _, _, rfl, rfl, _, rfl, ite2 (fun z3 => ?_) (fun z3 => ?_)⟩
      · have k5 : kd < 5 := of_decide_eq_true z3
        refine ⟨_, rfl, !ys.isEmpty, .inl ⟨_, SqL.of hP4, rfl⟩, ?_⟩
        cases hb : (!ys.isEmpty) with
        | false =>
          refine iteF ⟨_, rfl, rfl, _, rfl, ite2 (fun z5 => ?_) (fun z5 => ?_)⟩
          · have e := V.int.inj (of_decide_eq_true z5)
            omega
          · exact ⟨tv, P, _, _, rfl, same⟩
        | true =>
          refine iteT ⟨_, rfl, a, c, G3, rfl, h4, x4.sub, x4.off, fun y d H5 G5 h5 x5 hd nv' => ?_⟩
          obtain ⟨hP5, gP5⟩ := x5.stays hP4 gP3 Pa
          have l0 : 0 < ys.length := by
            cases ys with
            | nil => cases hb
            | cons _ _ => exact Nat.succ_pos _
          have l1000 : ys.length ≤ 1000 := by rw [allP.len]; omega
          refine ⟨_, rfl, ?_⟩
          refine tk h5 (x4.trans x5) rfl (fun R h => ⟨_, rfl, P, _, rfl, .inl (SqL.of hP5), h⟩) (by omega) (by omega) fun n H6 n0 n1 h6 x6 sx6 => ?_
          obtain ⟨m, rfl⟩ : ∃ m : Nat, n = (m : Int) := ⟨n.toNat, (Int.toNat_of_nonneg n0).symm⟩
          have hP6 := sx6 _ _ Pa hP5
          refine ⟨P, ys, _, m, rfl, rfl, hP6, ixNat (by omega), ?_⟩
          refine ⟨tv, P, _, _, rfl, G5, ys.set m y, ps.set m d, td, X, hand_upd h6 Pa Pc, x6.put nP gP5 Pa, upd_same, gP5, Pa, Pc, nP, (allP.keep x5.up).set m hd, hT.keep x5.up, by rw [List.length_set]; omega, by omega, smT, fun e me => ?_⟩
          rcases List.mem_or_eq_of_mem_set me with me | me
          · exact smP e me
          · rw [me]
            exact sm_noVal nv' inFL
      · have k5 : kd = 5 := by
          have z3 : ¬ kd < 5 := fun y => z3 (decide_eq_true y)
          omega
        subst k5
        refine ⟨_, rfl, rfl, _, rfl, iteT ?_⟩
        have xI := x4.ice nP hP4 gP3 Pa
        have sI := same_upd (o := HO.lst ys) gP3
        have gI : (upd G3 P (.lst ys)) P = some (.lst ys) := upd_same
        have dT := hT.keep sI
        have dP : Dq (upd G3 P (.lst ys)) (.ref P) (.list ps) := .lst gI (allP.keep sI)
        generalize upd G3 P (.lst ys) = GI at xI gI dT dP
        have smL : Sm (FL ++ (S ++ X)) 163 2 (.list ps) := Sm.list smP (n := 5) (by omega) (by omega)
        have smT' : Sm (FL ++ (S ++ X)) 163 2 td := smT.mono (fun _ m => m) (by omega) (by omega)
        refine ⟨_, rfl, a, c, GI, rfl, h4, xI.sub, xI.off, fun y1 d1 H5 G5 h5 x5 hd1 r1 => ?_⟩
        have xx := xI.trans x5
        have dT := dT.keep x5.up
        have dP := dP.keep x5.up
        -- [table]
        refine ⟨_, rfl, few (by show 1 ≤ 1000; omega), fun l1 n1 => ?_⟩
        have u1 := same_upd (o := HO.lst [tv]) (xx.gone n1)
        have h5 := hand_keep (o := HO.lst [tv]) h5 n1
        have xx := xx.mk_ (o := HO.lst [tv]) n1
        have hd1 := hd1.keep u1
        have dT := dT.keep u1
        have dP := dP.keep u1
        have e1 : Dq (upd G5 l1 (.lst [tv])) (.ref l1) (.list [td]) := .lst upd_same (.cons dT .nil)
        generalize upd H5 l1 (.lst [tv]) = H6 at h5 xx ⊢
        generalize upd G5 l1 (.lst [tv]) = G6 at xx hd1 dT dP e1
        -- [table, parts, parts]
        refine ⟨_, rfl, _, rfl, _, rfl, few (by show 3 ≤ 1000; omega), fun l2 n2 => ?_⟩
        have u2 := same_upd (o := HO.lst [tv, .ref P, .ref P]) (xx.gone n2)
        have h5 := hand_keep (o := HO.lst [tv, .ref P, .ref P]) h5 n2
        have xx := xx.mk_ (o := HO.lst [tv, .ref P, .ref P]) n2
        have hd1 := hd1.keep u2
        have dT := dT.keep u2
        have dP := dP.keep u2
        have e1 := e1.keep u2
        have e2 : Dq (upd G6 l2 (.lst [tv, .ref P, .ref P])) (.ref l2) (.list [td, .list ps, .list ps]) := .lst upd_same (.cons dT (.cons dP (.cons dP .nil)))
        generalize upd H6 l2 (.lst [tv, .ref P, .ref P]) = H7 at h5 xx ⊢
        generalize upd G6 l2 (.lst [tv, .ref P, .ref P]) = G7 at xx hd1 dT dP e1 e2
        -- [table, rid]
        refine ⟨_, rfl, _, rfl, a, c, G7, rfl, h5, xx.sub, xx.off, fun y2 d2 H8 G8 h8 x8 hd2 r2 => ⟨few (by show 2 ≤ 1000; omega), fun l4 n4 => ?_⟩⟩
        have xx := xx.trans x8
        have u4 := same_upd (o := HO.lst [tv, y2]) (xx.gone n4)
        have v4 := x8.up.trans u4
        have h5 := hand_keep (o := HO.lst [tv, y2]) h8 n4
        have xx := xx.mk_ (o := HO.lst [tv, y2]) n4
        have hd1 := hd1.keep v4
        have dT := dT.keep v4
        have dP := dP.keep v4
        have e1 := e1.keep v4
        have e2 := e2.keep v4
        have e4 : Dq (upd G8 l4 (.lst [tv, y2])) (.ref l4) (.list [td, d2]) := .lst upd_same (.cons dT (.cons (hd2.keep u4) .nil))
        generalize upd H8 l4 (.lst [tv, y2]) = H9 at h5 xx ⊢
        generalize upd G8 l4 (.lst [tv, y2]) = G9 at xx hd1 dT dP e1 e2 e4
        -- [parts, table]
        refine ⟨_, rfl, _, rfl, few (by show 2 ≤ 1000; omega), fun l5 n5 => ?_⟩
        have u5 := same_upd (o := HO.lst [.ref P, tv]) (xx.gone n5)
        have h5 := hand_keep (o := HO.lst [.ref P, tv]) h5 n5
        have xx := xx.mk_ (o := HO.lst [.ref P, tv]) n5
        have hd1 := hd1.keep u5
        have dT := dT.keep u5
        have dP := dP.keep u5
        have e1 := e1.keep u5
        have e2 := e2.keep u5
        have e4 := e4.keep u5
        have e5 : Dq (upd G9 l5 (.lst [.ref P, tv])) (.ref l5) (.list [.list ps, td]) := .lst upd_same (.cons dP (.cons dT .nil))
        generalize upd H9 l5 (.lst [.ref P, tv]) = HA at h5 xx ⊢
        generalize upd G9 l5 (.lst [.ref P, tv]) = GA at xx hd1 dT dP e1 e2 e4 e5
        -- []
        refine ⟨few (Nat.zero_le _), fun l6 n6 => ?_⟩
        have u6 := same_upd (o := HO.lst []) (xx.gone n6)
        have h5 := hand_keep (o := HO.lst []) h5 n6
        have xx := xx.mk_ (o := HO.lst []) n6
        have hd1 := hd1.keep u6
        have e1 := e1.keep u6
        have e2 := e2.keep u6
        have e4 := e4.keep u6
        have e5 := e5.keep u6
        have e6 : Dq (upd GA l6 (.lst [])) (.ref l6) (.list []) := .lst upd_same .nil
        generalize upd HA l6 (.lst []) = HB at h5 xx ⊢
        generalize upd GA l6 (.lst []) = GB at xx hd1 e1 e2 e4 e5 e6
        have all : DqAll GB [y1, .ref l1, .ref l2, .ref l4, .ref l5, .ref l6] [d1, .list [td], .list [td, .list ps, .list ps], .list [td, d2], .list [.list ps, td], .list []] := .cons hd1 (.cons e1 (.cons e2 (.cons e4 (.cons e5 (.cons e6 .nil)))))
        refine ⟨few (by show 6 ≤ 1000; omega), fun o no => ?_⟩
        have oa := (hand_apart h5 no).1
        have h6 := hand_keep (o := HO.lst [y1, .ref l1, .ref l2, .ref l4, .ref l5, .ref l6]) h5 no
        have x6 := xx.mk0 (o := HO.lst [y1, .ref l1, .ref l2, .ref l4, .ref l5, .ref l6]) no
        have ho : (upd HB o (.lst [y1, .ref l1, .ref l2, .ref l4, .ref l5, .ref l6])) o = some (.lst [y1, .ref l1, .ref l2, .ref l4, .ref l5, .ref l6]) := upd_same
        refine tk h6 x6 rfl (fun R h => h) (by omega) (by omega) fun n HC n0 n1 hC xC sC => ?_
        have hoC := sC _ _ oa ho
        obtain ⟨m, rfl⟩ : ∃ m : Nat, n = (m : Int) := ⟨n.toNat, (Int.toNat_of_nonneg n0).symm⟩
        obtain ⟨xv, ex⟩ : ∃ x, [y1, .ref l1, .ref l2, .ref l4, .ref l5, .ref l6][m]? = some x := ⟨_, List.getElem?_eq_getElem (by show m < 6; omega)⟩
        obtain ⟨xd, ed, hxd⟩ := all.get ex
        refine ⟨o, _, _, _, rfl, rfl, SqL.of hoC, atI_nat ex, k xv xd HC GB hC xC hxd ⟨X, by omega, ?_⟩⟩
        have smR : ∀ {d : PyData}, Rid d → Sm (FL ++ (S ++ X)) 163 2 d := fun h => (sm_rid h inFL).mono (fun _ m => m) (by omega) (by omega)
        have wide : ∀ (l : List PyData), (∀ d ∈ l, Sm (FL ++ (S ++ X)) 163 2 d) → l.length ≤ 3 → Sm (FL ++ (S ++ X)) 600 4 (.list l) := fun l h hl => (Sm.list h hl (by omega)).mono (fun _ m => m) (by omega) (by omega)
        have md := List.mem_of_getElem? ed
        simp only [List.mem_cons, List.not_mem_nil, or_false] at md
        rcases md with rfl | rfl | rfl | rfl | rfl | rfl
        · exact (smR r1).mono (fun _ m => m) (by omega) (by omega)
        · exact wide _ (fun d m => by rw [List.mem_singleton.mp m]; exact smT') (by show 1 ≤ 3; omega)
        · refine wide _ (fun d m => ?_) (Nat.le_refl _)
          simp only [List.mem_cons, List.not_mem_nil, or_false] at m
          rcases m with rfl | rfl | rfl
          · exact smT'
          · exact smL
          · exact smL
        · refine wide _ (fun d m => ?_) (by show 2 ≤ 3; omega)
          simp only [List.mem_cons, List.not_mem_nil, or_false] at m
          rcases m with rfl | rfl
          · exact smT'
          · exact smR r2
        · refine wide _ (fun d m => ?_) (by show 2 ≤ 3; omega)
          simp only [List.mem_cons, List.not_mem_nil, or_false] at m
          rcases m with rfl | rfl
          · exact smL
          · exact smT'
        · exact wide _ (fun d m => nomatch m) (Nat.zero_le _)
    · rintro σ H3 ⟨tv, P, v5, v6, rfl, G3, ys, ps, td, X, h3, x3, hP3, gP3, Pa, Pc, nP, allP, hT, lp, lX, smT, smP⟩
      have x4 := x3.ice nP hP3 gP3 Pa
      have s4 := same_upd (o := HO.lst ys) gP3
      refine ⟨_, rfl, _, rfl, few (by show 2 ≤ 1000; omega), fun o no => ?_⟩
      have x5 := x4.mk_ (o := HO.lst [tv, .ref P]) no
      have f5 := same_upd (o := HO.lst [tv, .ref P]) (x4.gone no)
      refine k _ (.list [td, .list ps]) _ _ (hand_keep h3 no) x5 (.lst upd_same (.cons ((hT.keep s4).keep f5) (.cons (.lst (f5 _ _ upd_same) ((allP.keep s4).keep f5)) .nil))) ⟨X, by omega, ?_⟩
      have sp := Sm.list smP (n := 5) (by omega) (by omega)
      have z := Sm.list (n := 2) (ds := [td, .list ps]) (fun d m => by
        rcases List.mem_cons.mp m with e | m
        · rw [e]; exact smT.mono (fun _ m => m) (show 30 ≤ (30 + 2) * 5 + 3 by omega) (show 1 ≤ 1 + 1 by omega)
        · rw [List.mem_singleton.mp m]; exact sp) (Nat.le_refl _) (by omega)
      exact z.mono (fun _ m => m) (by omega) (by omega)
end
end My
set_option Elab.async false
set_option linter.all false
set_option maxRecDepth 100000
set_option maxHeartbeats 4000000
namespace My
open PySem PySem.Spec PyProof.Rows L2

/-- a row as the law draws it: its values in a list -/
def RowLike (ws : List Int) (d : PyData) : Prop := ∃ (t : Nat) (ns : List Int), (d = .tuple [.int (t : Nat), .list (ns.map PyData.int)] ∨ d = .list [.int (t : Nat), .list (ns.map PyData.int)]) ∧ t < ws.length ∧ (ns.length : Int) = ws.getD t 0 ∧ ∀ n ∈ ns, 0 ≤ n ∧ n ≤ 1000000000
theorem RowLike.seq {ws : List Int} {d : PyData} (h : RowLike ws d) : ∃ (t : Nat) (ns : List Int), seqOf d = some [.int (t : Nat), .list (ns.map PyData.int)] ∧ t < ws.length ∧ (ns.length : Int) = ws.getD t 0 ∧ ∀ n ∈ ns, 0 ≤ n ∧ n ≤ 1000000000 := by
  obtain ⟨t, ns, e | e, r⟩ := h
  · exact ⟨t, ns, by rw [e]; rfl, r⟩
  · exact ⟨t, ns, by rw [e]; rfl, r⟩
def spRows (K : PySem.W.Frag) : Sp := fun vs H Q _ => ∃ (a c W : Addr) (G : Hp) (ws : List Int), vs = [.ref a, .ref W] ∧ Hand MO H a c ∧ Same G H ∧ G a = none ∧ G W = some (.lst (ws.map V.int)) ∧ WsOk ws ∧
  ∀ (D : Addr) (ys : List V) (ds : List PyData) (H' G' : Hp), Hand MO H' a c → Ext a H G H' G' → G' D = some (.lst ys) → DqAll G' ys ds → ds.length ≤ 61 → (∀ d ∈ ds, RowLike ws d) → Q (.ref D) H'
theorem draw_ints {G : Hp} : ∀ {ys : List V} {ds : List PyData}, DqAll G ys ds → (∀ d ∈ ds, ∃ i : Int, d = .int i ∧ 0 ≤ i ∧ i ≤ 1000000000) → ∃ ns : List Int, ds = ns.map PyData.int ∧ ∀ n ∈ ns, 0 ≤ n ∧ n ≤ 1000000000
  | _, _, .nil, _ => ⟨[], rfl, fun n m => nomatch m⟩
  | _, _, .cons (d := d) h a, ok => by
    obtain ⟨ns, e, r⟩ := draw_ints a fun x m => ok x (List.mem_cons_of_mem _ m)
    obtain ⟨i, rfl, i0, i1⟩ := ok d (List.mem_cons_self ..)
    refine ⟨i :: ns, by rw [e]; rfl, fun n m => ?_⟩
    rcases List.mem_cons.mp m with rfl | m
    · exact ⟨i0, i1⟩
    · exact r n m
section
variable {P : Program} {w : World} {K : PySem.W.Frag} {mg : Str → Option Value} {base : Heap}
theorem sc__law_drawn_rows : FnScope ["_law_hand_here", "_law_widths", "_law_many", "_law_rows", "_law_step", "_law_table", "_law_column"] ["_law_hand_here", "_law_widths"] (defScope (topS 48)) := ⟨rfl, rfl, rfl, by decide +kernel, rfl, by decide +kernel, by decide +kernel⟩
theorem ok__law_drawn_rows {f : Addr} {fd : FuncData} (F : L2.Fun K "_law_drawn_rows" "_law_drawn_rows" (topS 48) f fd) (cT : Cal P w K mg base 2 "_law_take" (spDraw MO)) (cA : Cal P w K mg base 3 "_law_any_value" (spAny K)) (m_len : mg "len" = none) (m_range : mg "range" = none) (m_list : mg "list" = none) : FnOk P w K mg base CX0 4 f fd ["_law_hand_here", "_law_widths"] (spRows K) := by
  refine F.ok sc__law_drawn_rows (fun vs H Q E h => ?_) (fun cdv A outer s0 H vs Q E hr h => ?_)
  · obtain ⟨a, c, W, G, ws, rfl, _⟩ := h
    rfl
  · obtain ⟨a, c, W, G, ws, rfl, hh, sG, nG, hW, ⟨w1, w6, w3⟩, k⟩ := h
    refine ⟨_, (pss_cons (ps_set (i := 2) sc__law_drawn_rows.nd rfl (.inl rfl) (pe_ix ix_tup (pe_tup (pa_cons pe_int (pa_cons pe_int (pa_cons pe_int (pa_cons pe_int (pa_cons pe_int (pa_cons (pe_op op_add pe_int (pe_c cT hr (by decide) rfl (pa_cons (pv 0) (pa_cons pe_int pa_nil)))) pa_nil))))))) (pe_c cT hr (by decide) rfl (pa_cons (pv 0) (pa_cons pe_int pa_nil))) (fun _ _ => rfl)))
      (pss_cons (ps_set (i := 3) sc__law_drawn_rows.nd rfl (.inl rfl) (pe_lst pa_nil))
      (pss_cons (ps_for PassesOwn.never rfl (pi_range1 (by rfl) m_range (pa_cons (pv 2) pa_nil)) (pg_name (i := 4) sc__law_drawn_rows.nd rfl (.inl rfl)) (pss_one (ps_if (PW.pt (pw_and (pt_truth (pv 3) (by intro _; rfl)) (pw_and1 (pt_cmpR op_eq (pe_c cT hr (by decide) rfl (pa_cons (pv 0) (pa_cons pe_int pa_nil))) pe_int (nomark _))))) (pss_one (ps_expr (pe_bm PySem.F.plainAttrs_list PySem.F.slot_list_append PySem.F.type_list_append mt_append (pv 3) (pa_cons (pe_callTy call_list_of (by rfl) m_list (by decide +kernel) (pa_cons (pe_ix ix_seq (pv 3) (pe_c cT hr (by decide) rfl (pa_cons (pv 0) (pa_cons (pe_callB call_len_seq (by rfl) m_len PySem.boot_len (pa_cons (pv 3) pa_nil)) pa_nil))) (fun _ _ => rfl)) pa_nil)) pa_nil)))) (pss_cons (ps_set (i := 5) sc__law_drawn_rows.nd rfl (.inl rfl) (pe_c cT hr (by decide) rfl (pa_cons (pv 0) (pa_cons (pe_callB call_len_seq (by rfl) m_len PySem.boot_len (pa_cons (pv 1) pa_nil)) pa_nil)))) (pss_one (ps_expr (pe_bm PySem.F.plainAttrs_list PySem.F.slot_list_append PySem.F.type_list_append mt_append (pv 3) (pa_cons (pe_tup (pa_cons (pv 5) (pa_cons (pe_lc (own := [("_law_column", 6)]) (g := gName 6) (tt := tYes) rfl sc__law_drawn_rows.nd (pi_range1 (by rfl) m_range (pa_cons (pe_ix ix_seq (pv 1) (pv 5) (fun _ _ => rfl)) pa_nil)) (blkOk_by (N := ["_law_hand_here", "_law_widths", "_law_many", "_law_rows", "_law_step", "_law_table", "_law_column"]) (sc := defScope (topS 48)) (by decide +kernel)) (fun _ _ _ _ _ => pg_name (i := 6) sc__law_drawn_rows.nd rfl (Or.inl rfl)) (fun _ _ _ _ _ => pts_nil) (fun _ _ _ _ _ => (show PE _ _ (tCall (spAny K) [] E0 (tCons (tVar 0) tNil)) from pe_c cA hr (by decide) rfl (pa_cons (pv 0) pa_nil)))) pa_nil))) pa_nil))))))))
      (pss_one (ps_ret (pv 3)))))), ?_⟩
    have few : ∀ {n : Nat}, n ≤ 1000 → n ≤ sizeLine := fun h => Nat.le_of_lt (small1000 h)
    have x0 := Ext.refl (hand_some hh) sG nG
    have lW : (ws.map V.int).length = ws.length := List.length_map ..
    dsimp only [tSeq, tAsg]
    refine tk hh x0 rfl (fun R h => h) (by omega) (by omega) fun u H1 u0 u1 h1 x1 sx1 => ?_
    refine ⟨_, _, rfl, rfl, few (by show 6 ≤ 1000; omega), fun q nq => ?_⟩
    have h2 := hand_keep (o := HO.tup [V.int 0, V.int 1, V.int 2, V.int 5, V.int 9, V.int (60 + u)]) h1 nq
    have x2 := x1.mk0 (o := HO.tup [V.int 0, V.int 1, V.int 2, V.int 5, V.int 9, V.int (60 + u)]) nq
    have qa := (hand_apart h1 nq).1
    have hq2 : (upd H1 q (.tup [V.int 0, V.int 1, V.int 2, V.int 5, V.int 9, V.int (60 + u)])) q = some (.tup [V.int 0, V.int 1, V.int 2, V.int 5, V.int 9, V.int (60 + u)]) := upd_same
    generalize upd H1 q (.tup [V.int 0, V.int 1, V.int 2, V.int 5, V.int 9, V.int (60 + u)]) = H2 at h2 x2 hq2 ⊢
    refine tk h2 x2 rfl (fun R h => h) (by omega) (by omega) fun v H3 v0 v1 h3 x3 sx3 => ?_
    have hq3 := sx3 _ _ qa hq2
    obtain ⟨n, rfl⟩ : ∃ n : Nat, v = (n : Int) := ⟨v.toNat, (Int.toNat_of_nonneg v0).symm⟩
    obtain ⟨m, em, m61⟩ : ∃ m : Nat, [V.int 0, V.int 1, V.int 2, V.int 5, V.int 9, V.int (60 + u)][n]? = some (V.int (m : Int)) ∧ m ≤ 61 := by
      match n, v1 with
      | 0, _ => exact ⟨0, rfl, by omega⟩
      | 1, _ => exact ⟨1, rfl, by omega⟩
      | 2, _ => exact ⟨2, rfl, by omega⟩
      | 3, _ => exact ⟨5, rfl, by omega⟩
      | 4, _ => exact ⟨9, rfl, by omega⟩
      | 5, _ =>
        have e : (60 + u) = (((60 + u).toNat : Nat) : Int) := by omega
        exact ⟨(60 + u).toNat, by rw [← e]; rfl, by omega⟩
      | k + 6, h => exact absurd h (by omega)
    refine ⟨q, _, _, _, rfl, rfl, SqT.of hq3, atI_nat em, ?_⟩
    refine ⟨Nat.zero_le _, fun D nD => ?_⟩
    obtain ⟨Da, Dc⟩ := hand_apart h3 nD
    have gD : G D = none := x3.gone nD
    have nD0 : H D = none := x3.was nD Da
    have h4 := hand_keep (o := HO.lst []) h3 nD
    have x4 := x3.mk0 (o := HO.lst []) nD
    have hD4 : (upd H3 D (.lst [])) D = some (.lst []) := upd_same
    generalize upd H3 D (.lst []) = H4 at h4 x4 hD4 ⊢
    dsimp only [tNext, tSeq]
    refine ⟨_, rfl, (m : Int), rfl, by omega, by omega, ?_⟩
    rw [Int.toNat_natCast]
    refine for_range (lo := 0) (n := m) (fun i σ H' => (∃ v4 v5 v6, σ = [some (.ref a), some (.ref W), some (.int (m : Nat)), some (.ref D), v4, v5, v6]) ∧ ∃ G' ys ds, Hand MO H' a c ∧ Ext a H G H' G' ∧ H' D = some (.lst ys) ∧ G' D = none ∧ DqAll G' ys ds ∧ ds.length = i ∧ ∀ d ∈ ds, RowLike ws d) ?_ ?_ ?_
    · exact ⟨⟨_, _, _, rfl⟩, G, [], [], h4, x4, hD4, gD, .nil, rfl, fun x m => nomatch m⟩
    · rintro i σ H5 li ⟨⟨v4, v5, v6, rfl⟩, G5, ys, ds, h5, x5, hD5, gD5, all, len, ok⟩
      dsimp only [gName, tSeq, tAsg]
      have ly := all.len
      have sz : ys.length < sizeLine := small1000 (by omega)
      -- a row more
      have put : ∀ (y : V) (d : PyData) (H6 G6 : Hp) (u4 u5 u6 : Option V), Hand MO H6 a c → Ext a H G H6 G6 → Same G5 G6 → H6 D = some (.lst ys) → G6 D = none → Dq G6 y d → RowLike ws d → (∃ v4 v5 v6, [some (V.ref a), some (V.ref W), some (V.int (m : Nat)), some (V.ref D), u4, u5, u6] = [some (V.ref a), some (V.ref W), some (V.int (m : Nat)), some (V.ref D), v4, v5, v6]) ∧ ∃ G' ys' ds, Hand MO (upd H6 D (.lst (ys ++ [y]))) a c ∧ Ext a H G (upd H6 D (.lst (ys ++ [y]))) G' ∧ (upd H6 D (.lst (ys ++ [y]))) D = some (.lst ys') ∧ G' D = none ∧ DqAll G' ys' ds ∧ ds.length = i + 1 ∧ ∀ d ∈ ds, RowLike ws d := fun y d H6 G6 u4 u5 u6 h6 x6 s6 hD6 gD6 hy rd => by
        refine ⟨⟨_, _, _, rfl⟩, G6, ys ++ [y], ds ++ [d], hand_upd h6 Da Dc, x6.put nD0 gD6 Da, upd_same, gD6, (all.keep s6).snoc hy, by rw [List.length_append, len]; rfl, fun e me => ?_⟩
        rcases List.mem_append.mp me with me | me
        · exact ok e me
        · rw [List.mem_singleton.mp me]; exact rd
      have hW5 := x5.up _ _ hW
      refine ⟨_, rfl, !ys.isEmpty, .inl ⟨_, SqL.of hD5, rfl⟩, ?_⟩
      cases hb : (!ys.isEmpty) with
      | false =>
        refine iteF ?_
        try dsimp only [tSeq, tAsg]
        refine tk h5 x5 rfl (fun R h => ⟨_, rfl, W, _, rfl, .inl (SqL.of (x5.sub _ _ hW5)), h⟩) (by rw [lW]; omega) (by rw [lW]; omega) fun y H7 y0 y1 h7 x7 sx7 => ?_
        rw [lW] at y1
        have hD7 := sx7 _ _ Da hD5
        obtain ⟨j, rfl⟩ : ∃ n : Nat, y = (n : Int) := ⟨y.toNat, (Int.toNat_of_nonneg y0).symm⟩
        have lj : j < ws.length := by omega
        have et : ws[j]? = some (ws.getD j 0) := by rw [List.getD_eq_getElem?_getD, List.getElem?_eq_getElem lj]; rfl
        obtain ⟨q1, q3⟩ := w3 _ (List.mem_of_getElem? et)
        have etV : (ws.map V.int)[j]? = some (.int (((ws.getD j 0).toNat : Nat) : Int)) := by rw [List.getElem?_map, et, Int.toNat_of_nonneg (by omega)]; rfl
        refine ⟨_, rfl, .inl ⟨rfl, _, SqL.of hD7⟩, _, rfl, ?_⟩
        refine lcDraw (a := a) (c := c) (H := H7) (G := G5) (fun d => ∃ i : Int, d = .int i ∧ 0 ≤ i ∧ i ≤ 1000000000) (fun n => n = (ws.getD j 0).toNat) (fun R hR => ?_) (by intro _; rfl) (fun i2 H8 G8 R1 h8 x8 hR => ?_) (fun n2 L2 ys2 ds2 H8 G8 hB h8 x8 gL all2 len2 ok2 => ?_)
        · refine ⟨_, rfl, _, rfl, rd_ix (.inl (SqL.of (x7.sub _ _ hW5))) (atI_nat etV) ?_⟩
          exact hR _ H7 G5 rfl (by omega) h7 (Ext.refl (hand_some h7) x7.sub x7.off)
        · exact ⟨_, rfl, a, c, G8, rfl, h8, x8.sub, x8.off, fun y d H9 G9 h9 x9 hy hd => hR y d H9 G9 h9 x9 hy hd⟩
        obtain ⟨ns, rfl, nv⟩ := draw_ints all2 ok2
        obtain ⟨hD8, gD8⟩ := x8.stays hD7 gD5 Da
        refine ⟨few (by show 2 ≤ 1000; omega), fun p np => ?_⟩
        have x78 := x7.trans x8
        have gp := x78.gone np
        have sp := same_upd (o := HO.tup [V.int (j : Nat), .ref L2]) gp
        have hD9 := same_upd (o := HO.tup [V.int (j : Nat), .ref L2]) np _ _ hD8
        refine ⟨D, _, _, rfl, rfl, hD9, sz, put _ (.tuple [.int (j : Nat), .list (ns.map PyData.int)]) _ (upd G8 p (.tup [V.int (j : Nat), .ref L2])) _ _ _ (hand_keep h8 np) (x78.mk_ np) (x8.up.trans sp) hD9 (by rw [upd_ne (ne_of_none hD8 np)]; exact gD8) (.tup upd_same (.cons (.int _) (.cons (.lst (sp _ _ gL) (all2.keep sp)) .nil))) ⟨j, ns, .inl rfl, lj, ?_, nv⟩⟩
        rw [List.length_map] at len2
        omega
      | true =>
        refine iteT ?_
        refine tk h5 x5 rfl (fun R h => h) (by omega) (by omega) fun z H6 z0 z1 h6 x6 sx6 => ?_
        have hD6 := sx6 _ _ Da hD5
        refine ⟨rfl, _, rfl, ite2 (fun e => ?_) (fun e => ?_)⟩
        rotate_left
        ·
          try dsimp only [tSeq, tAsg]
          refine tk h6 x6 rfl (fun R h => ⟨_, rfl, W, _, rfl, .inl (SqL.of (x6.sub _ _ hW5)), h⟩) (by rw [lW]; omega) (by rw [lW]; omega) fun y H7 y0 y1 h7 x7 sx7 => ?_
          rw [lW] at y1
          have hD7 := sx7 _ _ Da hD6
          obtain ⟨j, rfl⟩ : ∃ n : Nat, y = (n : Int) := ⟨y.toNat, (Int.toNat_of_nonneg y0).symm⟩
          have lj : j < ws.length := by omega
          have et : ws[j]? = some (ws.getD j 0) := by rw [List.getD_eq_getElem?_getD, List.getElem?_eq_getElem lj]; rfl
          obtain ⟨q1, q3⟩ := w3 _ (List.mem_of_getElem? et)
          have etV : (ws.map V.int)[j]? = some (.int (((ws.getD j 0).toNat : Nat) : Int)) := by rw [List.getElem?_map, et, Int.toNat_of_nonneg (by omega)]; rfl
          refine ⟨_, rfl, .inl ⟨rfl, _, SqL.of hD7⟩, _, rfl, ?_⟩
          refine lcDraw (a := a) (c := c) (H := H7) (G := G5) (fun d => ∃ i : Int, d = .int i ∧ 0 ≤ i ∧ i ≤ 1000000000) (fun n => n = (ws.getD j 0).toNat) (fun R hR => ?_) (by intro _; rfl) (fun i2 H8 G8 R1 h8 x8 hR => ?_) (fun n2 L2 ys2 ds2 H8 G8 hB h8 x8 gL all2 len2 ok2 => ?_)
          · refine ⟨_, rfl, _, rfl, rd_ix (.inl (SqL.of (x7.sub _ _ hW5))) (atI_nat etV) ?_⟩
            exact hR _ H7 G5 rfl (by omega) h7 (Ext.refl (hand_some h7) x7.sub x7.off)
          · exact ⟨_, rfl, a, c, G8, rfl, h8, x8.sub, x8.off, fun y d H9 G9 h9 x9 hy hd => hR y d H9 G9 h9 x9 hy hd⟩
          obtain ⟨ns, rfl, nv⟩ := draw_ints all2 ok2
          obtain ⟨hD8, gD8⟩ := x8.stays hD7 gD5 Da
          refine ⟨few (by show 2 ≤ 1000; omega), fun p np => ?_⟩
          have x78 := x7.trans x8
          have gp := x78.gone np
          have sp := same_upd (o := HO.tup [V.int (j : Nat), .ref L2]) gp
          have hD9 := same_upd (o := HO.tup [V.int (j : Nat), .ref L2]) np _ _ hD8
          refine ⟨D, _, _, rfl, rfl, hD9, sz, put _ (.tuple [.int (j : Nat), .list (ns.map PyData.int)]) _ (upd G8 p (.tup [V.int (j : Nat), .ref L2])) _ _ _ (hand_keep h8 np) (x78.mk_ np) (x8.up.trans sp) hD9 (by rw [upd_ne (ne_of_none hD8 np)]; exact gD8) (.tup upd_same (.cons (.int _) (.cons (.lst (sp _ _ gL) (all2.keep sp)) .nil))) ⟨j, ns, .inl rfl, lj, ?_, nv⟩⟩
          rw [List.length_map] at len2
          omega
        have l0 : 0 < ys.length := by
          cases ys with
          | nil => cases hb
          | cons _ _ => exact Nat.succ_pos _
        refine ⟨_, rfl, .inl ⟨rfl, _, SqL.of hD6⟩, _, rfl, ?_⟩
        refine tk h6 x6 rfl (fun R h => ⟨_, rfl, D, _, rfl, .inl (SqL.of hD6), h⟩) (by omega) (by omega) fun y H7 y0 y1 h7 x7 sx7 => ?_
        have hD7 := sx7 _ _ Da hD6
        obtain ⟨j, rfl⟩ : ∃ n : Nat, y = (n : Int) := ⟨y.toNat, (Int.toNat_of_nonneg y0).symm⟩
        have lj : j < ys.length := by omega
        obtain ⟨d, ed, hdd⟩ := all.get (List.getElem?_eq_getElem lj)
        have md := List.mem_of_getElem? ed
        obtain ⟨t, ns, es, r⟩ := (ok d md).seq
        obtain ⟨p, xs, ep, hp, hall⟩ := hdd.seq es
        refine rd_ix (.inl (SqL.of hD7)) (atI_nat (List.getElem?_eq_getElem lj)) ?_
        rw [ep]
        refine ⟨p, xs, rfl, hp.imp (fun z => SqL.of (x7.sub _ _ z)) (fun z => SqT.of (x7.sub _ _ z)), fun l nl => ?_⟩
        have gl := x7.gone nl
        have sl := same_upd (o := HO.lst xs) gl
        have hD8 := same_upd (o := HO.lst xs) nl _ _ hD7
        refine ⟨D, _, _, rfl, rfl, hD8, sz, put _ (.list [.int (t : Nat), .list (ns.map PyData.int)]) _ (upd G5 l (.lst xs)) _ _ _ (hand_keep h7 nl) (x7.mk_ nl) sl hD8 (by rw [upd_ne (ne_of_none hD7 nl)]; exact gD5) (.lst upd_same (hall.keep sl)) ⟨t, ns, .inr rfl, r⟩⟩
    · rintro σ H5 ⟨⟨v4, v5, v6, rfl⟩, G5, ys, ds, h5, x5, hD5, gD5, all, len, ok⟩
      exact ⟨_, rfl, k D ys ds H5 _ h5 (x5.ice nD0 hD5 gD5 Da) upd_same (all.keep (same_upd gD5)) (by omega) ok⟩
end
end My
set_option Elab.async false
set_option linter.all false
set_option maxRecDepth 100000
set_option maxHeartbeats 4000000
namespace My
open PySem PySem.Spec PyProof.Rows L2
/-! ### the same thing in tuples is as large, as deep, with the same leaves -/
mutual
theorem deep_leaf : ∀ d : PyData, leafD (deepD d) = leafD d
  | .none => by rw [deepD]
  | .bool _ => by rw [deepD]
  | .int _ => by rw [deepD]
  | .str _ => by rw [deepD]
  | .dict _ => by rw [deepD]
  | .list ds => by rw [deepD, leafD, leafD, deeps_leaf ds]
  | .tuple ds => by rw [deepD, leafD, leafD, deeps_leaf ds]
theorem deeps_leaf : ∀ ds : List PyData, leafDs (deepDs ds) = leafDs ds
  | [] => by rw [deepDs]
  | d :: ds => by rw [deepDs, leafDs, leafDs, deep_leaf d, deeps_leaf ds]
end
mutual
theorem deep_sz : ∀ d : PyData, szD (deepD d) = szD d
  | .none => by rw [deepD]
  | .bool _ => by rw [deepD]
  | .int _ => by rw [deepD]
  | .str _ => by rw [deepD]
  | .dict _ => by rw [deepD]
  | .list ds => by rw [deepD, szD, szD, deeps_sz ds]
  | .tuple ds => by rw [deepD, szD, szD, deeps_sz ds]
theorem deeps_sz : ∀ ds : List PyData, szDs (deepDs ds) = szDs ds
  | [] => by rw [deepDs]
  | d :: ds => by rw [deepDs, szDs, szDs, deep_sz d, deeps_sz ds]
end
mutual
theorem deep_dep : ∀ d : PyData, dep (deepD d) = dep d
  | .none => by rw [deepD]
  | .bool _ => by rw [deepD]
  | .int _ => by rw [deepD]
  | .str _ => by rw [deepD]
  | .dict _ => by rw [deepD]
  | .list ds => by rw [deepD, dep, dep, deeps_dep ds]
  | .tuple ds => by rw [deepD, dep, dep, deeps_dep ds]
theorem deeps_dep : ∀ ds : List PyData, depAll (deepDs ds) = depAll ds
  | [] => by rw [deepDs]
  | d :: ds => by rw [deepDs, depAll, depAll, deep_dep d, deeps_dep ds]
end
mutual
theorem deep_few : ∀ d : PyData, fewD (deepD d) = fewD d
  | .none => by rw [deepD]
  | .bool _ => by rw [deepD]
  | .int _ => by rw [deepD]
  | .str _ => by rw [deepD]
  | .dict _ => by rw [deepD]
  | .list ds => by rw [deepD, fewD, fewD, deeps_few ds, deepDs_map, List.length_map]
  | .tuple ds => by rw [deepD, fewD, fewD, deeps_few ds, deepDs_map, List.length_map]
theorem deeps_few : ∀ ds : List PyData, fewDs (deepDs ds) = fewDs ds
  | [] => by rw [deepDs]
  | d :: ds => by rw [deepDs, fewDs, fewDs, deep_few d, deeps_few ds]
end
mutual
theorem deep_inL (L : List Int) : ∀ d : PyData, inL L (deepD d) = inL L d
  | .none => by rw [deepD]
  | .bool _ => by rw [deepD]
  | .int _ => by rw [deepD]
  | .str _ => by rw [deepD]
  | .dict _ => by rw [deepD]
  | .list ds => by rw [deepD, inL, inL, deeps_inL L ds]
  | .tuple ds => by rw [deepD, inL, inL, deeps_inL L ds]
theorem deeps_inL (L : List Int) : ∀ ds : List PyData, inLs L (deepDs ds) = inLs L ds
  | [] => by rw [deepDs]
  | d :: ds => by rw [deepDs, inLs, inLs, deep_inL L d, deeps_inL L ds]
end
/-- that a thing can be shown -/
structure Sh (d : PyData) : Prop where
  leaf : leafD d = true
  few : fewD d = true
  dp : dep d ≤ 9
  sz : szD d ≤ 16000000
theorem Sh.deep {d e : PyData} (h : Sh d) (q : deepD e = deepD d) : Sh e :=
  ⟨by rw [← deep_leaf, q, deep_leaf]; exact h.leaf, by rw [← deep_few, q, deep_few]; exact h.few, by rw [← deep_dep, q, deep_dep]; exact h.dp, by rw [← deep_sz, q, deep_sz]; exact h.sz⟩
theorem deep_deep : ∀ d : PyData, deepD (deepD d) = deepD d
  | .none => by rw [deepD, deepD]
  | .bool _ => by rw [deepD, deepD]
  | .int _ => by rw [deepD, deepD]
  | .str _ => by rw [deepD, deepD]
  | .dict _ => by rw [deepD, deepD]
  | .list ds => by rw [deepD, deepD]; congr 1; exact go ds
  | .tuple ds => by rw [deepD, deepD]; congr 1; exact go ds
where
  go : ∀ ds : List PyData, deepDs (deepDs ds) = deepDs ds
    | [] => by rw [deepDs, deepDs]
    | d :: ds => by rw [deepDs, deepDs, deep_deep d, go ds]
theorem Sh.self {d : PyData} (h : Sh d) : Sh (deepD d) := h.deep (deep_deep d)
theorem rd_repr {H : Hp} {v : V} {d : PyData} {R : VK} (h : Sh d) (hv : Dq H v d) (q : R (.str d.shown) H) : rReprQ [v] H R :=
  ⟨v, d, rfl, hv, leaf_showable d h.leaf, by have := depth_le d h.leaf; have := h.dp; omega, by have := shown_le d h.leaf; have := h.sz; rw [sizeLine_eq]; omega, q⟩
theorem Sm.sh {L : List Int} {m k : Nat} {d : PyData} (h : Sm L m k d) (hm : m ≤ 16000000) (hk : k ≤ 9) : Sh d := ⟨h.leaf, h.few, Nat.le_trans h.dp hk, Nat.le_trans h.sz hm⟩
theorem sh_words {l : List PyData} (h : ∀ d ∈ l, leafD d = true ∧ fewD d = true ∧ dep d = 0 ∧ szD d ≤ 20) (n : l.length ≤ 3) : Sh (.list l) where
  leaf := by rw [leafD]; exact leafDs_of fun d m => (h d m).1
  few := by rw [fewD, decide_eq_true (show l.length ≤ 1000 by omega), fewDs_of fun d m => (h d m).2.1]; rfl
  dp := by
    rw [dep]
    have := depAll_le (k := 0) fun d m => Nat.le_of_eq (h d m).2.2.1
    omega
  sz := by
    rw [szD]
    have := szDs_le fun d m => (h d m).2.2.2
    have : (20 + 2) * l.length ≤ 22 * 3 := Nat.mul_le_mul_left _ n
    omega
theorem firstW_lt {α β : Type} {f : α → Option β} : ∀ {xs : List α} {i : Nat} {b : β} {j : Nat}, firstW f i xs = some (b, j) → j < i + xs.length ∧ ∃ x ∈ xs, f x = some b
  | x :: r, i, b, j, h => by
    rw [firstW] at h
    cases e : f x with
    | some w =>
      rw [e] at h
      cases h
      exact ⟨by rw [List.length_cons]; omega, x, List.mem_cons_self .., e⟩
    | none =>
      rw [e] at h
      obtain ⟨l, y, m, z⟩ := firstW_lt (xs := r) h
      exact ⟨by rw [List.length_cons]; omega, y, List.mem_cons_of_mem _ m, z⟩
theorem leaf_w {w : Str} (h : w ∈ wordsD) : leafD (.str w) = true ∧ fewD (.str w) = true ∧ dep (.str w) = 0 ∧ szD (.str w) ≤ 20 := ⟨by rw [leafD]; exact decide_eq_true h, by rw [fewD], by rw [dep], by rw [szD]; omega⟩
theorem leaf_i {i : Int} (h0 : 0 ≤ i) (h : i ≤ 1000) : leafD (.int i) = true ∧ fewD (.int i) = true ∧ dep (.int i) = 0 ∧ szD (.int i) ≤ 20 := ⟨by rw [leafD]; exact decide_eq_true (by omega), by rw [fewD], by rw [dep], by rw [szD]; omega⟩
/-! ### results outlive a draw -/
section
variable {a : Addr} {H H' : Hp} {l : List V}
mutual
theorem dq_oldN (old : ∀ b o, b ≠ a → H b = some o → H' b = some o) (ha : H a = some (.lst l)) : ∀ (d : PyData) (v : V), noL d = true → Dq H v d → Dq H' v d
  | .none, _, _, .non => .non
  | .bool b, _, _, .bl _ => .bl b
  | .int i, _, _, .int _ => .int i
  | .str x, _, _, .str _ => .str x
  | .list ds, _, t, _ => by rw [noL] at t; cases t
  | .tuple ds, _, t, .tup h al => by
    rw [noL] at t
    exact .tup (old _ _ (fun z => by rw [z, ha] at h; cases h) h) (dqAll_oldN old ha ds _ t al)
  | .dict _, _, _, .dct h => .dct (old _ _ (fun z => by rw [z, ha] at h; cases h) h)
theorem dqAll_oldN (old : ∀ b o, b ≠ a → H b = some o → H' b = some o) (ha : H a = some (.lst l)) : ∀ (ds : List PyData) (vs : List V), noLs ds = true → DqAll H vs ds → DqAll H' vs ds
  | [], _, _, .nil => .nil
  | d :: ds, _, t, .cons h al => by
    rw [noLs, Bool.and_eq_true] at t
    exact .cons (dq_oldN old ha d _ t.1 h) (dqAll_oldN old ha ds _ t.2 al)
end
end
theorem Hand.same {H H' : Hp} {a c : Addr} (h : Hand MO H a c) (s : Same H H') : Hand MO H' a c := by
  obtain ⟨cs, l, e1, e2, r⟩ := h.ex
  exact ⟨cs, l, s _ _ e1, s _ _ e2, r⟩
/-- for x in a list that stays as it is -/
theorem forL {K : PySem.W.Frag} {te : TE} {b : Addr} {xs : List V} {g : TG} {tb : TS} {D : Ends} {σ : L2.St} {H : Hp} (hv : ∀ R : VK, R (.ref b) H → te σ H R) (Pv : Nat → L2.St → Hp → Prop) (h0 : Pv 0 σ H) (hG : ∀ i σ H', i ≤ xs.length → Pv i σ H' → SqL K H' b xs)
    (hl : ∀ i x σ H', xs[i]? = some x → Pv i σ H' → g x σ H' fun σ2 H2 => tb { D with nx := Pv (i + 1), ct := Pv (i + 1), bk := D.nx } σ2 H2) (hd : ∀ σ H', Pv xs.length σ H' → D.nx σ H') : tFor (iSeq K te) g tb D σ H := by
  refine .inl (hv _ ⟨b, rfl, ⟨_, hG 0 σ H (Nat.zero_le _) h0⟩, for_it (walk_list (K := K) (a := b) (xs := xs)) Pv h0 (fun i σ H' hi p => hG i σ H' hi p) (fun i x σ H' H2 hi p y => ?_) hd⟩)
  obtain ⟨rfl, ex⟩ := y
  exact hl i x σ H2 ex p

/-- no list in it, or a list that begins with a number or a text and has no number behind it -/
def Apart1 (d : PyData) : Prop := noL d = true ∨ ∃ i r, d = .list (.int i :: r) ∧ noLs r = true ∧ r ≠ [] ∧ ∀ e ∈ r, intD e = false
theorem ap_draw {a c : Addr} {H H' : Hp} {d : PyData} {v : V} (hh : Hand MO H a c) (old : ∀ b o, b ≠ a → H b = some o → H' b = some o) (ok : Apart1 d) (h : Dq H v d) : Dq H' v d := by
  obtain ⟨cs, l, e1, e2, hl, _⟩ := hh.ex
  rcases ok with ok | ⟨i, r, rfl, ok, _, _⟩
  · exact dq_oldN old e1 d v ok h
  · cases h with
    | @lst p xs _ hp hall =>
    match xs, hall with
    | x :: xr, .cons h1 h2 =>
    cases h1
    have pa : p ≠ a := fun z => by
      obtain ⟨i, r, t, rfl, _⟩ := hl
      rw [z, e1] at hp
      cases hp
    exact .lst (old _ _ pa hp) (.cons (.int i) (dqAll_oldN old e1 r xr ok h2))
/-! sizes of what the law hands in, and of what comes back -/
def ItOk (d : PyData) : Prop := ∃ L, Sm L 600 4 d
theorem ItOk.sh {d : PyData} (h : ItOk d) : Sh d := by
  obtain ⟨L, s⟩ := h
  exact s.sh (by omega) (by omega)
theorem rid_ok {d : PyData} (h : Rid d) : ItOk d := ⟨FL, (sm_rid h fun _ m => m).mono (fun _ m => m) (by omega) (by omega)⟩
theorem val_sm {n : Int} {L : List Int} (h : 0 ≤ n ∧ n ≤ 1000000000) (m : n ∈ L) : Sm L 30 1 (.int n) := sm_int (by omega) fun _ _ => m
theorem like_ok {ws : List Int} {d : PyData} (h : RowLike ws d) (w6 : ws.length ≤ 6) (w3 : ∀ w ∈ ws, 1 ≤ w ∧ w ≤ 3) : ItOk d := by
  obtain ⟨t, ns, e, lt, len, vals⟩ := h
  have et : ws.getD t 0 = ws[t] := by rw [List.getD_eq_getElem?_getD, List.getElem?_eq_getElem lt]; rfl
  have n3 : ns.length ≤ 3 := by
    have := w3 _ (List.getElem_mem lt)
    omega
  have s1 : Sm (FL ++ ns) ((30 + 2) * 3 + 3) 2 (.list (ns.map PyData.int)) := Sm.list (m := 30) (k := 1) (n := 3) (fun x m => by
    obtain ⟨n, mn, rfl⟩ := List.mem_map.mp m
    exact val_sm (vals n mn) (List.mem_append_right _ mn)) (by rw [List.length_map]; exact n3) (by omega)
  have s0 : Sm (FL ++ ns) 99 2 (.int (t : Nat)) := (sm_int (L := FL ++ ns) (i := (t : Int)) (by omega) fun _ _ => List.mem_append_left _ (by
    unfold FL
    simp only [List.mem_cons, List.not_mem_nil, or_false]
    omega)).mono (fun _ m => m) (by omega) (by omega)
  have all : ∀ x ∈ [PyData.int (t : Nat), .list (ns.map PyData.int)], Sm (FL ++ ns) 99 2 x := fun x m => by
    rcases List.mem_cons.mp m with rfl | m
    · exact s0
    · rw [List.mem_singleton.mp m]; exact s1
  rcases e with rfl | rfl
  · exact ⟨_, (Sm.tuple all (n := 2) (Nat.le_refl _) (by omega)).mono (fun _ m => m) (by omega) (by omega)⟩
  · exact ⟨_, (Sm.list all (n := 2) (Nat.le_refl _) (by omega)).mono (fun _ m => m) (by omega) (by omega)⟩
theorem list_sh {ds : List PyData} (h : ∀ d ∈ ds, ItOk d) (n : ds.length ≤ 61) : Sh (.list ds) where
  leaf := by rw [leafD]; exact leafDs_of fun d m => let ⟨_, s⟩ := h d m; s.leaf
  few := by rw [fewD, decide_eq_true (show ds.length ≤ 1000 by omega), fewDs_of fun d m => let ⟨_, s⟩ := h d m; s.few]; rfl
  dp := by
    rw [dep]
    have := depAll_le (k := 4) fun d m => let ⟨_, s⟩ := h d m; s.dp
    omega
  sz := by
    rw [szD]
    have := szDs_le (n := 600) fun d m => let ⟨_, s⟩ := h d m; s.sz
    have : (600 + 2) * ds.length ≤ 602 * 61 := Nat.mul_le_mul_left _ n
    omega
theorem tup_sh {ds : List PyData} (h : ∀ d ∈ ds, ItOk d) (n : ds.length ≤ 61) : Sh (.tuple ds) where
  leaf := by rw [leafD]; exact leafDs_of fun d m => let ⟨_, s⟩ := h d m; s.leaf
  few := by rw [fewD, decide_eq_true (show ds.length ≤ 1000 by omega), fewDs_of fun d m => let ⟨_, s⟩ := h d m; s.few]; rfl
  dp := by
    rw [dep]
    have := depAll_le (k := 4) fun d m => let ⟨_, s⟩ := h d m; s.dp
    omega
  sz := by
    rw [szD]
    have := szDs_le (n := 600) fun d m => let ⟨_, s⟩ := h d m; s.sz
    have : (600 + 2) * ds.length ≤ 602 * 61 := Nat.mul_le_mul_left _ n
    omega
theorem list_dep {ds : List PyData} (h : ∀ d ∈ ds, ItOk d) : dep (.list ds) ≤ 8 := by
  rw [dep]
  have := depAll_le (k := 4) fun d m => let ⟨_, s⟩ := h d m; s.dp
  omega
theorem row_word {ws : List Int} {d : PyData} {w : Str} (h : rowW ws d = some w) : w ∈ wordsD := by
  unfold rowW wordD at h
  have four : ∀ s : Str, s = ("row" : Str) ∨ s = ("table" : Str) ∨ s = ("width" : Str) ∨ s = ("value" : Str) → s ∈ wordsD := by
    rintro s (rfl | rfl | rfl | rfl)
    · decide +kernel
    · decide +kernel
    · decide +kernel
    · decide +kernel
  refine four w ?_
  cases hp : placeD ws d with
  | some s =>
    rw [hp] at h
    dsimp only at h
    have z : w = s ∨ w = ("row" : Str) := by
      by_cases e : s = ("row" : Str)
      · rw [if_pos e] at h; exact .inr (Option.some.inj h).symm
      · rw [if_neg e] at h; exact .inl (Option.some.inj h).symm
    rcases z with rfl | rfl
    · unfold placeD at hp
      split at hp
      · exact .inl (Option.some.inj hp).symm
      · split at hp
        · exact .inr (.inl (Option.some.inj hp).symm)
        · split at hp
          · exact .inr (.inr (.inl (Option.some.inj hp).symm))
          · cases hp
    · exact .inl rfl
  | none =>
    rw [hp] at h
    dsimp only at h
    split at h
    · cases h
    · exact .inr (.inr (.inr (Option.some.inj h).symm))
/-- a row that was let is small -/
theorem row_sm {ws : List Int} {d : PyData} (h : rowW ws d = none) (w6 : ws.length ≤ 6) (w3 : ∀ w ∈ ws, 1 ≤ w ∧ w ≤ 3) : ItOk (rowT d) := by
  obtain ⟨t, r, rs, i, ed, e0, e1, er, rfl, k0, k1, k2, k3⟩ := row_seq h
  have e : rowT d = .tuple [.int i, .tuple rs] := by unfold rowT; rw [e0, e1, itemsD_some er]
  rw [e]
  have lt : i.toNat < ws.length := by omega
  have et : ws.getD i.toNat 0 = ws[i.toNat] := by rw [List.getD_eq_getElem?_getD, List.getElem?_eq_getElem lt]; rfl
  have n3 : rs.length ≤ 3 := by
    have := w3 _ (List.getElem_mem lt)
    omega
  have s1 : Sm (FL ++ rs.map intOf) ((30 + 2) * 3 + 3) 2 (.tuple rs) := Sm.tuple (m := 30) (k := 1) (n := 3) (fun x m => by
    obtain ⟨ex, x0, x1⟩ := whole_int (k3 x m)
    rw [ex]
    exact val_sm ⟨x0, x1⟩ (List.mem_append_right _ (List.mem_map.mpr ⟨x, m, rfl⟩))) n3 (by omega)
  have s0 : Sm (FL ++ rs.map intOf) 99 2 (.int i) := (sm_int (L := FL ++ rs.map intOf) (i := i) (by omega) fun _ _ => List.mem_append_left _ (by
    unfold FL
    simp only [List.mem_cons, List.not_mem_nil, or_false]
    omega)).mono (fun _ m => m) (by omega) (by omega)
  refine ⟨FL ++ rs.map intOf, (Sm.tuple (L := FL ++ rs.map intOf) (m := 99) (k := 2) (n := 2) (ds := [.int i, .tuple rs]) (fun x m => ?_) (Nat.le_refl _) (by omega)).mono (fun _ m => m) (by omega) (by omega)⟩
  rcases List.mem_cons.mp m with rfl | m
  · exact s0
  · rw [List.mem_singleton.mp m]; exact s1
theorem items_sh {d : PyData} (h : Sh d) : ∀ e ∈ itemsD d, leafD e = true ∧ fewD e = true := fun e m => by
  refine ⟨?_, (few_items h.few).2 e m⟩
  have l := h.leaf
  unfold itemsD at m
  cases d with
  | list ds => rw [leafD] at l; exact leafDs_mem l m
  | tuple ds => rw [leafD] at l; exact leafDs_mem l m
  | _ => cases m
theorem len_store {ws : List Int} {d : PyData} (h : storeR ws d = none) : lenIn 0 60 d = true ∧ firstW (rowW ws) 0 (itemsD d) = none := by
  unfold storeR at h
  cases e : lenIn 0 60 d with
  | false => rw [e] at h; cases h
  | true =>
    rw [e, if_pos rfl] at h
    exact ⟨rfl, Option.map_eq_none_iff.mp h⟩
theorem len_60 {d : PyData} (h : lenIn 0 60 d = true) : (itemsD d).length ≤ 60 := by
  obtain ⟨ds, ed, ei⟩ := lenIn_seq h
  rw [ei]
  unfold lenIn at h
  rw [ed] at h
  have z2 := of_decide_eq_true (Bool.and_eq_true_iff.mp h).2
  omega
/-- what is due for a store: its rows, its size -/
theorem store_rows {ws : List Int} {d : PyData} {es : List PyData} (hw : WsOk ws) (h : storeR ws d = none) (st : IsStore ((itemsD d).map rowT) es) : (∀ e ∈ es, RowD e) ∧ (∀ e ∈ es, ItOk e) ∧ es.length ≤ 60 := by
  obtain ⟨l, f⟩ := len_store h
  have good := firstW_none f
  have back : ∀ e ∈ es, ∃ r ∈ itemsD d, rowT r = e := fun e m => List.mem_map.mp ((st.2.2.2 e).mp m)
  refine ⟨fun e m => ?_, fun e m => ?_, ?_⟩
  · obtain ⟨r, mr, rfl⟩ := back e m
    exact row_good (good r mr) fun w mw => (hw.2.2 w mw).2
  · obtain ⟨r, mr, rfl⟩ := back e m
    exact row_sm (good r mr) hw.2.1 hw.2.2
  · have z := st.2.2.1
    rw [List.length_map] at z
    have := len_60 l
    omega
theorem two_sh {i : Int} {w : Str} (h0 : 0 ≤ i) (h1 : i ≤ 1000) (hw : w ∈ wordsD) : Sh (.list [.int i, .str w]) := sh_words (fun d m => by
  rcases List.mem_cons.mp m with rfl | m
  · exact leaf_i h0 h1
  · rw [List.mem_singleton.mp m]; exact leaf_w hw) (by show 2 ≤ 3; omega)
theorem end_sh {ws : List Int} {d r : PyData} (hw : WsOk ws) (h : StoreEnd ws d r) : Sh r ∧ Apart1 r := by
  unfold StoreEnd at h
  cases e : storeR ws d with
  | some u =>
    obtain ⟨i, w⟩ := u
    rw [e] at h
    dsimp only at h
    subst h
    have g : 0 ≤ i ∧ i ≤ 1000 ∧ w ∈ wordsD := by
      unfold storeR at e
      cases l : lenIn 0 60 d with
      | false =>
        rw [l] at e
        cases Option.some.inj e
        exact ⟨by omega, by omega, by decide +kernel⟩
      | true =>
        rw [l, if_pos rfl] at e
        obtain ⟨u, eu, ez⟩ := Option.map_eq_some_iff.mp e
        cases ez
        obtain ⟨u1, u2⟩ := u
        obtain ⟨lt, x, mx, ex⟩ := firstW_lt eu
        have := len_60 l
        exact ⟨by omega, by omega, row_word ex⟩
    exact ⟨two_sh g.1 g.2.1 g.2.2, .inr ⟨i, [.str w], rfl, rfl, (fun z => nomatch z), fun e m => by rw [List.mem_singleton.mp m]; rfl⟩⟩
  | none =>
    rw [e] at h
    obtain ⟨es, st, rfl⟩ := h
    obtain ⟨rows, its, n60⟩ := store_rows hw e st
    refine ⟨tup_sh its (by omega), .inl ?_⟩
    rw [noL]
    exact noLs_of fun x m => (rows x m).pure.2.2
theorem end_one {ws : List Int} {d r s : PyData} (hw : WsOk ws) (h : StoreEnd ws d r) (g : StoreEnd ws d s) : r = s := by
  unfold StoreEnd at h g
  cases e : storeR ws d with
  | some u => rw [e] at h g; rw [h, g]
  | none =>
    rw [e] at h g
    obtain ⟨es, st, rfl⟩ := h
    obtain ⟨fs, st2, rfl⟩ := g
    have rows : ∀ r ∈ (itemsD d).map rowT, RowD r := fun r m => by
      obtain ⟨r0, m0, rfl⟩ := List.mem_map.mp m
      exact row_good (firstW_none (len_store e).2 r0 m0) fun w mw => (hw.2.2 w mw).2
    rw [st.one rows st2]
theorem ints_sh {ns : List Int} (n : ns.length ≤ 1000) (h : ∀ k ∈ ns, 0 ≤ k ∧ k ≤ 1000000000) : Sh (.tuple (ns.map PyData.int)) := by
  have s : Sm ns ((30 + 2) * 1000 + 3) 2 (.tuple (ns.map PyData.int)) := Sm.tuple (m := 30) (k := 1) (n := 1000) (fun x m => by
    obtain ⟨k, mk, rfl⟩ := List.mem_map.mp m
    exact val_sm (h k mk) mk) (by rw [List.length_map]; exact n) (Nat.le_refl _)
  exact s.sh (by omega) (by omega)
theorem vof_sh {ws : List Int} {d : PyData} {es : List PyData} {ns : List Int} (hw : WsOk ws) (e : storeR ws d = none) (st : IsStore ((itemsD d).map rowT) es) (v : VOf es ns) : Sh (.tuple (ns.map PyData.int)) := by
  obtain ⟨rows, its, n60⟩ := store_rows hw e st
  have good := firstW_none (len_store e).2
  have few := vals_few rows
  have nd : ns.Nodup := v.1.imp fun z => by omega
  have sub : ∀ k ∈ ns, V.int k ∈ (es.map valsOf).flatten := fun k m => (vals_mem rows).mpr ((v.2 k).mp m)
  refine ints_sh ?_ fun k m => ?_
  · have z := nodup_le ns ((es.map valsOf).flatten.map intV) nd fun k m => List.mem_map.mpr ⟨_, sub k m, rfl⟩
    rw [List.length_map] at z
    omega
  · obtain ⟨e0, me, mk⟩ := (v.2 k).mp m
    obtain ⟨r, mr, rfl⟩ := List.mem_map.mp ((st.2.2.2 e0).mp me)
    obtain ⟨t, r', rs, i, ed, z0, z1, er, rfl, k0, k1, k2, k3⟩ := row_seq (good r mr)
    have e1 : itemsD (itemD (rowT r) 1) = rs := by unfold rowT; rw [z1, itemsD_some er]; rfl
    rw [e1] at mk
    exact (whole_int (k3 _ mk)).2
/-- what becomes of widths is small -/
theorem resW_sh {d : PyData} (few : (itemsD d).length ≤ 1000) : Sh (resW d) := by
  unfold resW
  cases e : wResD d with
  | some i =>
    have b : 0 ≤ i ∧ i ≤ 1000 := by
      unfold wResD at e
      cases es : seqOf d with
      | none => rw [es] at e; cases e; omega
      | some ds =>
        rw [es] at e
        dsimp only at e
        rw [itemsD_some es] at few
        split at e
        · obtain ⟨u, eu, rfl⟩ := Option.map_eq_some_iff.mp e
          obtain ⟨u1, u2⟩ := u
          have := (firstW_lt eu).1
          show 0 ≤ (u2 : Int) ∧ (u2 : Int) ≤ 1000
          omega
        · cases e; omega
    exact sh_words (fun d m => by rw [List.mem_singleton.mp m]; exact leaf_i b.1 b.2) (by show 1 ≤ 3; omega)
  | none =>
    obtain ⟨_, l1, l6, w3⟩ := wsOf_good e
    exact ints_sh (by omega) fun k m => by have := w3 k m; omega
end My
set_option Elab.async false
set_option linter.all false
set_option maxRecDepth 100000
set_option maxHeartbeats 4000000
namespace My
open PySem PySem.Spec PyProof.Rows L2
/-! ### f(x, high=y): a def with defaults, one of them given by its name -/
theorem kw_binds {K : PySem.W.Frag} {x qual : Str} {params : Arguments} {body : List Stmt} {scope : Scope} {dvs : List V} {kws : List (Str × V)} {f : Addr} {fd : FuncData} {ps : List Str} (F : FunD K x qual params body scope dvs kws f fd) (n : Nat) (ks : List Str) (g : {α : Type} → List α → List α → List α → List α) (hd : dvs ≠ [])
    (rel : ∀ {vs ds zs : List V} {us its ws : List Value}, Vals vs us → Vals ds its → Vals zs ws → Vals (g vs ds zs) (g us its ws))
    (h : ∀ (T : Addr) (kV doc pm : Value) (an : Option Addr) (cdv ct : Value) (us its ws : List Value), us.length = n → its.length = dvs.length → ws.length = ks.length →
      ∃ k, bindArgs (PySem.W.fnOf x qual params body scope (.ref T) kV doc pm an cdv ct) ⟨us, ks.zip ws⟩ = seqItems? (.ref T) >>= k ∧ k (some its.toArray) = pure (ps.zip (g us its ws))) :
    ∃ its : List Value, KBn K fd ps n ks (fun us ws => g us its ws) (fun vs zs => g vs dvs zs) := by
  obtain ⟨oc, od, dV, kV, doc, pm, an, cdv, ct, osl, rfl, lk, hcd, hD, hK⟩ := F.ex
  rcases hD with ⟨e, _⟩ | ⟨_, T, o, its, m, rfl, lT, oT, rT⟩
  · exact absurd e hd
  · refine ⟨its, ⟨fun s us ws X l1 l2 => ?_, fun r1 r2 => rel r1 rT r2⟩⟩
    obtain ⟨k, e1, e2⟩ := h T kV doc pm an cdv ct us its ws l1 rT.length.symm l2
    refine BindsTo.of_looks fun M => ?_
    rw [e1]
    exact looks_items X lT oT (.of_pure e2)
/-- the parameters' order: thing, low (its default), high (given by its name) -/
def gHigh {α : Type} (us its ws : List α) : List α := us ++ (its.take 1 ++ ws)
structure CalN (P : Program) (w : World) (K : PySem.W.Frag) (mg : Str → Option Value) (base : Heap) (k : Nat) (x : Str) (sp : Sp) (n : Nat) (ks : List Str) (gV : List V → List V → List V) : Prop where
  ex : ∃ (f : Addr) (fd : FuncData) (ps : List Str) (g : List Value → List Value → List Value), FnOk P w K mg base CX0 k f fd ps sp ∧ mg x = some (.ref f) ∧ PySem.W.keepIn K (.ref f) = true ∧ KBn K fd ps n ks g gV
theorem pe_cN {X : Cx} {k j n : Nat} {x : Str} {sp : Sp} {ks : List Str} {gV : List V → List V → List V} {p pos : Pos} {e : Expr} {es : List Expr} {kws : List Keyword} {t tk : TA} (c : CalN X.prog X.w X.K X.mg X.base k x sp n ks gV) (hr : Room j X.A) (hk : k ≤ j) (hg : Gl X x) (ha : PA X (e :: es) t) (hkw : PK X kws tk)
    (hall : (backToKw pos (keywordEach kws X.env)).all (·.1.isSome) = true := by rfl) (hks : (backToKw pos (keywordEach kws X.env)).filterMap (·.1) = ks := by rfl)
    (hdb : (x == ("__debug__" : Str)) = false := by decide) (he : starEach (e :: es) X.env = (false, eval e X.env) :: starEach es X.env := by rfl)
    (hpl : ((backTo pos (starEach (e :: es) X.env)).any (·.1) || (backToKw pos (keywordEach kws X.env)).any (·.1.isNone)) = false := by rfl) :
    PE X (.Call (.Name x p) (e :: es) kws pos) (tCallN n ks.length sp gV E0 t tk) := by
  obtain ⟨f, fd, ps, g, F, gf, kp, b⟩ := c.ex
  exact pe_callN F (hr.mono hk) hg gf kp b L2.pass0 ha hkw hall hks hdb he hpl
end My
set_option Elab.async false
set_option linter.all false
set_option maxRecDepth 100000
set_option maxHeartbeats 4000000
namespace My
open PySem PySem.Spec PyProof.Rows L2

theorem seq_join {t u : TS} {D : Ends} {σ : L2.St} {H : Hp} (J : L2.St → Hp → Prop) (core : ∀ N : L2.St → Hp → Prop, (∀ σ' H', J σ' H' → N σ' H') → t { D with nx := N } σ H) (rest : ∀ σ' H', J σ' H' → u D σ' H') : tSeq t u D σ H := core _ rest
theorem IntsAt.dq {H : Hp} {x : V} {ws : List Int} (h : IntsAt H x ws) : ∃ d, Dq H x d ∧ seqOf d = some (ws.map PyData.int) := by
  obtain ⟨a, rfl, h | h⟩ := h
  · exact ⟨_, .lst h (dqs_ints _), rfl⟩
  · exact ⟨_, .tup h (dqs_ints _), rfl⟩
/-- what stands for a width that is none -/
def bents (u : Int) : List PyData := [.int 0, .int 4, .int (-1), .bool true, .none, .str "2", .tuple [.int 1], .int (4 + u)]
theorem bents_bad {u : Int} (u0 : 0 ≤ u) : ∀ d ∈ bents u, wholeD 1 3 d = false := fun d m => by
  unfold bents at m
  simp only [List.mem_cons, List.not_mem_nil, or_false] at m
  rcases m with rfl | rfl | rfl | rfl | rfl | rfl | rfl | rfl
  · rfl
  · rfl
  · rfl
  · rfl
  · rfl
  · rfl
  · rfl
  · rw [whole_dec, decide_eq_false (show ¬ (4 + u) ≤ 3 by omega), Bool.and_false]
theorem bent_bad {ws : List Int} {m : Nat} {td : PyData} (h : wholeD 1 3 td = false) (lt : m < ws.length) : ∃ i, wResD (.list ((ws.map PyData.int).set m td)) = some i := by
  cases e : wResD (.list ((ws.map PyData.int).set m td)) with
  | some i => exact ⟨i, rfl⟩
  | none =>
    exfalso
    obtain ⟨es, _, _, all⟩ := wsOf_good e
    have es := Option.some.inj es
    have at_ : ((ws.map PyData.int).set m td)[m]? = some td := by
      rw [List.getElem?_set_self (by rw [List.length_map]; exact lt)]
    rw [es, List.getElem?_map] at at_
    obtain ⟨w, ew, e2⟩ := Option.map_eq_some_iff.mp at_
    have z := all w (List.mem_of_getElem? ew)
    rw [← e2, whole_dec, decide_eq_true z.1, decide_eq_true z.2] at h
    cases h
theorem bents_sm {u : Int} (u0 : 0 ≤ u) (u1 : u ≤ 1000000000) : ∀ d ∈ bents u, leafD d = true ∧ fewD d = true ∧ dep d ≤ 1 ∧ szD d ≤ 40 := fun d m => by
  unfold bents at m
  simp only [List.mem_cons, List.not_mem_nil, or_false] at m
  rcases m with rfl | rfl | rfl | rfl | rfl | rfl | rfl | rfl
  · exact ⟨by decide +kernel, by decide +kernel, by decide +kernel, by decide +kernel⟩
  · exact ⟨by decide +kernel, by decide +kernel, by decide +kernel, by decide +kernel⟩
  · exact ⟨by decide +kernel, by decide +kernel, by decide +kernel, by decide +kernel⟩
  · exact ⟨by decide +kernel, by decide +kernel, by decide +kernel, by decide +kernel⟩
  · exact ⟨by decide +kernel, by decide +kernel, by decide +kernel, by decide +kernel⟩
  · exact ⟨by decide +kernel, by decide +kernel, by decide +kernel, by decide +kernel⟩
  · exact ⟨by decide +kernel, by decide +kernel, by decide +kernel, by decide +kernel⟩
  · have s : Sm [4 + u] 30 1 (.int (4 + u)) := sm_int (by omega) fun _ _ => List.mem_singleton.mpr rfl
    exact ⟨s.leaf, s.few, s.dp, Nat.le_trans s.sz (by omega)⟩
/-- a list of small things -/
def Tiny (d : PyData) : Prop := leafD d = true ∧ fewD d = true ∧ dep d ≤ 1 ∧ szD d ≤ 40
theorem tiny_int {i : Int} (h : i.natAbs < 10 ^ 19) : Tiny (.int i) := by
  have s : Sm [i] 30 1 (.int i) := sm_int h fun _ _ => List.mem_singleton.mpr rfl
  exact ⟨s.leaf, s.few, s.dp, Nat.le_trans s.sz (by omega)⟩
theorem tiny_list {ds : List PyData} (h : ∀ d ∈ ds, Tiny d) (n : ds.length ≤ 100) : Sh (.list ds) where
  leaf := by rw [leafD]; exact leafDs_of fun d m => (h d m).1
  few := by rw [fewD, decide_eq_true (show ds.length ≤ 1000 by omega), fewDs_of fun d m => (h d m).2.1]; rfl
  dp := by
    rw [dep]
    have := depAll_le (k := 1) fun d m => (h d m).2.2.1
    omega
  sz := by
    rw [szD]
    have := szDs_le (n := 40) fun d m => (h d m).2.2.2
    have : (40 + 2) * ds.length ≤ 42 * 100 := Nat.mul_le_mul_left _ n
    omega
theorem tiny_tup {ds : List PyData} (h : ∀ d ∈ ds, Tiny d) (n : ds.length ≤ 100) : Sh (.tuple ds) where
  leaf := by rw [leafD]; exact leafDs_of fun d m => (h d m).1
  few := by rw [fewD, decide_eq_true (show ds.length ≤ 1000 by omega), fewDs_of fun d m => (h d m).2.1]; rfl
  dp := by
    rw [dep]
    have := depAll_le (k := 1) fun d m => (h d m).2.2.1
    omega
  sz := by
    rw [szD]
    have := szDs_le (n := 40) fun d m => (h d m).2.2.2
    have : (40 + 2) * ds.length ≤ 42 * 100 := Nat.mul_le_mul_left _ n
    omega
theorem ws_tiny {ws : List Int} (h : ∀ w ∈ ws, 1 ≤ w ∧ w ≤ 3) : ∀ d ∈ ws.map PyData.int, Tiny d := fun d m => by
  obtain ⟨w, mw, rfl⟩ := List.mem_map.mp m
  have := h w mw
  exact tiny_int (by omega)
theorem sh_items {d : PyData} (h : Sh d) : (itemsD d).length ≤ 1000 := (few_items h.few).1
theorem wRes_bound {d : PyData} {i : Int} (few : (itemsD d).length ≤ 1000) (e : wResD d = some i) : 0 ≤ i ∧ i ≤ 1000 := by
  unfold wResD at e
  cases es : seqOf d with
  | none => rw [es] at e; cases e; omega
  | some ds =>
    rw [es] at e
    dsimp only at e
    rw [itemsD_some es] at few
    split at e
    · obtain ⟨u, eu, rfl⟩ := Option.map_eq_some_iff.mp e
      obtain ⟨u1, u2⟩ := u
      have := (firstW_lt eu).1
      show 0 ≤ (u2 : Int) ∧ (u2 : Int) ≤ 1000
      omega
    · cases e; omega
theorem rid_store {ws : List Int} {d : PyData} (h : Rid d) : storeR ws d = some ((0 : Int), ("many" : Str)) := by
  unfold Rid at h
  simp only [List.mem_cons, List.not_mem_nil, or_false] at h
  have no : seqOf d = none := by rcases h with rfl | rfl | rfl | rfl | rfl | rfl <;> rfl
  unfold storeR
  rw [len_no no]
  rfl
def spLaw (K : PySem.W.Frag) : Sp := fun vs H Q _ => ∃ (s : Addr) (ns : List Int), vs = [.ref s] ∧ SqL K H s (ns.map V.int) ∧ ns.length ≤ 63 ∧ ∀ H', Q (.bl true) H'
section
variable {P : Program} {w : World} {K : PySem.W.Frag} {mg : Str → Option Value} {base : Heap}
theorem sc_law : FnScope ["_law_script", "_law_hand_here", "_law_widths", "_law_bent", "_law_thing", "_law_rows", "_law_turn", "_law_due", "_law_low", "_law_kept", "_law_spoilt_here", "_law_told", "_law_row", "_law_whole", "_law_step", "_law_word_here", "_law_at"] ["_law_script"] (defScope (topS 49)) := ⟨rfl, rfl, rfl, by decide +kernel, rfl, by decide +kernel, by decide +kernel⟩
theorem ok_law {f : Addr} {fd : FuncData} (F : L2.Fun K "law" "law" (topS 49) f fd) (sys : SysOk K) (cH : Cal P w K mg base 1 "_law_hand" (spHand MO K)) (cMW : Cal P w K mg base 3 "_law_many_widths" (spWidths K)) (cT : Cal P w K mg base 2 "_law_take" (spDraw MO)) (cLo : Cal P w K mg base 12 "_law_loose" (spLoose K 9)) (cWD : Cal P w K mg base 3 "_law_widths_due" (spWDue K)) (cSD : Cal P w K mg base 11 "_law_store_due" (spSDue K)) (cCW : Cal P w K mg base 5 "_law_checked_widths" (spChkW K)) (cCS : Cal P w K mg base 7 "_law_checked_store" (spChkS K)) (cCR : Cal P w K mg base 7 "_law_checked_row" (spChkR K)) (cLi : Cal P w K mg base 3 "_law_lists" (spLists K)) (cRi : Cal P w K mg base 3 "_law_rid" (spRid K)) (cAV : Cal P w K mg base 3 "_law_any_value" (spAny K)) (cNV : Cal P w K mg base 3 "_law_no_value" (spNoVal K)) (cLI : Cal P w K mg base 1 "_law_int" (spLInt K)) (cTr : Cal P w K mg base 1 "_law_truth" (spLTruth K)) (cIV : Cal P w K mg base 2 "_law_is_value" (spLVal K)) (cLS : Cal P w K mg base 1 "_law_seq" (spLSeq K)) (cLW : Cal P w K mg base 3 "_law_word" (spWord K)) (cD : Cal P w K mg base 10 "_law_deep" (spDeep K 8)) (cDR : Cal P w K mg base 4 "_law_drawn_rows" (spRows K)) (cSp : Cal P w K mg base 4 "_law_spoilt" (spSpoilt K)) (cSV : Cal P w K mg base 1 "store_values" (spStoreV K)) (cLV : Cal P w K mg base 1 "_law_store_values" (spLVals K)) (cV : Cal P w K mg base 2 "is_value" (spValue K)) (cW : Cal P w K mg base 1 "is_whole" (spWhole K)) (cQ : Cal P w K mg base 1 "is_sequence" (spSeq K)) (cW1 : C8.Cal P w K mg base 1 "is_whole" (spWhole K) [.non, .non]) (cW2 : C8.Cal P w K mg base 1 "is_whole" (spWhole K) [.non]) (cWN : CalN P w K mg base 1 "is_whole" (spWhole K) 1 ["high"] (fun vs zs => gHigh vs [V.non, V.non] zs)) (m_list : mg "list" = none) (m_tuple : mg "tuple" = none) (m_len : mg "len" = none) (m_range : mg "range" = none) (m_repr : mg "repr" = none) (m_isinstance : mg "isinstance" = none) : FnG P w K mg base 13 f fd ["_law_script"] (spLaw K) := by
  refine fnG_of F sc_law (fun vs H Q E h => ?_) (fun cdv A outer s0 H vs Q free hr h => ?_)
  · obtain ⟨s, ns, rfl, _⟩ := h
    rfl
  · obtain ⟨s, ns, rfl, hs, h63, k⟩ := h
    refine ⟨_, (pss_cons (ps_set (i := 1) sc_law.nd rfl (.inl rfl) (pe_c cH hr (by decide) rfl (pa_cons (pv 0) pa_nil)))
      (pss_cons (ps_set (i := 2) sc_law.nd rfl (.inl rfl) (pe_c cMW hr (by decide) rfl (pa_cons (pv 1) pa_nil)))
      (pss_cons (ps_set (i := 3) sc_law.nd rfl (.inl rfl) (pe_callTy call_list_of (by rfl) m_list (by decide +kernel) (pa_cons (pv 2) pa_nil)))
      (pss_cons (ps_asg (pe_ix ix_tup (pe_tup (pa_cons pe_int (pa_cons pe_int (pa_cons (pe_un un_neg pe_int) (pa_cons pe_bl (pa_cons pe_non (pa_cons pe_str (pa_cons (pe_tup (pa_cons pe_int pa_nil)) (pa_cons (pe_op op_add pe_int (pe_c cT hr (by decide) rfl (pa_cons (pv 1) (pa_cons (pe_op op_pow pe_int pe_int) pa_nil)))) pa_nil))))))))) (pe_c cT hr (by decide) rfl (pa_cons (pv 1) (pa_cons pe_int pa_nil))) (fun _ _ => rfl)) (pg_sub (pv 3) (pe_c cT hr (by decide) rfl (pa_cons (pv 1) (pa_cons (pe_callB call_len_seq (by rfl) m_len PySem.boot_len (pa_cons (pv 3) pa_nil)) pa_nil))) set_list))
      (pss_cons (ps_for PassesOwn.never rfl (pi_seq (pe_lst (pa_cons (pv 2) (pa_cons (pe_callTy call_tuple_of (by rfl) m_tuple (by decide +kernel) (pa_cons (pv 2) pa_nil)) (pa_cons (pv 3) (pa_cons (pe_op op_cat (pv 2) (pv 3)) (pa_cons (pe_lst pa_nil) (pa_cons (pe_op op_rep (pe_lst (pa_cons pe_int pa_nil)) pe_int) (pa_cons (pe_op op_rep (pe_lst (pa_cons pe_int pa_nil)) pe_int) (pa_cons (pe_c cRi hr (by decide) rfl (pa_cons (pv 1) pa_nil)) pa_nil)))))))))) (pg_name (i := 4) sc_law.nd rfl (.inl rfl)) (pss_cons (ps_set (i := 9) sc_law.nd rfl (.inl rfl) (pe_callB (call_reprQ free (by have := hr.un; show (A.deeper _).units + 150 < _; omega) sys) (by rfl) m_repr (by decide +kernel) (pa_cons (pv 4) pa_nil))) (pss_one (ps_if (PW.pt (pw_or (pt_cmpR op_ne (pe_callB (call_reprQ free (by have := hr.un; show (A.deeper _).units + 150 < _; omega) sys) (by rfl) m_repr (by decide +kernel) (pa_cons (pe_c cCW hr (by decide) rfl (pa_cons (pv 4) pa_nil)) pa_nil)) (pe_callB (call_reprQ free (by have := hr.un; show (A.deeper _).units + 150 < _; omega) sys) (by rfl) m_repr (by decide +kernel) (pa_cons (pe_c cWD hr (by decide) rfl (pa_cons (pv 4) pa_nil)) pa_nil)) (nomark _)) (pw_or1 (pt_cmpR op_ne (pe_callB (call_reprQ free (by have := hr.un; show (A.deeper _).units + 150 < _; omega) sys) (by rfl) m_repr (by decide +kernel) (pa_cons (pv 4) pa_nil)) (pv 9) (nomark _))))) (pss_one (ps_ret pe_bl)) pss_nil))))
      (pss_cons (ps_set (i := 5) sc_law.nd rfl (.inl rfl) (pe_c cDR hr (by decide) rfl (pa_cons (pv 1) (pa_cons (pv 2) pa_nil))))
      (pss_cons (ps_for PassesOwn.never rfl (pi_range1 (by rfl) m_range (pa_cons pe_int pa_nil)) (pg_name (i := 6) sc_law.nd rfl (.inl rfl)) (pss_cons (ps_set (i := 10) sc_law.nd rfl (.inl rfl) (pe_callTy call_list_of (by rfl) m_list (by decide +kernel) (pa_cons (pv 5) pa_nil))) (pss_cons (ps_if (PW.pt (pw_and (pt_cmpR op_gt (pv 6) pe_int (nomark _)) (pw_and1 (pt_truth (pv 5) (by intro _; rfl))))) (pss_one (ps_for PassesOwn.never rfl (pi_range1 (by rfl) m_range (pa_cons (pv 6) pa_nil)) (pg_name (i := 14) sc_law.nd rfl (.inl rfl)) (pss_cons (ps_set (i := 16) sc_law.nd rfl (.inl rfl) (pe_c cT hr (by decide) rfl (pa_cons (pv 1) (pa_cons (pe_callB call_len_seq (by rfl) m_len PySem.boot_len (pa_cons (pv 5) pa_nil)) pa_nil)))) (pss_one (ps_asg (pe_c cSp hr (by decide) rfl (pa_cons (pv 1) (pa_cons (pv 2) (pa_cons (pe_ix ix_seq (pv 5) (pv 16) (fun _ _ => rfl)) pa_nil)))) (pg_sub (pv 10) (pv 16) set_list)))))) pss_nil) (pss_cons (ps_set (i := 4) sc_law.nd rfl (.inl rfl) (pe_c cLo hr (by decide) rfl (pa_cons (pv 1) (pa_cons (pv 10) pa_nil)))) (pss_cons (ps_set (i := 9) sc_law.nd rfl (.inl rfl) (pe_callB (call_reprQ free (by have := hr.un; show (A.deeper _).units + 150 < _; omega) sys) (by rfl) m_repr (by decide +kernel) (pa_cons (pv 4) pa_nil))) (pss_cons (ps_set (i := 7) sc_law.nd rfl (.inl rfl) (pe_c cSD hr (by decide) rfl (pa_cons (pv 2) (pa_cons (pv 4) pa_nil)))) (pss_cons (ps_set (i := 11) sc_law.nd rfl (.inl rfl) (pe_c cCS hr (by decide) rfl (pa_cons (pe_c cLi hr (by decide) rfl (pa_cons (pv 1) (pa_cons (pv 2) pa_nil))) (pa_cons (pv 4) pa_nil)))) (pss_cons (ps_if (PW.pt (pw_or (pt_cmpR op_ne (pe_callB (call_reprQ free (by have := hr.un; show (A.deeper _).units + 150 < _; omega) sys) (by rfl) m_repr (by decide +kernel) (pa_cons (pv 11) pa_nil)) (pe_callB (call_reprQ free (by have := hr.un; show (A.deeper _).units + 150 < _; omega) sys) (by rfl) m_repr (by decide +kernel) (pa_cons (pv 7) pa_nil)) (nomark _)) (pw_or1 (pt_cmpR op_ne (pe_callB (call_reprQ free (by have := hr.un; show (A.deeper _).units + 150 < _; omega) sys) (by rfl) m_repr (by decide +kernel) (pa_cons (pv 4) pa_nil)) (pv 9) (nomark _))))) (pss_one (ps_ret pe_bl)) pss_nil) (pss_cons (ps_if (PW.pt (pw_and (pt_val (pe_callB call_isi (by rfl) m_isinstance (by decide +kernel) (pa_cons (pv 7) (pa_cons (pe_bltn (v := .ty "tuple") (by rfl) m_tuple (by decide +kernel) rfl) pa_nil)))) (pw_and1 (pt_cmpR op_ne (pe_callB (call_reprQ free (by have := hr.un; show (A.deeper _).units + 150 < _; omega) sys) (by rfl) m_repr (by decide +kernel) (pa_cons (pe_c cSV hr (by decide) rfl (pa_cons (pv 7) pa_nil)) pa_nil)) (pe_callB (call_reprQ free (by have := hr.un; show (A.deeper _).units + 150 < _; omega) sys) (by rfl) m_repr (by decide +kernel) (pa_cons (pe_callTy call_tuple_of (by rfl) m_tuple (by decide +kernel) (pa_cons (pe_c cLV hr (by decide) rfl (pa_cons (pv 7) pa_nil)) pa_nil)) pa_nil)) (nomark _))))) (pss_one (ps_ret pe_bl)) pss_nil) (pss_one (ps_for PassesOwn.never rfl (pi_seq (pe_op op_cat (pe_slice sl_list (pv 10) po_none (po_some pe_int)) (pe_lst (pa_cons (pe_c cRi hr (by decide) rfl (pa_cons (pv 1) pa_nil)) pa_nil)))) (pg_name (i := 12) sc_law.nd rfl (.inl rfl)) (pss_cons (ps_set (i := 15) sc_law.nd rfl (.inl rfl) (pe_c cLW hr (by decide) rfl (pa_cons (pv 2) (pa_cons (pv 12) (pa_cons pe_str (pa_cons pe_str pa_nil)))))) (pss_one (ps_if (pt_cmpR op_ne (pe_callB (call_reprQ free (by have := hr.un; show (A.deeper _).units + 150 < _; omega) sys) (by rfl) m_repr (by decide +kernel) (pa_cons (pe_c cCR hr (by decide) rfl (pa_cons (pe_c cLi hr (by decide) rfl (pa_cons (pv 1) (pa_cons (pv 2) pa_nil))) (pa_cons (pv 12) pa_nil))) pa_nil)) (pe_callB (call_reprQ free (by have := hr.un; show (A.deeper _).units + 150 < _; omega) sys) (by rfl) m_repr (by decide +kernel) (pa_cons (pe_ifExp (pt_cmpR op_isN (pv 15) pe_non (nomark _)) (pe_c cD hr (by decide) rfl (pa_cons (pv 12) pa_nil)) (pe_lst (pa_cons (pv 15) pa_nil))) pa_nil)) (nomark _)) (pss_one (ps_ret pe_bl)) pss_nil))))))))))))))
      (pss_cons (ps_if (pt_cmpR op_ne (pe_callB (call_reprQ free (by have := hr.un; show (A.deeper _).units + 150 < _; omega) sys) (by rfl) m_repr (by decide +kernel) (pa_cons (pe_c cCS hr (by decide) rfl (pa_cons (pv 2) (pa_cons (pe_c cRi hr (by decide) rfl (pa_cons (pv 1) pa_nil)) pa_nil))) pa_nil)) (pe_callB (call_reprQ free (by have := hr.un; show (A.deeper _).units + 150 < _; omega) sys) (by rfl) m_repr (by decide +kernel) (pa_cons (pe_lst (pa_cons pe_int (pa_cons pe_str pa_nil))) pa_nil)) (nomark _)) (pss_one (ps_ret pe_bl)) pss_nil)
      (pss_cons (ps_set (i := 7) sc_law.nd rfl (.inl rfl) (pe_c cWD hr (by decide) rfl (pa_cons (pv 3) pa_nil)))
      (pss_cons (ps_if (PW.pt (pw_or (pt_cmpR op_ne (pe_callB (call_reprQ free (by have := hr.un; show (A.deeper _).units + 150 < _; omega) sys) (by rfl) m_repr (by decide +kernel) (pa_cons (pe_c cCS hr (by decide) rfl (pa_cons (pv 3) (pa_cons (pv 5) pa_nil))) pa_nil)) (pe_callB (call_reprQ free (by have := hr.un; show (A.deeper _).units + 150 < _; omega) sys) (by rfl) m_repr (by decide +kernel) (pa_cons (pe_op op_cat (pv 7) (pe_lst (pa_cons pe_str pa_nil))) pa_nil)) (nomark _)) (pw_or1 (pt_cmpR op_ne (pe_callB (call_reprQ free (by have := hr.un; show (A.deeper _).units + 150 < _; omega) sys) (by rfl) m_repr (by decide +kernel) (pa_cons (pe_c cCR hr (by decide) rfl (pa_cons (pv 3) (pa_cons pe_int pa_nil))) pa_nil)) (pe_callB (call_reprQ free (by have := hr.un; show (A.deeper _).units + 150 < _; omega) sys) (by rfl) m_repr (by decide +kernel) (pa_cons (pe_op op_cat (pv 7) (pe_lst (pa_cons pe_str pa_nil))) pa_nil)) (nomark _))))) (pss_one (ps_ret pe_bl)) pss_nil)
      (pss_cons (ps_set (i := 8) sc_law.nd rfl (.inl rfl) (pe_op op_sub (pe_c cT hr (by decide) rfl (pa_cons (pv 1) (pa_cons (pe_op op_pow pe_int pe_int) pa_nil))) (pe_op op_mul pe_int (pe_op op_pow pe_int pe_int))))
      (pss_cons (ps_for PassesOwn.never rfl (pi_seq (pe_lst (pa_cons (pv 8) (pa_cons (pe_op op_sub (pv 8) pe_int) (pa_cons (pe_op op_add (pv 8) pe_int) (pa_cons (pe_c cAV hr (by decide) rfl (pa_cons (pv 1) pa_nil)) (pa_cons (pe_c cNV hr (by decide) rfl (pa_cons (pv 1) pa_nil)) (pa_cons pe_bl (pa_cons pe_str (pa_cons pe_non (pa_cons (pe_lst (pa_cons (pv 8) pa_nil)) pa_nil))))))))))) (pg_name (i := 4) sc_law.nd rfl (.inl rfl)) (pss_cons (ps_set (i := 13) sc_law.nd rfl (.inl rfl) (pe_c cLI hr (by decide) rfl (pa_cons (pv 4) pa_nil))) (pss_cons (ps_if (PW.pt (pw_or (pt_not (pt_val (pe_c cTr hr (by decide) rfl (pa_cons (pe_c cV hr (by decide) rfl (pa_cons (pv 4) pa_nil)) (pa_cons (pe_c cIV hr (by decide) rfl (pa_cons (pv 4) pa_nil)) pa_nil))))) (pw_or1 (pt_not (pt_val (pe_c cTr hr (by decide) rfl (pa_cons (C8.pe_c cW1 hr (by decide) rfl (pa_cons (pv 4) pa_nil)) (pa_cons (pv 13) pa_nil)))))))) (pss_one (ps_ret pe_bl)) pss_nil) (pss_cons (ps_if (PW.pt (pw_or (pt_not (pt_val (pe_c cTr hr (by decide) rfl (pa_cons (C8.pe_c cW2 hr (by decide) rfl (pa_cons (pv 4) (pa_cons (pv 8) pa_nil))) (pa_cons (pe_and (pv 13) (pe_one (pe_cmpR op_ge (pv 4) (pv 8) (nomark _)))) pa_nil))))) (pw_or1 (pt_not (pt_val (pe_c cTr hr (by decide) rfl (pa_cons (pe_c cW hr (by decide) rfl (pa_cons (pv 4) (pa_cons (pv 8) (pa_cons (pe_op op_add (pv 8) pe_int) pa_nil)))) (pa_cons (pe_and (pv 13) (pe_one (pe_chain op_le op_le (pv 8) (pv 4) (pe_op op_add (pv 8) pe_int)))) pa_nil)))))))) (pss_one (ps_ret pe_bl)) pss_nil) (pss_one (ps_if (PW.pt (pw_or (pt_not (pt_val (pe_c cTr hr (by decide) rfl (pa_cons (pe_cN cWN hr (by decide) rfl (pa_cons (pv 4) pa_nil) (pk_cons (pv 8) pk_nil)) (pa_cons (pe_and (pv 13) (pe_one (pe_cmpR op_le (pv 4) (pv 8) (nomark _)))) pa_nil))))) (pw_or1 (pt_not (pt_val (pe_c cTr hr (by decide) rfl (pa_cons (pe_c cQ hr (by decide) rfl (pa_cons (pv 4) pa_nil)) (pa_cons (pe_c cLS hr (by decide) rfl (pa_cons (pv 4) pa_nil)) pa_nil)))))))) (pss_one (ps_ret pe_bl)) pss_nil))))))
      (pss_one (ps_ret (pe_and (pe_cmpR op_is_bl (pe_c cQ hr (by decide) rfl (pa_cons (pe_callTy call_tuple_of (by rfl) m_tuple (by decide +kernel) (pa_cons (pv 5) pa_nil)) pa_nil)) pe_bl (nomark _)) (pe_and (pe_cmpR op_is_bl (pe_c cQ hr (by decide) rfl (pa_cons pe_str pa_nil)) pe_bl (nomark _)) (pe_one (pe_cmpR op_is_bl (pe_c cQ hr (by decide) rfl (pa_cons pe_dnewK pa_nil)) pe_bl (nomark _))))))))))))))))))), ?_⟩
    refine ⟨_, rfl, s, ns, rfl, hs, h63, fun a c H1 s1 na nc h1 => ?_⟩
    have few : ∀ {n : Nat}, n ≤ 1000 → n ≤ sizeLine := fun h => Nat.le_of_lt (small1000 h)
    have e9 : (10 : Int) ^ (9 : Int).toNat = 1000000000 := by decide
    refine ⟨_, rfl, a, c, H, rfl, h1, s1, na, fun W ws H2 G2 h2 x2 gW w1 w6 w3 => ?_⟩
    have wok : WsOk ws := ⟨w1, w6, w3⟩
    have lW : (ws.map V.int).length = ws.length := List.length_map ..
    -- bent
    refine ⟨_, rfl, W, ws.map V.int, rfl, .inl (SqL.of (x2.sub _ _ gW)), fun Bt nB => ?_⟩
    obtain ⟨Ba, Bc⟩ := hand_apart h2 nB
    have gB2 := x2.gone nB
    have nBH := x2.was nB Ba
    have hA := hand_keep (o := HO.lst (ws.map V.int)) h2 nB
    have xA := x2.mk0 (o := HO.lst (ws.map V.int)) nB
    have hB : (upd H2 Bt (.lst (ws.map V.int))) Bt = some (.lst (ws.map V.int)) := upd_same
    generalize upd H2 Bt (.lst (ws.map V.int)) = HA at hA xA hB ⊢
    try dsimp only [gName, tSeq, tAsg, tNext]
    refine ⟨_, rfl, few (by show 1 ≤ 1000; omega), fun t1 n1 => ?_⟩
    have tB : t1 ≠ Bt := fun z => by rw [z, hB] at n1; cases n1
    have f1 := same_upd (o := HO.tup [V.int 1]) (xA.gone n1)
    have hA := hand_keep (o := HO.tup [V.int 1]) hA n1
    have xA := xA.mk_ (o := HO.tup [V.int 1]) n1
    have hB := same_upd (o := HO.tup [V.int 1]) n1 _ _ hB
    have g1 : (upd G2 t1 (.tup [V.int 1])) t1 = some (.tup [V.int 1]) := upd_same
    have gW := f1 _ _ gW
    have gB2 : (upd G2 t1 (.tup [V.int 1])) Bt = none := by
      rw [upd_ne (Ne.symm tB)]
      exact gB2
    generalize upd HA t1 (.tup [V.int 1]) = HA at hA xA hB ⊢
    generalize upd G2 t1 (.tup [V.int 1]) = G2 at xA g1 gW gB2
    refine tk hA xA rfl (fun R h => ⟨_, _, rfl, rfl, ⟨by decide, by decide, by decide⟩, h⟩) (by rw [e9]; omega) (by rw [e9]; omega) fun u H3 u0 u1 h3 x3 sx3 => ?_
    rw [e9] at u1
    have hB := sx3 _ _ Ba hB
    refine ⟨_, _, rfl, rfl, few (by show 8 ≤ 1000; omega), fun q nq => ?_⟩
    have qa := (hand_apart h3 nq).1
    have hA := hand_keep (o := HO.tup [V.int 0, V.int 4, V.int (-1), V.bl true, V.non, V.str "2", .ref t1, V.int (4 + u)]) h3 nq
    have xA := x3.mk0 (o := HO.tup [V.int 0, V.int 4, V.int (-1), V.bl true, V.non, V.str "2", .ref t1, V.int (4 + u)]) nq
    have hB := same_upd (o := HO.tup [V.int 0, V.int 4, V.int (-1), V.bl true, V.non, V.str "2", .ref t1, V.int (4 + u)]) nq _ _ hB
    have hq : (upd H3 q (HO.tup [V.int 0, V.int 4, V.int (-1), V.bl true, V.non, V.str "2", .ref t1, V.int (4 + u)])) q = some (HO.tup [V.int 0, V.int 4, V.int (-1), V.bl true, V.non, V.str "2", .ref t1, V.int (4 + u)]) := upd_same
    generalize upd H3 q (HO.tup [V.int 0, V.int 4, V.int (-1), V.bl true, V.non, V.str "2", .ref t1, V.int (4 + u)]) = HA at hA xA hB hq ⊢
    refine tk hA xA rfl (fun R h => h) (by omega) (by omega) fun v H4 v0 v1 h4 x4 sx4 => ?_
    have hB := sx4 _ _ Ba hB
    have hq := sx4 _ _ qa hq
    obtain ⟨n, rfl⟩ : ∃ m : Nat, v = (m : Int) := ⟨v.toNat, (Int.toNat_of_nonneg v0).symm⟩
    have allB : DqAll G2 [V.int 0, V.int 4, V.int (-1), V.bl true, V.non, V.str "2", .ref t1, V.int (4 + u)] (bents u) := .cons (.int _) (.cons (.int _) (.cons (.int _) (.cons (.bl _) (.cons .non (.cons (.str _) (.cons (.tup g1 (.cons (.int _) .nil)) (.cons (.int _) .nil)))))))
    obtain ⟨tv, etv⟩ : ∃ x, [V.int 0, V.int 4, V.int (-1), V.bl true, V.non, V.str "2", V.ref t1, V.int (4 + u)][n]? = some x := ⟨_, List.getElem?_eq_getElem (by show n < 8; omega)⟩
    obtain ⟨td, etd, htd⟩ := allB.get etv
    have mtd := List.mem_of_getElem? etd
    refine ⟨q, _, _, _, rfl, rfl, SqT.of hq, atI_nat etv, _, rfl, ?_⟩
    refine tk h4 x4 rfl (fun R h => ⟨_, rfl, Bt, _, rfl, .inl (SqL.of hB), h⟩) (by rw [lW]; omega) (by rw [lW]; omega) fun y H5 y0 y1 h5 x5 sx5 => ?_
    rw [lW] at y1
    have hB := sx5 _ _ Ba hB
    obtain ⟨m, rfl⟩ : ∃ m : Nat, y = (m : Int) := ⟨y.toNat, (Int.toNat_of_nonneg y0).symm⟩
    have lm : m < ws.length := by omega
    refine ⟨Bt, _, _, m, rfl, rfl, hB, ixNat (by rw [lW]; exact lm), ?_⟩
    obtain ⟨i0, bad0⟩ := bent_bad (bents_bad u0 td mtd) lm
    -- bent as it stays
    have hA := hand_upd (o := HO.lst ((ws.map V.int).set m tv)) h5 Ba Bc
    have xA := x5.put (o := HO.lst ((ws.map V.int).set m tv)) nBH gB2 Ba
    have hB : (upd H5 Bt (.lst ((ws.map V.int).set m tv))) Bt = some (.lst ((ws.map V.int).set m tv)) := upd_same
    have xA := xA.ice nBH hB gB2 Ba
    have f1 := same_upd (o := HO.lst ((ws.map V.int).set m tv)) gB2
    have gB : (upd G2 Bt (.lst ((ws.map V.int).set m tv))) Bt = some (.lst ((ws.map V.int).set m tv)) := upd_same
    have gW := f1 _ _ gW
    have allW : DqAll (upd G2 Bt (.lst ((ws.map V.int).set m tv))) (ws.map V.int) (ws.map PyData.int) := dqs_ints _
    have allBt : DqAll (upd G2 Bt (.lst ((ws.map V.int).set m tv))) ((ws.map V.int).set m tv) ((ws.map PyData.int).set m td) := allW.set m (htd.keep f1)
    have tb : ∀ d ∈ (ws.map PyData.int).set m td, Tiny d := fun d md => by
      rcases List.mem_or_eq_of_mem_set md with md | rfl
      · exact ws_tiny w3 d md
      · exact bents_sm u0 (by omega) _ mtd
    have lb : ((ws.map PyData.int).set m td).length ≤ 6 := by rw [List.length_set, List.length_map]; exact w6
    have lbv : ((ws.map V.int).set m tv).length ≤ 6 := by rw [List.length_set, List.length_map]; exact w6
    generalize (ws.map PyData.int).set m td = bd at bad0 allBt tb lb
    generalize (ws.map V.int).set m tv = bv at hA xA hB gB gW allW allBt lbv ⊢
    generalize upd H5 Bt (.lst bv) = HA at hA xA hB ⊢
    generalize upd G2 Bt (.lst bv) = GA at xA gB gW allW allBt
    -- the widths that are tried
    have acc : DqAll GA [.ref W] [.list (ws.map PyData.int)] := .cons (.lst gW allW) .nil
    try dsimp only [gName, tSeq, tAsg, tNext]
    refine .inl ?_
    refine ⟨_, rfl, _, rfl, W, _, rfl, .inl ⟨SqL.of (xA.sub _ _ gW), fun l2 n2 => ?_⟩⟩
    have f_ := same_upd (o := HO.tup (ws.map V.int)) (xA.gone n2)
    have hA := hand_keep (o := HO.tup (ws.map V.int)) hA n2
    have xA := xA.mk_ (o := HO.tup (ws.map V.int)) n2
    have acc := (acc.keep f_).snoc (.tup upd_same (dqs_ints _))
    have gW := f_ _ _ gW
    have gB := f_ _ _ gB
    have allBt := allBt.keep f_
    have acc := acc.snoc (.lst gB allBt)
    generalize upd HA l2 (.tup (ws.map V.int)) = HA at hA xA ⊢
    generalize upd GA l2 (.tup (ws.map V.int)) = GA at xA acc gW gB allBt
    refine ⟨_, rfl, _, rfl, _, rfl, W, Bt, _, _, rfl, rfl, xA.sub _ _ gW, xA.sub _ _ gB, few (by rw [lW]; omega), fun l4 n4 => ?_⟩
    have f_ := same_upd (o := HO.lst (ws.map V.int ++ bv)) (xA.gone n4)
    have hA := hand_keep (o := HO.lst (ws.map V.int ++ bv)) hA n4
    have xA := xA.mk_ (o := HO.lst (ws.map V.int ++ bv)) n4
    have acc := (acc.keep f_).snoc (.lst upd_same (((dqs_ints ws).app allBt).keep f_))
    have gW := f_ _ _ gW
    have gB := f_ _ _ gB
    have allBt := allBt.keep f_
    generalize upd HA l4 (HO.lst (ws.map V.int ++ bv)) = HA at hA xA ⊢
    generalize upd GA l4 (HO.lst (ws.map V.int ++ bv)) = GA at xA acc gW gB allBt
    refine ⟨few (Nat.zero_le _), fun l5 n5 => ?_⟩
    have f_ := same_upd (o := HO.lst []) (xA.gone n5)
    have hA := hand_keep (o := HO.lst []) hA n5
    have xA := xA.mk_ (o := HO.lst []) n5
    have acc := (acc.keep f_).snoc (.lst upd_same .nil)
    have gW := f_ _ _ gW
    have gB := f_ _ _ gB
    have allBt := allBt.keep f_
    generalize upd HA l5 (HO.lst []) = HA at hA xA ⊢
    generalize upd GA l5 (HO.lst []) = GA at xA acc gW gB allBt
    refine ⟨few (by show 1 ≤ 1000; omega), fun l6 n6 => ?_⟩
    have gl6 : (upd HA l6 (.lst [V.int 1])) l6 = some (.lst [V.int 1]) := upd_same
    have f_ := same_upd (o := HO.lst [V.int 1]) (xA.gone n6)
    have hA := hand_keep (o := HO.lst [V.int 1]) hA n6
    have xA := xA.mk_ (o := HO.lst [V.int 1]) n6
    have acc := acc.keep f_
    have gW := f_ _ _ gW
    have gB := f_ _ _ gB
    have allBt := allBt.keep f_
    generalize upd HA l6 (HO.lst [V.int 1]) = HA at hA xA gl6 ⊢
    generalize upd GA l6 (HO.lst [V.int 1]) = GA at xA acc gW gB allBt
    refine ⟨l6, 7, [V.int 1], rfl, rfl, gl6, by decide, by decide, few (by show 1 * 7 ≤ 1000; omega), fun m6 k6 => ?_⟩
    have f_ := same_upd (o := HO.lst (List.replicate (Int.toNat 7) [V.int 1]).flatten) (xA.gone k6)
    have hA := hand_keep (o := HO.lst (List.replicate (Int.toNat 7) [V.int 1]).flatten) hA k6
    have xA := xA.mk_ (o := HO.lst (List.replicate (Int.toNat 7) [V.int 1]).flatten) k6
    have acc := (acc.keep f_).snoc (.lst upd_same (show DqAll _ (List.replicate 7 [V.int 1]).flatten (List.replicate 7 (PyData.int 1)) from .cons (.int 1) (.cons (.int 1) (.cons (.int 1) (.cons (.int 1) (.cons (.int 1) (.cons (.int 1) (.cons (.int 1) (.nil)))))))))
    have gW := f_ _ _ gW
    have gB := f_ _ _ gB
    have allBt := allBt.keep f_
    generalize upd HA m6 (HO.lst (List.replicate (Int.toNat 7) [V.int 1]).flatten) = HA at hA xA ⊢
    generalize upd GA m6 (HO.lst (List.replicate (Int.toNat 7) [V.int 1]).flatten) = GA at xA acc gW gB allBt
    refine ⟨few (by show 1 ≤ 1000; omega), fun l7 n7 => ?_⟩
    have gl7 : (upd HA l7 (.lst [V.int 3])) l7 = some (.lst [V.int 3]) := upd_same
    have f_ := same_upd (o := HO.lst [V.int 3]) (xA.gone n7)
    have hA := hand_keep (o := HO.lst [V.int 3]) hA n7
    have xA := xA.mk_ (o := HO.lst [V.int 3]) n7
    have acc := acc.keep f_
    have gW := f_ _ _ gW
    have gB := f_ _ _ gB
    have allBt := allBt.keep f_
    generalize upd HA l7 (HO.lst [V.int 3]) = HA at hA xA gl7 ⊢
    generalize upd GA l7 (HO.lst [V.int 3]) = GA at xA acc gW gB allBt
    refine ⟨l7, 6, [V.int 3], rfl, rfl, gl7, by decide, by decide, few (by show 1 * 6 ≤ 1000; omega), fun m7 k7 => ?_⟩
    have f_ := same_upd (o := HO.lst (List.replicate (Int.toNat 6) [V.int 3]).flatten) (xA.gone k7)
    have hA := hand_keep (o := HO.lst (List.replicate (Int.toNat 6) [V.int 3]).flatten) hA k7
    have xA := xA.mk_ (o := HO.lst (List.replicate (Int.toNat 6) [V.int 3]).flatten) k7
    have acc := (acc.keep f_).snoc (.lst upd_same (show DqAll _ (List.replicate 6 [V.int 3]).flatten (List.replicate 6 (PyData.int 3)) from .cons (.int 3) (.cons (.int 3) (.cons (.int 3) (.cons (.int 3) (.cons (.int 3) (.cons (.int 3) (.nil))))))))
    have gW := f_ _ _ gW
    have gB := f_ _ _ gB
    have allBt := allBt.keep f_
    generalize upd HA m7 (HO.lst (List.replicate (Int.toNat 6) [V.int 3]).flatten) = HA at hA xA ⊢
    generalize upd GA m7 (HO.lst (List.replicate (Int.toNat 6) [V.int 3]).flatten) = GA at xA acc gW gB allBt
    refine ⟨_, rfl, a, c, GA, rfl, hA, xA.sub, xA.off, fun y8 d8 HB GB hB8 x8 hy8 rd8 => ?_⟩
    have acc := (acc.keep x8.up).snoc hy8
    have xA := xA.trans x8
    have gW := x8.up _ _ gW
    have gB := x8.up _ _ gB
    have allBt := allBt.keep x8.up
    refine ⟨few (by show 8 ≤ 1000; omega), fun T nT => ?_⟩
    have f_ := same_upd (o := HO.lst [.ref W, .ref l2, .ref Bt, .ref l4, .ref l5, .ref m6, .ref m7, y8]) (xA.gone nT)
    have hA := hand_keep (o := HO.lst [.ref W, .ref l2, .ref Bt, .ref l4, .ref l5, .ref m6, .ref m7, y8]) hB8 nT
    have xA := xA.mk_ (o := HO.lst [.ref W, .ref l2, .ref Bt, .ref l4, .ref l5, .ref m6, .ref m7, y8]) nT
    have gT : (upd GB T (.lst [.ref W, .ref l2, .ref Bt, .ref l4, .ref l5, .ref m6, .ref m7, y8])) T = some (.lst [.ref W, .ref l2, .ref Bt, .ref l4, .ref l5, .ref m6, .ref m7, y8]) := upd_same
    have acc := acc.keep f_
    have gW := f_ _ _ gW
    have gB := f_ _ _ gB
    have allBt := allBt.keep f_
    have okT : ∀ d ∈ [PyData.list (ws.map PyData.int), .tuple (ws.map PyData.int), .list bd, .list (ws.map PyData.int ++ bd), .list [], .list (List.replicate 7 (.int 1)), .list (List.replicate 6 (.int 3)), d8], Sh d := fun d md => by
      simp only [List.mem_cons, List.not_mem_nil, or_false] at md
      rcases md with rfl | rfl | rfl | rfl | rfl | rfl | rfl | rfl
      · exact tiny_list (ws_tiny w3) (by rw [List.length_map]; omega)
      · exact tiny_tup (ws_tiny w3) (by rw [List.length_map]; omega)
      · exact tiny_list tb (by omega)
      · refine tiny_list (fun x mx => ?_) (by rw [List.length_append, List.length_map]; omega)
        rcases List.mem_append.mp mx with mx | mx
        · exact ws_tiny w3 x mx
        · exact tb x mx
      · exact tiny_list (fun x mx => nomatch mx) (Nat.zero_le _)
      · exact tiny_list (fun x mx => by rw [List.eq_of_mem_replicate mx]; exact tiny_int (by decide)) (by rw [List.length_replicate]; omega)
      · exact tiny_list (fun x mx => by rw [List.eq_of_mem_replicate mx]; exact tiny_int (by decide)) (by rw [List.length_replicate]; omega)
      · exact (rid_ok rd8).sh
    have acc : DqAll _ [.ref W, .ref l2, .ref Bt, .ref l4, .ref l5, .ref m6, .ref m7, y8] [PyData.list (ws.map PyData.int), .tuple (ws.map PyData.int), .list bd, .list (ws.map PyData.int ++ bd), .list [], .list (List.replicate 7 (.int 1)), .list (List.replicate 6 (.int 3)), d8] := acc
    generalize [PyData.list (ws.map PyData.int), .tuple (ws.map PyData.int), .list bd, .list (ws.map PyData.int ++ bd), .list [], .list (List.replicate 7 (.int 1)), .list (List.replicate 6 (.int 3)), d8] = dT at acc okT
    generalize [V.ref W, .ref l2, .ref Bt, .ref l4, .ref l5, .ref m6, .ref m7, y8] = xT at hA xA gT acc gW gB allBt ⊢
    generalize upd HB T (.lst xT) = HF at hA xA ⊢
    generalize upd GB T (.lst xT) = GF at xA gT acc gW gB allBt
    refine ⟨T, rfl, ⟨_, SqL.of (xA.sub _ _ gT)⟩, for_it (walk_list (K := K) (a := T) (xs := xT)) (fun i σ H' => ∃ v4 v5 v6 v7 v8 v9 v10 v11 v12 v13 v14 v15 v16, σ = [some (.ref s), some (.ref a), some (.ref W), some (.ref Bt), v4, v5, v6, v7, v8, v9, v10, v11, v12, v13, v14, v15, v16] ∧ ∃ G', Hand MO H' a c ∧ Ext a H1 H H' G' ∧ Same GF G') ?_ ?_ ?_ ?_⟩
    · exact ⟨_, _, _, _, _, _, _, _, _, _, _, _, _, rfl, GF, hA, xA, Same.refl _⟩
    · rintro j σ H' hj ⟨v4, v5, v6, v7, v8, v9, v10, v11, v12, v13, v14, v15, v16, rfl, G', hh, x', up'⟩
      exact SqL.of (x'.sub _ _ (up' _ _ gT))
    · rintro j t σ H' H2' hj ⟨v4, v5, v6, v7, v8, v9, v10, v11, v12, v13, v14, v15, v16, rfl, GG, hG, xG, upG⟩ y
      obtain ⟨rfl, et⟩ := y
      obtain ⟨td', etd', ht⟩ := acc.get et
      have ht := (ht.keep upG).keep xG.sub
      have sht := okT td' (List.mem_of_getElem? etd')
      have shW := resW_sh (sh_items sht)
      try dsimp only [gName, tSeq, tAsg, tNext]
      refine ⟨_, rfl, ?_⟩
      try dsimp only [tNil, tCons, tCB]
      refine rd_repr sht ht ?_
      try dsimp only [gName, tSeq, tAsg, tNext]
      refine ⟨_, rfl, t, td', rfl, ht, fun v HL sL hv => ?_⟩
      try dsimp only [tNil, tCons, tCB]
      refine rd_repr shW hv ?_
      refine ⟨_, rfl, t, td', rfl, ht.keep sL, sht.few, fun v2 HM sM hv2 => ?_⟩
      try dsimp only [tNil, tCons, tCB]
      refine rd_repr shW hv2 ?_
      refine ⟨rfl, _, rfl, iteNS rfl ?_⟩
      refine ⟨_, rfl, ?_⟩
      try dsimp only [tNil, tCons, tCB]
      refine rd_repr sht ((ht.keep sL).keep sM) ?_
      refine ⟨_, rfl, rfl, _, rfl, iteNS rfl ?_⟩
      exact ⟨_, _, _, _, _, _, _, _, _, _, _, _, _, rfl, GG, (hG.same sL).same sM, (xG.pure sL).pure sM, upG⟩
    · rintro σ H' ⟨v4, v5, v6, v7, v8, v9, v10, v11, v12, v13, v14, v15, v16, rfl, GG, hG, xG, upG⟩
      have gW := upG _ _ gW
      have gB := upG _ _ gB
      have allBt := allBt.keep upG
      try dsimp only [gName, tSeq, tAsg, tNext]
      refine ⟨_, rfl, _, rfl, a, c, W, GG, ws, rfl, hG, xG.sub, xG.off, gW, wok, fun R ys ds H5 G5 h5 x5 gR all n61 like => ?_⟩
      have xx := xG.trans x5
      have gW := x5.up _ _ gW
      have gB := x5.up _ _ gB
      have allBt := allBt.keep x5.up
      have ly := all.len
      have itd : ∀ d ∈ ds, ItOk d := fun d md => like_ok (like d md) w6 w3
      refine ⟨3, rfl, by omega, by omega, ?_⟩
      refine for_range (lo := 0) (n := 3) (fun i σ H' => ∃ v4 v6 v7 v8 v9 v10 v11 v12 v13 v14 v15 v16, σ = [some (.ref s), some (.ref a), some (.ref W), some (.ref Bt), v4, some (.ref R), v6, v7, v8, v9, v10, v11, v12, v13, v14, v15, v16] ∧ ∃ G', Hand MO H' a c ∧ Ext a H1 H H' G' ∧ Same G5 G') ?_ ?_ ?_
      · exact ⟨_, _, _, _, _, _, _, _, _, _, _, _, rfl, G5, h5, xx, Same.refl _⟩
      · rintro i σ H' li ⟨v4, v6, v7, v8, v9, v10, v11, v12, v13, v14, v15, v16, rfl, G6, h6, x6, up6⟩
        have gW6 := up6 _ _ gW
        have gR6 := up6 _ _ gR
        have all6 := all.keep up6
        refine ⟨_, rfl, R, ys, rfl, .inl (SqL.of (x6.sub _ _ gR6)), fun Sp nSp => ?_⟩
        obtain ⟨Sa, Sc⟩ := hand_apart h6 nSp
        have gS6 := x6.gone nSp
        have nSH := x6.was nSp Sa
        have hA := hand_keep (o := HO.lst ys) h6 nSp
        have xA := x6.mk0 (o := HO.lst ys) nSp
        have hS : (upd H' Sp (.lst ys)) Sp = some (.lst ys) := upd_same
        generalize upd H' Sp (.lst ys) = HA at hA xA hS ⊢
        try dsimp only [gName, tNext]
        refine seq_join (fun σ' H2 => ∃ v4 v6 v7 v8 v9 v11 v12 v13 v14 v15 v16, σ' = [some (.ref s), some (.ref a), some (.ref W), some (.ref Bt), v4, some (.ref R), v6, v7, v8, v9, some (.ref Sp), v11, v12, v13, v14, v15, v16] ∧ ∃ G' ys' ds', Hand MO H2 a c ∧ Ext a H1 H H2 G' ∧ Same G6 G' ∧ H2 Sp = some (.lst ys') ∧ G' Sp = none ∧ DqAll G' ys' ds' ∧ ds'.length = ds.length ∧ ∀ d ∈ ds', ItOk d) (fun N hN => ?_) (fun σ' H2 jj => ?_)
        · have still : ∃ G' ys' ds', Hand MO HA a c ∧ Ext a H1 H HA G' ∧ Same G6 G' ∧ HA Sp = some (.lst ys') ∧ G' Sp = none ∧ DqAll G' ys' ds' ∧ ds'.length = ds.length ∧ ∀ d ∈ ds', ItOk d := ⟨G6, ys, ds, hA, xA, Same.refl _, hS, gS6, all6, rfl, itd⟩
          refine ⟨_, rfl, _, _, rfl, rfl, _, rfl, ite2 (fun z => ?_) (fun z => ?_)⟩
          rotate_left
          · exact hN _ _ ⟨_, _, _, _, _, _, _, _, _, _, _, rfl, still⟩
          refine ⟨_, rfl, !ys.isEmpty, .inl ⟨_, SqL.of (xA.sub _ _ gR6), rfl⟩, ?_⟩
          cases hb : (!ys.isEmpty) with
          | false => exact iteF (hN _ _ ⟨_, _, _, _, _, _, _, _, _, _, _, rfl, still⟩)
          | true =>
            have l0 : 0 < ys.length := by
              cases ys with
              | nil => cases hb
              | cons _ _ => exact Nat.succ_pos _
            refine iteT ?_
            have e0 : (0 : Int) + (i : Int) = ((i : Nat) : Int) := Int.zero_add _
            refine ⟨_, rfl, (0 + (i : Int)), rfl, by omega, by omega, ?_⟩
            rw [e0, Int.toNat_natCast]
            refine for_range (lo := 0) (n := i) (fun st σ H2 => ∃ v4 v6 v7 v8 v9 v11 v12 v13 v14 v15 v16, σ = [some (.ref s), some (.ref a), some (.ref W), some (.ref Bt), v4, some (.ref R), v6, v7, v8, v9, some (.ref Sp), v11, v12, v13, v14, v15, v16] ∧ ∃ G' ys' ds', Hand MO H2 a c ∧ Ext a H1 H H2 G' ∧ Same G6 G' ∧ H2 Sp = some (.lst ys') ∧ G' Sp = none ∧ DqAll G' ys' ds' ∧ ds'.length = ds.length ∧ ∀ d ∈ ds', ItOk d) ?_ ?_ ?_
            · exact ⟨_, _, _, _, _, _, _, _, _, _, _, rfl, still⟩
            · rintro st σ H7 lst ⟨v4, v6, v7, v8, v9, v11, v12, v13, v14, v15, v16, rfl, G7, ys7, ds7, h7, x7, up7, hS7, gS7, all7, len7, its7⟩
              have gR7 := up7 _ _ gR6
              have gW7 := up7 _ _ gW6
              have ly7 := all7.len
              try dsimp only [gName, tSeq, tAsg, tNext]
              refine tk h7 x7 rfl (fun R_ h => ⟨_, rfl, R, _, rfl, .inl (SqL.of (x7.sub _ _ gR7)), h⟩) (by omega) (by omega) fun y H8 y0 y1 h8 x8 sx8 => ?_
              obtain ⟨m, rfl⟩ : ∃ m : Nat, y = (m : Int) := ⟨y.toNat, (Int.toNat_of_nonneg y0).symm⟩
              have hS8 := sx8 _ _ Sa hS7
              have lm : m < ys.length := by omega
              have ex : ys[m]? = some ys[m] := List.getElem?_eq_getElem lm
              obtain ⟨rd, erd, hrd⟩ := all6.get ex
              have hrd := hrd.keep up7
              obtain ⟨t, ns7, es7, lt7, len7', vals7⟩ := (like rd (List.mem_of_getElem? erd)).seq
              have n3 : ns7.length ≤ 3 := by
                have et : ws.getD t 0 = ws[t] := by rw [List.getD_eq_getElem?_getD, List.getElem?_eq_getElem lt7]; rfl
                have := w3 _ (List.getElem_mem lt7)
                omega
              refine ⟨_, rfl, _, rfl, _, rfl, _, rfl, rd_ix (.inl (SqL.of (x8.sub _ _ gR7))) (atI_nat ex) ⟨a, c, W, ys[m], G7, ws, ns7, t, rd, _, _, rfl, h8, x8.sub, x8.off, gW7, w6, hrd, es7, rfl, lt7, by rw [List.length_map]; exact n3, fun y my => ?_, vals7, fun y yd H9 G9 h9 x9 hy r9 => ?_⟩⟩
              · obtain ⟨n, mn, rfl⟩ := List.mem_map.mp my
                exact .inr ⟨n, mn, rfl⟩
              · obtain ⟨hS9, gS9⟩ := x9.stays hS8 gS7 Sa
                obtain ⟨X, _, sm⟩ := r9
                refine ⟨_, rfl, _, rfl, Sp, ys7, _, m, rfl, rfl, hS9, ixNat (by omega), ?_⟩
                refine ⟨_, _, _, _, _, _, _, _, _, _, _, rfl, G9, ys7.set m y, ds7.set m yd, hand_upd h9 Sa Sc, (x8.trans x9).put nSH gS9 Sa, up7.trans x9.up, upd_same, gS9, (all7.keep x9.up).set m hy, by rw [List.length_set]; exact len7, fun d md => ?_⟩
                rcases List.mem_or_eq_of_mem_set md with md | rfl
                · exact its7 d md
                · exact ⟨_, sm⟩
            · rintro σ H7 ⟨v4, v6, v7, v8, v9, v11, v12, v13, v14, v15, v16, rfl, r7⟩
              exact hN _ _ ⟨_, _, _, _, _, _, _, _, _, _, _, rfl, r7⟩
        · obtain ⟨v4, v6, v7, v8, v9, v11, v12, v13, v14, v15, v16, rfl, G7, ys7, ds7, h7, x7, up7, hS7, gS7, all7, len7, its7⟩ := jj
          have x8 := x7.ice nSH hS7 gS7 Sa
          have f8 := same_upd (o := HO.lst ys7) gS7
          have gS8 : (upd G7 Sp (.lst ys7)) Sp = some (.lst ys7) := upd_same
          have all8 := all7.keep f8
          have up8 := up7.trans f8
          generalize upd G7 Sp (.lst ys7) = G8 at x8 gS8 all8 up8
          have shS := list_sh its7 (by omega)
          have depS := list_dep its7
          refine ⟨_, rfl, _, rfl, a, c, .ref Sp, G8, .list ds7, rfl, h7, x8.sub, x8.off, .lst gS8 all8, shS.few, by omega, fun y yd HI GI hI xI hy eqd => ?_⟩
          have xx := x8.trans xI
          have shy := shS.deep eqd
          have d8y : dep yd ≤ 8 := by rw [← deep_dep, eqd, deep_dep]; exact depS
          have gWI := xI.up _ _ (up8 _ _ gW6)
          have hyI := hy.keep xx.sub
          refine ⟨_, rfl, ?_⟩
          try dsimp only [tNil, tCons, tCB]
          refine rd_repr shy hyI ?_
          refine ⟨_, rfl, _, rfl, .ref W, y, ws, yd, rfl, ⟨W, rfl, .inl (xx.sub _ _ gWI)⟩, wok, hyI, shy.few, d8y, fun dv r HJ sJ st hdv => ?_⟩
          obtain ⟨shr, apr⟩ := end_sh wok st
          have hJ := hI.same sJ
          have xJ := xx.pure sJ
          refine ⟨_, rfl, _, rfl, a, c, W, GI, ws, rfl, hJ, xJ.sub, xJ.off, gWI, fun lv HK GK hK xK hlv => ?_⟩
          have dvK := ap_draw hJ xK.old apr hdv
          have xxK := xJ.trans xK
          have hyK := (hy.keep xK.up).keep xK.sub
          obtain ⟨dw, hdw, edw⟩ := IntsAt.dq hlv
          obtain ⟨ew1, ew2⟩ := ws_right wok edw
          refine ⟨_, rfl, lv, y, dw, yd, rfl, hdw.keep xK.sub, hyK, shy.few, fun rv r2 HL sL st2 hrv => ?_⟩
          unfold ResS at st2
          rw [ew1] at st2
          dsimp only at st2
          rw [ew2] at st2
          have er := end_one wok st st2
          subst er
          have dvL := dvK.keep sL
          refine ⟨_, rfl, ?_⟩
          try dsimp only [tNil, tCons, tCB]
          refine rd_repr shr hrv ?_
          refine ⟨_, rfl, ?_⟩
          try dsimp only [tNil, tCons, tCB]
          refine rd_repr shr dvL ?_
          refine ⟨rfl, _, rfl, iteNS rfl ?_⟩
          refine ⟨_, rfl, ?_⟩
          try dsimp only [tNil, tCons, tCB]
          refine rd_repr shy (hyK.keep sL) ?_
          refine ⟨_, rfl, rfl, _, rfl, iteNS rfl ?_⟩
          have hL := hK.same sL
          have xL := xxK.pure sL
          try dsimp only [gName, tNext]
          refine seq_join (fun σ' H2 => ∃ v4 v6 v7 v8 v9 v11 v12 v13 v14 v15 v16, σ' = [some (.ref s), some (.ref a), some (.ref W), some (.ref Bt), v4, some (.ref R), v6, v7, v8, v9, some (.ref Sp), v11, v12, v13, v14, v15, v16] ∧ Same HL H2) (fun N hN => ?_) (fun σ' H2 jj => ?_)
          · refine ⟨_, rfl, dv, .ty "tuple", _, _, _, rfl, .ty _, .base dvL.ty, kit_dTuple _, _, rfl, ?_⟩
            cases e : storeR ws yd with
            | some u =>
              unfold StoreEnd at st
              rw [e] at st
              dsimp only at st
              subst st
              exact iteF (hN _ _ ⟨_, _, _, _, _, _, _, _, _, _, _, rfl, Same.refl _⟩)
            | none =>
              have st0 := st
              unfold StoreEnd at st0
              rw [e] at st0
              obtain ⟨es, is, rfl⟩ := st0
              obtain ⟨rows, its, n60⟩ := store_rows wok e is
              refine iteT ?_
              refine ⟨_, rfl, dv, es, rfl, dvL, rows, n60, fun ns1 r1 HM vo sM hr1 => ?_⟩
              try dsimp only [tNil, tCons, tCB]
              refine rd_repr (vof_sh wok e is vo) (.tup hr1 (dqs_ints _)) ?_
              refine ⟨_, rfl, dv, es, rfl, dvL.keep sM, rows, n60, fun ns2 r2 HN vo2 sN hr2 => ?_⟩
              have ev := vo.one vo2
              subst ev
              refine ⟨r2, _, rfl, .inl ⟨SqL.of hr2, fun t nt => ?_⟩⟩
              try dsimp only [tNil, tCons, tCB]
              refine rd_repr (vof_sh wok e is vo) (.tup upd_same (dqs_ints _)) ?_
              exact ⟨rfl, _, rfl, iteNS rfl (hN _ _ ⟨_, _, _, _, _, _, _, _, _, _, _, rfl, (sM.trans sN).trans (same_upd nt)⟩)⟩
          · obtain ⟨v4, v6, v7, v8, v9, v11, v12, v13, v14, v15, v16, rfl, sM⟩ := jj
            have hM := hL.same sM
            have xM := xL.pure sM
            have upS : Same G8 GK := xI.up.trans xK.up
            have gSK := upS _ _ gS8
            have allK := all8.keep upS
            have gWK := xK.up _ _ gWI
            have ly7 := allK.len
            refine .inl ?_
            refine ⟨_, rfl, 4, rfl, Sp, ys7, rfl, SqL.of (xM.sub _ _ gSK), fun l2 nl2 => ?_⟩
            have cuts := cutV_length ys7 none (some 4)
            have f2 := same_upd (o := HO.lst (cutV ys7 none (some 4))) (xM.gone nl2)
            have hA := hand_keep (o := HO.lst (cutV ys7 none (some 4))) hM nl2
            have xA := xM.mk_ (o := HO.lst (cutV ys7 none (some 4))) nl2
            have g2 : (upd GK l2 (.lst (cutV ys7 none (some 4)))) l2 = some (.lst (cutV ys7 none (some 4))) := upd_same
            have dcut : DqAll GK (cutV ys7 none (some 4)) ((ds7.drop (HT.sIx ys7.length 0 none)).take (HT.sIx ys7.length ys7.length (some 4) - HT.sIx ys7.length 0 none)) := (allK.drop _).take _
            have dcut := dcut.keep f2
            have gWA := f2 _ _ gWK
            have okc : ∀ d ∈ (ds7.drop (HT.sIx ys7.length 0 none)).take (HT.sIx ys7.length ys7.length (some 4) - HT.sIx ys7.length 0 none), ItOk d := fun d md => its7 d (List.mem_of_mem_drop (List.mem_of_mem_take md))
            generalize (ds7.drop (HT.sIx ys7.length 0 none)).take (HT.sIx ys7.length ys7.length (some 4) - HT.sIx ys7.length 0 none) = dc at dcut okc
            generalize cutV ys7 none (some 4) = cv at hA xA g2 dcut f2 cuts gWA ⊢
            generalize upd H2 l2 (.lst cv) = HA at hA xA ⊢
            generalize upd GK l2 (.lst cv) = GA at xA g2 dcut f2 gWA
            refine ⟨_, rfl, a, c, GA, rfl, hA, xA.sub, xA.off, fun y5 d5 HB GB hB5 xB e5 r5 => ?_⟩
            have g2 := xB.up _ _ g2
            have dcut := dcut.keep xB.up
            have gWA := xB.up _ _ gWA
            have xA := xA.trans xB
            refine ⟨few (by show 1 ≤ 1000; omega), fun l1 nl1 => ?_⟩
            have f1 := same_upd (o := HO.lst [y5]) (xA.gone nl1)
            have hA := hand_keep (o := HO.lst [y5]) hB5 nl1
            have xA := xA.mk_ (o := HO.lst [y5]) nl1
            have g1 : (upd GB l1 (.lst [y5])) l1 = some (.lst [y5]) := upd_same
            have g2 := f1 _ _ g2
            have dcut := dcut.keep f1
            have e5 := e5.keep f1
            have gWA := f1 _ _ gWA
            have upX : Same GA (upd GB l1 (.lst [y5])) := xB.up.trans f1
            generalize upd HB l1 (.lst [y5]) = HC at hA xA ⊢
            generalize upd GB l1 (.lst [y5]) = GC at xA g1 g2 dcut e5 gWA upX
            refine ⟨l2, l1, _, _, rfl, rfl, xA.sub _ _ g2, xA.sub _ _ g1, Nat.le_of_lt (small1000 (by show cv.length + 1 ≤ 1000; omega)), fun Lq nLq => ?_⟩
            have fL := same_upd (o := HO.lst (cv ++ [y5])) (xA.gone nLq)
            have hA := hand_keep (o := HO.lst (cv ++ [y5])) hA nLq
            have xA := xA.mk_ (o := HO.lst (cv ++ [y5])) nLq
            have gL : (upd GC Lq (.lst (cv ++ [y5]))) Lq = some (.lst (cv ++ [y5])) := upd_same
            have allL : DqAll GC (cv ++ [y5]) (dc ++ [d5]) := dcut.app (.cons e5 .nil)
            have allL := allL.keep fL
            have gWA := fL _ _ gWA
            have okL : ∀ d ∈ dc ++ [d5], ItOk d := fun d md => by
              rcases List.mem_append.mp md with md | md
              · exact okc d md
              · rw [List.mem_singleton.mp md]; exact rid_ok r5
            have upE : Same G6 (upd GC Lq (.lst (cv ++ [y5]))) := (up8.trans upS).trans ((f2.trans upX).trans fL)
            generalize dc ++ [d5] = dl at allL okL
            generalize cv ++ [y5] = xl at hA xA gL allL gWA upE ⊢
            generalize upd HC Lq (.lst xl) = HD at hA xA ⊢
            generalize upd GC Lq (.lst xl) = GD at xA gL allL gWA upE
            refine ⟨Lq, rfl, ⟨_, SqL.of (xA.sub _ _ gL)⟩, for_it (walk_list (K := K) (a := Lq) (xs := xl)) (fun i σ H' => ∃ v4 v6 v7 v8 v9 v11 v12 v13 v14 v15 v16, σ = [some (.ref s), some (.ref a), some (.ref W), some (.ref Bt), v4, some (.ref R), v6, v7, v8, v9, some (.ref Sp), v11, v12, v13, v14, v15, v16] ∧ ∃ G', Hand MO H' a c ∧ Ext a H1 H H' G' ∧ Same GD G') ?_ ?_ ?_ ?_⟩
            · exact ⟨_, _, _, _, _, _, _, _, _, _, _, rfl, GD, hA, xA, Same.refl _⟩
            · rintro j σ H' hj ⟨v4, v6, v7, v8, v9, v11, v12, v13, v14, v15, v16, rfl, G', hh, x', up'⟩
              exact SqL.of (x'.sub _ _ (up' _ _ gL))
            · rintro j x σ H' H2' hj ⟨v4, v6, v7, v8, v9, v11, v12, v13, v14, v15, v16, rfl, GE, hE, xE, upE2⟩ y
              obtain ⟨rfl, ex⟩ := y
              obtain ⟨rd, erd, hx⟩ := allL.get ex
              have hx := hx.keep upE2
              have rok := okL rd (List.mem_of_getElem? erd)
              have shd := rok.sh
              have gWE := upE2 _ _ gWA
              have hxH := hx.keep xE.sub
              try dsimp only [gName, tSeq, tAsg, tNext]
              refine ⟨_, rfl, _, rfl, .ref W, x, ws, rd, rfl, ⟨W, rfl, .inl (xE.sub _ _ gWE)⟩, hxH, fun HF sF => ?_⟩
              have hF := hE.same sF
              have xF := xE.pure sF
              have wsame : wordD "row" "value" valueD ws rd = rowW ws rd := rfl
              rw [wsame]
              try dsimp only [gName, tSeq, tAsg, tNext]
              refine ⟨_, rfl, _, rfl, a, c, W, GE, ws, rfl, hF, xF.sub, xF.off, gWE, fun lv HG GG hG xG hlv => ?_⟩
              obtain ⟨dw, hdw, edw⟩ := IntsAt.dq hlv
              obtain ⟨ew1, ew2⟩ := ws_right wok edw
              have hxG := (hx.keep xG.up).keep xG.sub
              refine ⟨_, rfl, lv, x, dw, rd, rfl, hdw.keep xG.sub, hxG, shd.few, fun rv HI sI hrv => ?_⟩
              have nxt : ∀ HJ : Hp, Same HI HJ → ∃ G', Hand MO HJ a c ∧ Ext a H1 H HJ G' ∧ Same GD G' := fun HJ sJ =>
                ⟨GG, (hG.same sI).same sJ, ((xF.trans xG).pure sI).pure sJ, upE2.trans xG.up⟩
              unfold resR at hrv
              rw [ew1] at hrv
              dsimp only at hrv
              rw [ew2] at hrv
              cases er : rowW ws rd with
              | some w =>
                rw [er] at hrv
                dsimp only at hrv
                have shw : Sh (.list [.str w]) := sh_words (fun d md => by rw [List.mem_singleton.mp md]; exact leaf_w (row_word er)) (by show 1 ≤ 3; omega)
                try dsimp only [tNil, tCons, tCB]
                refine rd_repr shw hrv ?_
                refine ⟨_, rfl, rfl, _, rfl, iteF ⟨_, rfl, few (by show 1 ≤ 1000; omega), fun p np => ?_⟩⟩
                try dsimp only [tNil, tCons, tCB]
                refine rd_repr shw (.lst upd_same (.cons (.str w) .nil)) ?_
                exact ⟨rfl, _, rfl, iteNS rfl ⟨_, _, _, _, _, _, _, _, _, _, _, rfl, nxt _ (same_upd np)⟩⟩
              | none =>
                rw [er] at hrv
                dsimp only at hrv
                have dr := deep_row er
                have sht : Sh (rowT rd) := by rw [← dr]; exact shd.self
                try dsimp only [tNil, tCons, tCB]
                refine rd_repr sht hrv ?_
                refine ⟨_, rfl, rfl, _, rfl, iteT ⟨_, rfl, x, rd, rfl, hxG.keep sI, shd.few, ?_, fun v HJ sJ hv => ?_⟩⟩
                · obtain ⟨_, sm⟩ := rok
                  have := sm.dp
                  omega
                rw [dr] at hv
                try dsimp only [tNil, tCons, tCB]
                refine rd_repr sht hv ?_
                exact ⟨rfl, _, rfl, iteNS rfl ⟨_, _, _, _, _, _, _, _, _, _, _, rfl, nxt _ sJ⟩⟩
            · rintro σ H' ⟨v4, v6, v7, v8, v9, v11, v12, v13, v14, v15, v16, rfl, GE, hE, xE, upE2⟩
              exact ⟨_, _, _, _, _, _, _, _, _, _, _, _, rfl, GE, hE, xE, up6.trans (upE.trans upE2)⟩
      · rintro σ H' ⟨v4, v6, v7, v8, v9, v10, v11, v12, v13, v14, v15, v16, rfl, G6, h6, x6, up6⟩
        have gW := up6 _ _ gW
        have gB := up6 _ _ gB
        have gR := up6 _ _ gR
        have all := all.keep up6
        have allBt := allBt.keep up6
        try dsimp only [gName, tSeq, tAsg, tNext]
        refine ⟨_, rfl, _, rfl, a, c, G6, rfl, h6, x6.sub, x6.off, fun y8 d8 H7 G7 h7 x7 hy8 rd8 => ?_⟩
        have xx := x6.trans x7
        have dW : Dq H7 (.ref W) (.list (ws.map PyData.int)) := .lst (xx.sub _ _ (x7.up _ _ gW)) (dqs_ints ws)
        obtain ⟨ew1, ew2⟩ := ws_right (dw := .list (ws.map PyData.int)) wok rfl
        refine ⟨.ref W, y8, _, d8, rfl, dW, hy8.keep x7.sub, (rid_ok rd8).sh.few, fun rv r H8 s8 st hrv => ?_⟩
        unfold ResS at st
        rw [ew1] at st
        dsimp only at st
        rw [ew2] at st
        unfold StoreEnd at st
        rw [rid_store rd8] at st
        dsimp only at st
        subst st
        have shm : Sh (.list [.int 0, .str "many"]) := two_sh (by omega) (by omega) (by decide +kernel)
        try dsimp only [tNil, tCons, tCB]
        refine rd_repr shm hrv ?_
        refine ⟨few (by show 2 ≤ 1000; omega), fun p np => ?_⟩
        try dsimp only [tNil, tCons, tCB]
        refine rd_repr shm (.lst upd_same (.cons (.int 0) (.cons (.str _) .nil))) ?_
        refine ⟨rfl, _, rfl, iteNS rfl ?_⟩
        have s9 := s8.trans (same_upd (o := HO.lst [V.int 0, V.str "many"]) np)
        have h9 := h7.same s9
        have x9 := xx.pure s9
        generalize upd H8 p (.lst [V.int 0, V.str "many"]) = H9 at h9 x9 s9 ⊢
        have gB := x7.up _ _ gB
        have gR := x7.up _ _ gR
        have all := all.keep x7.up
        have allBt := allBt.keep x7.up
        have dB : Dq H9 (.ref Bt) (.list bd) := (Dq.lst gB allBt).keep x9.sub
        have dR : Dq H9 (.ref R) (.list ds) := (Dq.lst gR all).keep x9.sub
        have shB := tiny_list tb (by omega)
        have shR := list_sh itd n61
        have eW : resW (.list bd) = .list [.int i0] := by unfold resW; rw [bad0]
        obtain ⟨b0, b1⟩ := wRes_bound (sh_items shB) bad0
        have shw : Sh (.list [.int i0, .str "widths"]) := two_sh b0 b1 (by decide +kernel)
        try dsimp only [gName, tSeq, tAsg, tNext]
        refine ⟨_, rfl, .ref Bt, .list bd, rfl, dB, shB.few, fun dv HA sA hdv => ?_⟩
        rw [eW] at hdv
        cases hdv with
        | @lst p7 xs7 _ hp7 hall7 =>
        match xs7, hall7 with
        | [_], .cons (.int _) .nil =>
        try dsimp only [gName, tSeq, tAsg, tNext]
        refine ⟨_, rfl, _, rfl, .ref Bt, .ref R, .list bd, .list ds, rfl, dB.keep sA, dR.keep sA, shR.few, fun rv r HB sB st hrv => ?_⟩
        unfold ResS at st
        rw [bad0] at st
        dsimp only at st
        subst st
        try dsimp only [tNil, tCons, tCB]
        refine rd_repr shw hrv ?_
        have hp8 := sB _ _ hp7
        refine ⟨_, rfl, few (by show 1 ≤ 1000; omega), fun l nl => ?_⟩
        have sl := same_upd (o := HO.lst [V.str "widths"]) nl
        refine ⟨p7, l, _, _, rfl, rfl, sl _ _ hp8, upd_same, few (by show 2 ≤ 1000; omega), fun m2 nm2 => ?_⟩
        have sm2 := same_upd (o := HO.lst ([V.int i0] ++ [V.str "widths"])) nm2
        try dsimp only [tNil, tCons, tCB]
        refine rd_repr shw (.lst upd_same (.cons (.int i0) (.cons (.str _) .nil))) ?_
        refine ⟨rfl, _, rfl, iteNS rfl ?_⟩
        have sC := sB.trans (sl.trans sm2)
        have hp9 := sC _ _ hp7
        generalize upd (upd HB l (.lst [V.str "widths"])) m2 (.lst ([V.int i0] ++ [V.str "widths"])) = HC at sC hp9 ⊢
        refine ⟨_, rfl, .ref Bt, .int 7, .list bd, .int 7, rfl, (dB.keep sA).keep sC, .int 7, (by rw [fewD]), fun rv HD sD hrv => ?_⟩
        unfold resR at hrv
        rw [bad0] at hrv
        try dsimp only [tNil, tCons, tCB]
        refine rd_repr shw hrv ?_
        have hp8 := sD _ _ hp9
        refine ⟨_, rfl, few (by show 1 ≤ 1000; omega), fun l nl => ?_⟩
        have sl := same_upd (o := HO.lst [V.str "widths"]) nl
        refine ⟨p7, l, _, _, rfl, rfl, sl _ _ hp8, upd_same, few (by show 2 ≤ 1000; omega), fun m2 nm2 => ?_⟩
        have sm2 := same_upd (o := HO.lst ([V.int i0] ++ [V.str "widths"])) nm2
        try dsimp only [tNil, tCons, tCB]
        refine rd_repr shw (.lst upd_same (.cons (.int i0) (.cons (.str _) .nil))) ?_
        refine ⟨rfl, _, rfl, iteNS rfl ?_⟩
        have sE := (sA.trans sC).trans (sD.trans (sl.trans sm2))
        have hE := h9.same sE
        have xE := x9.pure sE
        generalize upd (upd HD l (.lst [V.str "widths"])) m2 (.lst ([V.int i0] ++ [V.str "widths"])) = HE at sE hE xE ⊢
        have e10 : (10 : Int) ^ (10 : Int).toNat = 10000000000 := by decide
        try dsimp only [gName, tSeq, tAsg, tNext]
        refine tk hE xE rfl (fun R h => ⟨_, _, rfl, rfl, ⟨by decide, by decide, by decide⟩, h⟩) (by rw [e10]; omega) (by rw [e10]; omega) fun lw HF w0 w1 hF xF sF => ?_
        rw [e10] at w1
        refine ⟨_, _, rfl, rfl, ⟨by decide, by decide, by decide⟩, ?_⟩
        refine ⟨_, _, rfl, rfl, .inl ⟨by decide, by decide⟩, ⟨_, _, rfl, rfl, ?_⟩⟩
        try dsimp only [gName, tSeq, tAsg, tNext]
        generalize lw - 5 * (10 : Int) ^ (9 : Int).toNat = low
        refine .inl ?_
        refine ⟨_, rfl, _, rfl, _, _, rfl, rfl, _, rfl, _, _, rfl, rfl, _, rfl, a, c, G7, rfl, hF, xF.sub, xF.off, fun y1 d1 HG GG hG xG hy1 _ => ?_⟩
        refine ⟨_, rfl, a, c, GG, rfl, hG, xG.sub, xG.off, fun y2 d2 HI GI hI xI hy2 _ => ?_⟩
        have xZ := (xF.trans xG).trans xI
        have hRI := xZ.sub _ _ (xI.up _ _ (xG.up _ _ gR))
        have hy1 := (hy1.keep xI.up).keep xI.sub
        have hy2 := hy2.keep xI.sub
        refine ⟨_, rfl, few (by show 1 ≤ 1000; omega), fun l9 n9 => ?_⟩
        have s9' := same_upd (o := HO.lst [V.int low]) n9
        have e9' : Dq (upd HI l9 (.lst [V.int low])) (.ref l9) (.list [.int low]) := .lst upd_same (.cons (.int low) .nil)
        have hy1 := hy1.keep s9'
        have hy2 := hy2.keep s9'
        have hRI := s9' _ _ hRI
        generalize upd HI l9 (.lst [V.int low]) = HJ at hy1 hy2 hRI e9' ⊢
        refine ⟨few (by show 9 ≤ 1000; omega), fun T2 nT2 => ?_⟩
        have sT := same_upd (o := HO.lst [V.int low, V.int (low - 1), V.int (low + 7), y1, y2, V.bl true, V.str "1", V.non, .ref l9]) nT2
        have hT2 : (upd HJ T2 (.lst [V.int low, V.int (low - 1), V.int (low + 7), y1, y2, V.bl true, V.str "1", V.non, .ref l9])) T2 = some (.lst [V.int low, V.int (low - 1), V.int (low + 7), y1, y2, V.bl true, V.str "1", V.non, .ref l9]) := upd_same
        have allT : DqAll HJ [V.int low, V.int (low - 1), V.int (low + 7), y1, y2, V.bl true, V.str "1", V.non, .ref l9] [.int low, .int (low - 1), .int (low + 7), d1, d2, .bool true, .str "1", .none, .list [.int low]] := .cons (.int _) (.cons (.int _) (.cons (.int _) (.cons hy1 (.cons hy2 (.cons (.bl _) (.cons (.str _) (.cons .non (.cons e9' .nil))))))))
        have allT := allT.keep sT
        have hRI := sT _ _ hRI
        generalize [PyData.int low, .int (low - 1), .int (low + 7), d1, d2, .bool true, .str "1", .none, .list [.int low]] = dT at allT
        generalize [V.int low, V.int (low - 1), V.int (low + 7), y1, y2, V.bl true, V.str "1", V.non, .ref l9] = xT at hT2 allT hRI ⊢
        generalize upd HJ T2 (.lst xT) = HK at hT2 allT hRI ⊢
        refine ⟨T2, rfl, ⟨_, SqL.of hT2⟩, for_it (walk_list (K := K) (a := T2) (xs := xT)) (fun i σ H' => ∃ v4 v6 v7 v9 v10 v11 v12 v13 v14 v15 v16, σ = [some (.ref s), some (.ref a), some (.ref W), some (.ref Bt), v4, some (.ref R), v6, v7, some (.int low), v9, v10, v11, v12, v13, v14, v15, v16] ∧ Same HK H') ?_ ?_ ?_ ?_⟩
        · exact ⟨_, _, _, _, _, _, _, _, _, _, _, rfl, Same.refl _⟩
        · rintro j σ H' hj ⟨v4, v6, v7, v9, v10, v11, v12, v13, v14, v15, v16, rfl, up⟩
          exact SqL.of (up _ _ hT2)
        · rintro j x σ H' H2' hj ⟨v4, v6, v7, v9, v10, v11, v12, v13, v14, v15, v16, rfl, up⟩ y
          obtain ⟨rfl, ex⟩ := y
          obtain ⟨td, etd, hx⟩ := allT.get ex
          have hx := hx.keep up
          have e1 : decide (valueV x = valueD td) = true := decide_eq_true hx.value
          have e2 : decide (wholeV x none none = intD td) = true := decide_eq_true hx.whole
          try dsimp only [gName, tSeq, tAsg, tNext]
          refine ⟨_, rfl, x, td, rfl, hx, ?_⟩
          refine ⟨_, rfl, x, _, rfl, hx.ty, _, rfl, x, td, rfl, hx, valueV x, valueD td, rfl, _, rfl, ?_⟩
          rw [e1]
          refine iteF ⟨_, rfl, x, _, none, none, rfl, hx.ty, _, rfl, wholeV x none none, intD td, rfl, _, rfl, ?_⟩
          rw [e2]
          refine iteF ?_
          have sq : decide (seqT (tyD td) = (seqOf td).isSome) = true := decide_eq_true (seqT_d td)
          cases hi : intD td with
          | false =>
            have no : ∀ l h, wholeV x l h = false := fun l h => by cases hx <;> first | rfl | cases hi
            have en : ∀ l h, decide (wholeV x l h = false) = true := fun l h => decide_eq_true (no l h)
            refine ⟨_, rfl, _, rfl, x, _, some low, none, rfl, hx.ty, _, rfl, false, rfl, iteF ⟨wholeV x (some low) none, false, rfl, _, rfl, ?_⟩⟩
            rw [en]
            refine iteF ⟨_, rfl, _, rfl, _, rfl, _, _, rfl, rfl, x, _, some low, some (low + 6), rfl, hx.ty, _, rfl, false, rfl, iteF ⟨wholeV x (some low) (some (low + 6)), false, rfl, _, rfl, ?_⟩⟩
            rw [en]
            refine iteF ?_
            refine ⟨_, rfl, _, rfl, rfl, rfl, x, _, none, some low, rfl, hx.ty, _, rfl, false, rfl, iteF ⟨wholeV x none (some low), false, rfl, _, rfl, ?_⟩⟩
            rw [en]
            refine iteF ⟨_, rfl, x, _, rfl, hx.ty, fun H3 s3 => ⟨_, rfl, x, td, rfl, hx.keep s3, seqT (tyD td), (seqOf td).isSome, rfl, _, rfl, ?_⟩⟩
            rw [sq]
            exact iteF ⟨_, _, _, _, _, _, _, _, _, _, _, rfl, up.trans s3⟩
          | true =>
            cases td with
            | int n =>
              cases hx with
              | int _ =>
              have hx : Dq H2' (.int n) (.int n) := .int n
              refine ⟨_, rfl, _, rfl, .int n, _, some low, none, rfl, hx.ty, _, rfl, true, rfl, iteT ⟨_, rfl, _, rfl, _, _, rfl, rfl, wholeV (.int n) (some low) none, decide (low ≤ n), rfl, _, rfl, ?_⟩⟩
              rw [show decide (wholeV (.int n) (some low) none = decide (low ≤ n)) = true from decide_eq_true (Bool.and_true _)]
              refine iteF ⟨_, rfl, _, rfl, _, rfl, _, _, rfl, rfl, .int n, _, some low, some (low + 6), rfl, hx.ty, _, rfl, true, rfl, iteT ⟨_, rfl, _, rfl, _, _, rfl, rfl, decide (low ≤ n), rfl, ?_⟩⟩
              have two : wholeV (.int n) (some low) (some (low + 6)) = (decide (low ≤ n) && decide (n ≤ low + 6)) := rfl
              refine ite2 (fun z => ?_) (fun z => ?_)
              · refine ⟨_, rfl, _, _, rfl, rfl, _, _, rfl, rfl, wholeV (.int n) (some low) (some (low + 6)), decide (n ≤ low + 6), rfl, _, rfl, ?_⟩
                rw [show decide (wholeV (.int n) (some low) (some (low + 6)) = decide (n ≤ low + 6)) = true from decide_eq_true (by rw [two, z, Bool.true_and])]
                refine iteF ?_
                refine ⟨_, rfl, _, rfl, rfl, rfl, .int n, _, none, some low, rfl, hx.ty, _, rfl, true, rfl, iteT ⟨_, rfl, _, rfl, _, _, rfl, rfl, wholeV (.int n) none (some low), decide (n ≤ low), rfl, _, rfl, ?_⟩⟩
                rw [show decide (wholeV (.int n) none (some low) = decide (n ≤ low)) = true from decide_eq_true (Bool.true_and _)]
                refine iteF ⟨_, rfl, .int n, _, rfl, hx.ty, fun H3 s3 => ⟨_, rfl, .int n, .int n, rfl, hx.keep s3, seqT (tyD (.int n)), (seqOf (.int n)).isSome, rfl, _, rfl, ?_⟩⟩
                rw [sq]
                exact iteF ⟨_, _, _, _, _, _, _, _, _, _, _, rfl, up.trans s3⟩
              · refine ⟨wholeV (.int n) (some low) (some (low + 6)), false, rfl, _, rfl, ?_⟩
                have z2 : decide (low ≤ n) = false := by cases q : decide (low ≤ n) <;> first | rfl | exact absurd q z
                rw [show decide (wholeV (.int n) (some low) (some (low + 6)) = false) = true from decide_eq_true (by rw [two, z2, Bool.false_and])]
                refine iteF ?_
                refine ⟨_, rfl, _, rfl, rfl, rfl, .int n, _, none, some low, rfl, hx.ty, _, rfl, true, rfl, iteT ⟨_, rfl, _, rfl, _, _, rfl, rfl, wholeV (.int n) none (some low), decide (n ≤ low), rfl, _, rfl, ?_⟩⟩
                rw [show decide (wholeV (.int n) none (some low) = decide (n ≤ low)) = true from decide_eq_true (Bool.true_and _)]
                refine iteF ⟨_, rfl, .int n, _, rfl, hx.ty, fun H3 s3 => ⟨_, rfl, .int n, .int n, rfl, hx.keep s3, seqT (tyD (.int n)), (seqOf (.int n)).isSome, rfl, _, rfl, ?_⟩⟩
                rw [sq]
                exact iteF ⟨_, _, _, _, _, _, _, _, _, _, _, rfl, up.trans s3⟩
            | _ => cases hi
        · rintro σ H' ⟨v4, v6, v7, v9, v10, v11, v12, v13, v14, v15, v16, rfl, up⟩
          have hR := up _ _ hRI
          refine ⟨_, rfl, R, ys, rfl, .inl ⟨SqL.of hR, fun t nt => ?_⟩⟩
          refine ⟨.ref t, "tuple", rfl, .tup upd_same, fun H3 s3 => ⟨_, _, rfl, rfl, _, rfl, iteT ?_⟩⟩
          refine ⟨.str "", "str", rfl, .str _, fun H4 s4 => ⟨_, _, rfl, rfl, _, rfl, iteT ?_⟩⟩
          refine fun p np => ⟨.ref p, "dict", rfl, .dK upd_same, fun H5 s5 => ⟨_, _, rfl, rfl, k H5⟩⟩
end
end My
set_option Elab.async false
set_option linter.all false
set_option maxRecDepth 100000
set_option maxHeartbeats 4000000
namespace MyH
open PySem PySem.Spec PyProof.Rows L2 He
/-! ### a Hook of any look at the written part -/
abbrev Al : Type := Bool × AlD
/-- what the facts want of the heap, by paths: the module's names, their functions' code and defaults, the classes' own names, these names' functions' code and defaults -/
def refsN (g : Addr → Option Obj) (a : Addr) : List Addr := match g a with
  | some ⟨_, _, .dict es _, _⟩ => es.toList.flatMap fun e => refV e.val
  | _ => []
def refsF (g : Addr → Option Obj) (a : Addr) : List Addr := match g a with
  | some ⟨_, _, .func fd, _⟩ => refV fd.code ++ refV fd.defaults
  | some ⟨_, _, .cls cd, _⟩ => [cd.ns]
  | _ => []
def asM (g : Addr → Option Obj) : List Addr :=
  let names := refsN g mainGlobals
  let parts := names.flatMap (refsF g)
  let own := parts.flatMap (refsN g)
  names ++ parts ++ own ++ own.flatMap (refsF g) ++ [mainGlobals, PySem.cStatics]
def obsM (F : PySem.W.Frag → Bool) (fn : List DefD) (K : PySem.W.Frag) : Al := (F K, obsD [] fn K)
def valM (fn : List DefD) : Al := (true, valD fn)
def SaysM (F : PySem.W.Frag → Bool) (fn : List DefD) (K : PySem.W.Frag) : Prop := obsM F fn K = valM fn
def obsMG (F : PySem.W.Frag → Bool) (fn : List DefD) (g : Addr → Option Obj) : Al := obsM F fn (frG g (asM g))
def hookM (F : PySem.W.Frag → Bool) (fn : List DefD) : PySem.W.Hook where
  α := Al
  obs := fun s => obsMG F fn s.heap.get?
  val := fun _ => valM fn
  says := fun _ h => ∃ K : PySem.W.Frag, K.In h ∧ SaysM F fn K
  of := fun _ _ z => Exists.intro _ (And.intro frG_in z)
  keeps := fun _ _ _ z k => Exists.elim z fun K y => ⟨K, PySem.W.Frag.In.keeps y.1 k, y.2⟩
theorem obsMG_eq {F : PySem.W.Frag → Bool} {fn : List DefD} {g : Addr → Option Obj} {s : Shared} (h : ∀ a, g a = s.heap.get? a) : obsMG F fn g = (hookM F fn).obs s := by
  obtain rfl : g = s.heap.get? := funext h
  rfl
section
variable {F : PySem.W.Frag → Bool} {fn : List DefD} {K : PySem.W.Frag}
theorem SaysM.fact (c : SaysM F fn K) : F K = true := congrArg (fun z : Al => z.1) c
theorem SaysM.def_ (c : SaysM F fn K) (i : Nat) {d : DefD} (h : fn[i]? = some d := by rfl) : ∃ fd, FunD K d.name d.qual d.params d.body d.scope (d.dvs K) (d.kws K) (fAd K d.at_) fd :=
  He.SaysD.def_ (fa := []) (show SaysD [] fn K from congrArg (fun z : Al => z.2) c) i h
end
/-- without defaults it is a def of the short words -/
theorem fun_of {K : PySem.W.Frag} {x qual : Str} {st : Stmt} {f : Addr} {fd : FuncData} {kws : List (Str × V)} (F : FunD K x qual (defArgs st) (defBody st) (defScope st) [] kws f fd) : L2.Fun K x qual st f fd := by
  obtain ⟨c1, c2, dv, kv, c3, c4, c5, c6, c7, c8, rfl, stands, coded, dfl, _⟩ := F.ex
  have nodfl : dv = .none := dfl.elim (fun z => z.2) fun z => absurd rfl z.1
  subst nodfl
  exact ⟨⟨c1, c2, kv, c3, c4, c5, c6, c7, c8, rfl, stands, coded⟩, F.kp⟩
/-! ### a list of numbers, reckoned once -/
def natsF : List Nat → (List Nat → Bool) → Bool
  | [], k => k []
  | a :: r, k => HandSHeadRun.frNat a fun a' => natsF r fun r' => k (a' :: r')
theorem natsF_eq : ∀ (l : List Nat) (k : List Nat → Bool), natsF l k = k l
  | [], _ => rfl
  | a :: r, k => by
    show HandSHeadRun.frNat a (fun a' => natsF r fun r' => k (a' :: r')) = k (a :: r)
    rw [HandSHeadRun.frNat_eq, natsF_eq r]
/-! ### an exception class of the program's own, D the address of its base class of the program's own -/
def slB (sl : List (Option Value)) : Bool := match sl with
  | [_, _, _, _, some (.builtin z), _] => decide (z = "ValueError.__new__")
  | _ => false
theorem slB_ok {sl : List (Option Value)} (h : slB sl = true) : ∃ k0 k1 k2 k3 k5, sl = [k0, k1, k2, k3, some (.builtin "ValueError.__new__"), k5] := by
  unfold slB at h
  split at h
  · rename_i k0 k1 k2 k3 z k5
    exact ⟨k0, k1, k2, k3, k5, by rw [of_decide_eq_true h]⟩
  · cases h
def fourC (K : PySem.W.Frag) (C : Addr) (bm : List Value) : Bool := match K.lookup C with
  | some ⟨.type t, dd, .cls ⟨nm, bs, mro, N, q, hd, sn, sub, ab, col, del⟩, sl⟩ => decide (t = "type") && (decide (mro = .ref C :: bm) && (hd && (!del && slB sl.toList)))
  | _ => false
theorem fourC_ok {K : PySem.W.Frag} {C : Addr} {bm : List Value} (h : fourC K C bm = true) : ∃ nm q N bs sn sub ab col dd k0 k1 k2 k3 k5, K.lookup C = some (excClassObj nm q C N bs bm true sn sub ab col dd k0 k1 k2 k3 k5 "ValueError.__new__") := by
  unfold fourC at h
  cases q : K.lookup C with
  | none =>
    rw [q] at h
    cases h
  | some o =>
    rw [q] at h
    obtain ⟨oc, od, dt, sl⟩ := o
    cases oc with
    | type t =>
      cases dt with
      | cls cd =>
        obtain ⟨nm, bs, mro, N, qn, hd, sn, sub, ab, col, del⟩ := cd
        obtain ⟨h1, h⟩ := ba (show (decide (t = "type") && (decide (mro = .ref C :: bm) && (hd && (!del && slB sl.toList)))) = true from h)
        obtain ⟨h2, h⟩ := ba h
        obtain ⟨h3, h⟩ := ba h
        obtain ⟨h4, h5⟩ := ba h
        have e1 := of_decide_eq_true h1
        have e2 := of_decide_eq_true h2
        have e4 : del = false := by
          cases del with
          | false => rfl
          | true => cases h4
        subst e1 e2 h3 e4
        obtain ⟨l⟩ := sl
        obtain ⟨k0, k1, k2, k3, k5, rfl⟩ := slB_ok h5
        exact ⟨nm, qn, N, bs, sn, sub, ab, col, od, k0, k1, k2, k3, k5, rfl⟩
      | _ => cases h
    | _ => cases dt <;> cases h
def veTl : List Value := [.type "ValueError", .type "Exception", .type "BaseException", .type "object"]
def isS (a b : Option Value) : Bool := decide (a = b)
/-- what stands of the class at C, named x, under D (its own names fs are no attributes of the class) -/
def exB (K : PySem.W.Frag) (D C : Addr) (x : Str) (fs : List Str) : Bool :=
  eqO (PySem.W.nsIn K mainGlobals x) (some (some (.ref C))) && (fourC K C (.ref D :: veTl) && (eqO (PySem.W.findIn K (.ref C) "__setattr__") (some (some (.builtin "object.__setattr__"))) && (decide (PySem.W.subIn K (.ref C) (.type "BaseException") = some true) &&
  (isS (PySem.W.typeIn K (.ref C)) (some (.type "type")) && (PySem.W.keepIn K (.ref C) && (eqO (PySem.W.findIn K (.ref C) "__getattribute__") (some (some (.builtin "BaseException.__getattribute__"))) && (eqO (PySem.W.findIn K (.ref C) "__getattr__") (some none) &&
  (eqO (PySem.W.findIn K (.ref C) "__class__") (some (some (.builtin "object.__class__"))) && (decide (PySem.W.mroIn K C (.type "object") = some true) && (fs.all (fun f => eqO (PySem.W.findIn K (.ref C) f) (some none)) &&
  (eqO (PySem.W.findIn K (.ref C) "__init__") (some (some (.ref (ma K C "__init__")))) && (isS (PySem.W.typeIn K (.ref (ma K C "__init__"))) (some (.type "function")) && decide (PySem.W.kitOne K (.ref C) (.type "ValueError") = some true)))))))))))))
structure ExBo (K : PySem.W.Frag) (D C : Addr) (x : Str) (fs : List Str) : Prop where
  glo : PySem.W.nsIn K mainGlobals x = some (some (.ref C))
  o : OexC K C
  mro : ∃ cd, PySem.W.clsIn K C = some cd ∧ cd.mro = .ref C :: .ref D :: veTl ∧ cd.hasDict = true
  atr : PySem.W.findIn K (.ref C) "__getattribute__" = some (some (.builtin "BaseException.__getattribute__"))
  atg : PySem.W.findIn K (.ref C) "__getattr__" = some none
  cl : PySem.W.findIn K (.ref C) "__class__" = some (some (.builtin "object.__class__"))
  ob : PySem.W.mroIn K C (.type "object") = some true
  nf : ∀ f ∈ fs, PySem.W.findIn K (.ref C) f = some none
  i : PySem.W.findIn K (.ref C) "__init__" = some (some (.ref (ma K C "__init__")))
  ti : PySem.W.typeIn K (.ref (ma K C "__init__")) = some (.type "function")
  ve : PySem.W.kitOne K (.ref C) (.type "ValueError") = some true
theorem exB_ok {K : PySem.W.Frag} {D C : Addr} {x : Str} {fs : List Str} (h : exB K D C x fs = true) : ExBo K D C x fs := by
  obtain ⟨h1, h⟩ := ba h
  obtain ⟨h2, h⟩ := ba h
  obtain ⟨h3, h⟩ := ba h
  obtain ⟨h4, h⟩ := ba h
  obtain ⟨h5, h⟩ := ba h
  obtain ⟨h6, h⟩ := ba h
  obtain ⟨h7, h⟩ := ba h
  obtain ⟨h8, h⟩ := ba h
  obtain ⟨h9, h⟩ := ba h
  obtain ⟨h10, h⟩ := ba h
  obtain ⟨h11, h⟩ := ba h
  obtain ⟨h12, h⟩ := ba h
  obtain ⟨h13, h14⟩ := ba h
  obtain ⟨nm, q, N, bs, sn, sub, ab, col, dd, k0, k1, k2, k3, k5, e⟩ := fourC_ok h2
  have hc : PySem.W.clsIn K C = some { name := nm, bases := bs, mro := .ref C :: .ref D :: veTl, ns := N, qualname := q, hasDict := true, slotNames := sn, subclasses := sub, abstract := ab, collection := col, hasDel := false } := by
    unfold PySem.W.clsIn
    rw [e]
  exact ⟨eqO_ok h1, ⟨⟨nm, q, N, bs, _, sn, sub, ab, col, dd, k0, k1, k2, k3, k5, e, (show PySem.HandSPX.refsVE veTl = true by decide +kernel)⟩, eqO_ok h3, of_decide_eq_true h4, of_decide_eq_true h5, h6⟩, ⟨_, hc, rfl, rfl⟩, eqO_ok h7, eqO_ok h8, eqO_ok h9, of_decide_eq_true h10,
    fun f hf => eqO_ok (List.all_eq_true.mp h11 f hf), eqO_ok h12, of_decide_eq_true h13, of_decide_eq_true h14⟩
/-- isinstance between two of these -/
theorem ExBo.kit {K : PySem.W.Frag} {D C C' : Addr} {x x' : Str} {fs fs' : List Str} (h : ExBo K D C x fs) (h' : ExBo K D C' x' fs') (hD : C' ≠ D) : PySem.W.kitOne K (.ref C) (.ref C') = some (decide (C = C')) := by
  by_cases e : C = C'
  · subst e
    rw [decide_eq_true rfl]
    exact if_pos (beq_self_eq_true (Value.ref C))
  · rw [decide_eq_false e]
    obtain ⟨cd, hc, hm, _⟩ := h.mro
    obtain ⟨cd', hc', _⟩ := h'.mro
    have n1 : ((Value.ref C == Value.ref C') = true) ↔ False := by
      constructor
      · intro z
        exact e (Value.ref.inj (beq_iff_eq.mp z))
      · exact False.elim
    unfold PySem.W.kitOne PySem.W.kitCls
    rw [if_neg (fun z => n1.mp z)]
    dsimp only
    rw [if_pos (by rw [hc', h'.o.tyC]; rfl)]
    show ((PySem.W.clsIn K C).bind fun cd => if cd.mro.isEmpty then none else some (cd.mro.contains (Value.ref C'))) = _
    rw [hc, Option.bind_some, hm]
    have n2 : (Value.ref C' == Value.ref C) = false := by
      apply Bool.eq_false_iff.mpr
      intro z
      exact e (Value.ref.inj (beq_iff_eq.mp z)).symm
    have n3 : (Value.ref C' == Value.ref D) = false := by
      apply Bool.eq_false_iff.mpr
      intro z
      exact hD (Value.ref.inj (beq_iff_eq.mp z))
    have n4 : veTl.contains (Value.ref C') = false := rfl
    have n5 : (Value.ref C :: Value.ref D :: veTl).contains (Value.ref C') = false := by
      rw [List.contains_cons, List.contains_cons, n2, n3, n4]
      rfl
    rw [n5]
    rfl
/-- .. and the base -/
theorem ExBo.kitD {K : PySem.W.Frag} {D C : Addr} {x : Str} {fs : List Str} (h : ExBo K D C x fs) (hD : C ≠ D) (hc' : PySem.W.isClsIn K D = true) (ht : PySem.W.typeIn K (.ref D) = some (.type "type")) : PySem.W.kitOne K (.ref C) (.ref D) = some true := by
  obtain ⟨cd, hc, hm, _⟩ := h.mro
  unfold PySem.W.kitOne PySem.W.kitCls
  rw [if_neg (fun z => hD (Value.ref.inj (beq_iff_eq.mp z)))]
  dsimp only
  have hc2 : (PySem.W.clsIn K D).isSome = true := hc'
  rw [if_pos (by rw [hc2, ht]; rfl)]
  show ((PySem.W.clsIn K C).bind fun cd => if cd.mro.isEmpty then none else some (cd.mro.contains (Value.ref D))) = _
  rw [hc, Option.bind_some, hm]
  have n5 : (Value.ref C :: Value.ref D :: veTl).contains (Value.ref D) = true := by
    rw [List.contains_cons, List.contains_cons, beq_self_eq_true (Value.ref D)]
    simp
  rw [n5]
  rfl
/-! ### the base class D itself -/
def deB (K : PySem.W.Frag) (D : Addr) (x : Str) : Bool :=
  eqO (PySem.W.nsIn K mainGlobals x) (some (some (.ref D))) && (PySem.W.readsIn K D (.type "type") && (eqO (PySem.W.specialIn K (.ref D) "__getattribute__") (some (some (.builtin "type.__getattribute__"))) && ((match PySem.W.findCls K (.ref D) (.type "type") "__init__" with
    | some (.val (.ref a)) => decide (a = ma K D "__init__")
    | _ => false) && (PySem.W.isClsIn K D && (isS (PySem.W.typeIn K (.ref D)) (some (.type "type")) && ((match PySem.W.findCls K (.type "ValueError") (.type "type") "__init__" with
    | some (.val (.builtin z)) => decide (z = "ValueError.__init__")
    | _ => false) && (eqO (PySem.W.specialIn K (.builtin "object.__class__") "__get__") (some (some (.builtin "getset_descriptor.__get__"))) && decide (PySem.W.takesIn K (.builtin "object.__class__") = some true))))))))
structure DeBo (K : PySem.W.Frag) (D : Addr) (x : Str) : Prop where
  glo : PySem.W.nsIn K mainGlobals x = some (some (.ref D))
  rd : ClX.CRead K D (.type "type")
  fc : PySem.W.findCls K (.ref D) (.type "type") "__init__" = some (.val (.ref (ma K D "__init__")))
  ic : PySem.W.isClsIn K D = true
  ty : PySem.W.typeIn K (.ref D) = some (.type "type")
  vV : PySem.W.findCls K (.type "ValueError") (.type "type") "__init__" = some (.val (.builtin "ValueError.__init__"))
  gt : PySem.W.specialIn K (.builtin "object.__class__") "__get__" = some (some (.builtin "getset_descriptor.__get__"))
  tk : PySem.W.takesIn K (.builtin "object.__class__") = some true
theorem deB_ok {K : PySem.W.Frag} {D : Addr} {x : Str} (h : deB K D x = true) : DeBo K D x := by
  obtain ⟨h1, h⟩ := ba h
  obtain ⟨h2, h⟩ := ba h
  obtain ⟨h3, h⟩ := ba h
  obtain ⟨h4, h⟩ := ba h
  obtain ⟨h5, h⟩ := ba h
  obtain ⟨h6, h⟩ := ba h
  obtain ⟨h7, h⟩ := ba h
  obtain ⟨h8, h9⟩ := ba h
  refine ⟨eqO_ok h1, ⟨h2, eqO_ok h3⟩, ?_, h5, of_decide_eq_true h6, ?_, eqO_ok h8, of_decide_eq_true h9⟩
  · split at h4
    · rename_i a e
      rw [e, of_decide_eq_true h4]
    · cases h4
  · split at h7
    · rename_i z e
      rw [e, of_decide_eq_true h7]
    · cases h7
theorem ExBo.t {K : PySem.W.Frag} {D C : Addr} {x y : Str} {fs : List Str} (h : ExBo K D C x fs) (d : DeBo K D y) : My.ExT K C := by
  obtain ⟨cd, hc, _, hh⟩ := h.mro
  exact ⟨h.o, h.atr, h.atg, by unfold PySem.W.isClsIn; rw [hc]; rfl, by unfold PySem.W.hasDictIn; rw [hc]; exact hh, h.cl, d.gt, d.tk, h.ob⟩
/-! ### a whole family of them -/
def nodB : List Nat → Bool
  | [] => true
  | a :: r => r.all (fun b => !Nat.beq a b) && nodB r
def famB (K : PySem.W.Frag) (D : Addr) : List Addr → List (Str × List Str) → Bool
  | [], [] => true
  | C :: Cs, p :: ps => exB K D C p.1 p.2 && famB K D Cs ps
  | _, _ => false
def famAll (K : PySem.W.Frag) (y : Str) (tab : List (Str × List Str)) : Bool := natsF ((y :: tab.map (·.1)).map (ga K)) fun As => match As with
  | D :: Cs => nodB (D :: Cs) && (deB K D y && famB K D Cs tab)
  | [] => false
theorem nodB_at : ∀ {l : List Nat}, nodB l = true → ∀ {i j : Nat} {a b : Nat}, l[i]? = some a → l[j]? = some b → i < j → a ≠ b
  | [], _, i, j, a, b, e, _, _ => by simp at e
  | x :: r, h, 0, j + 1, a, b, e1, e2, _ => by
    obtain ⟨h1, h2⟩ := ba (show (r.all (fun b => !Nat.beq x b) && nodB r) = true from h)
    have ea : x = a := Option.some.inj e1
    subst ea
    have hb := List.all_eq_true.mp h1 b (List.mem_of_getElem? e2)
    intro z
    subst z
    simp at hb
  | x :: r, h, i + 1, j + 1, a, b, e1, e2, l => by
    obtain ⟨h1, h2⟩ := ba (show (r.all (fun b => !Nat.beq x b) && nodB r) = true from h)
    exact nodB_at h2 (i := i) (j := j) e1 e2 (by omega)
  | x :: r, h, i, 0, a, b, e1, e2, l => by omega
theorem famB_at {K : PySem.W.Frag} {D : Addr} : ∀ {Cs : List Addr} {ps : List (Str × List Str)}, famB K D Cs ps = true → ∀ {i : Nat} {p : Str × List Str} {C : Addr}, ps[i]? = some p → Cs[i]? = some C → ExBo K D C p.1 p.2
  | [], [], _, i, p, C, e, _ => by simp at e
  | C :: Cs, p :: ps, h, 0, q, C', e1, e2 => by
    obtain ⟨h1, h2⟩ := ba (show (exB K D C p.1 p.2 && famB K D Cs ps) = true from h)
    have e3 : p = q := Option.some.inj e1
    have e4 : C = C' := Option.some.inj e2
    rw [← e3, ← e4]
    exact exB_ok h1
  | C :: Cs, p :: ps, h, i + 1, q, C', e1, e2 => by
    obtain ⟨h1, h2⟩ := ba (show (exB K D C p.1 p.2 && famB K D Cs ps) = true from h)
    exact famB_at h2 (i := i) e1 e2
  | [], _ :: _, h, _, _, _, _, _ => by cases h
  | _ :: _, [], h, _, _, _, _, _ => by cases h
structure Fam (K : PySem.W.Frag) (y : Str) (tab : List (Str × List Str)) : Prop where
  de : DeBo K (ga K y) y
  ex : ∀ {i : Nat} {p : Str × List Str}, tab[i]? = some p → ExBo K (ga K y) (ga K p.1) p.1 p.2
  nd : ∀ {i j : Nat} {p q : Str × List Str}, tab[i]? = some p → tab[j]? = some q → (ga K p.1 = ga K q.1 ↔ i = j)
  nD : ∀ {i : Nat} {p : Str × List Str}, tab[i]? = some p → ga K p.1 ≠ ga K y
theorem fam_ok {K : PySem.W.Frag} {y : Str} {tab : List (Str × List Str)} (h : famAll K y tab = true) : Fam K y tab := by
  unfold famAll at h
  rw [natsF_eq] at h
  have h' : (nodB (ga K y :: (tab.map (·.1)).map (ga K)) && (deB K (ga K y) y && famB K (ga K y) ((tab.map (·.1)).map (ga K)) tab)) = true := h
  obtain ⟨h1, h2⟩ := ba h'
  obtain ⟨h3, h4⟩ := ba h2
  have at1 : ∀ {i : Nat} {p : Str × List Str}, tab[i]? = some p → ((tab.map (·.1)).map (ga K))[i]? = some (ga K p.1) := fun {i p} e => by
    rw [List.getElem?_map, List.getElem?_map, e]
    rfl
  refine ⟨deB_ok h3, fun e => famB_at h4 e (at1 e), fun {i j p q} e1 e2 => ⟨fun z => ?_, fun z => ?_⟩, fun {i p} e => ?_⟩
  · rcases Nat.lt_trichotomy i j with l | l | l
    · exact absurd z (nodB_at h1 (i := i + 1) (j := j + 1) (at1 e1) (at1 e2) (by omega))
    · exact l
    · exact absurd z.symm (nodB_at h1 (i := j + 1) (j := i + 1) (at1 e2) (at1 e1) (by omega))
  · subst z
    rw [e1] at e2
    rw [Option.some.inj e2]
  · exact Ne.symm (nodB_at h1 (i := 0) (j := i + 1) rfl (at1 e) (by omega))
end MyH
set_option Elab.async false
set_option linter.all false
set_option maxRecDepth 100000
set_option maxHeartbeats 4000000
namespace MyN
open PySem PySem.Spec PyProof.Rows L2 He MyH
/-! ### a wider look: a property's def, what a def's defaults hold -/
def kidsP (look : Addr → Option Obj) (at0 : Addr) : List Addr := ((look at0).map fun ob => match ob.data with
  | .fields fs => fs.toList.flatMap refV
  | _ => []).getD []
def kidsS (look : Addr → Option Obj) (at0 : Addr) : List Addr := ((look at0).map fun ob => match ob.data with
  | .seq xs _ => xs.toList.flatMap refV
  | _ => []).getD []
def seenN (look : Addr → Option Obj) : List Addr :=
  let top := refsN look mainGlobals
  let half := top.flatMap (refsF look)
  let mine := half.flatMap (refsN look)
  let gets := mine.flatMap (kidsP look)
  let deep := (mine ++ gets).flatMap (refsF look)
  top ++ (half ++ (mine ++ (gets ++ (deep ++ ((half ++ deep).flatMap (kidsS look) ++ [mainGlobals, sysModules, PySem.cStatics])))))
/-- the getter of the property y of the class x -/
def getter (K : PySem.W.Frag) (x y : Str) : Addr := match PySem.W.recIn K (ma K (ga K x) y) "property" with
  | some (.ref z :: _) => z
  | _ => 0
def fnA (K : PySem.W.Frag) (z : Addr) : FnW := (K.lookup z).bind fun ob => match ob.data with
  | .func d => some (d.name, d.qualname, d.params, d.body, d.scope, d.globals, d.closure, d.builtins)
  | _ => none
def okA (K : PySem.W.Frag) (z : Addr) (q : Str) : Bool := PySem.W.keepIn K (.ref z) && (((K.lookup z).map fun ob => match ob.data with
  | .func d => PySem.W.codeIn K d.code q && dflB K d.defaults []
  | _ => false).getD false)
def valA (n q : Str) (st : Stmt) : FnW := some (n, q, defArgs st, .stmts (defBody st), defScope st, mainGlobals, [], builtinsNs)
theorem fnA_ok {K : PySem.W.Frag} {z : Addr} {n q : Str} {st : Stmt} (e : fnA K z = valA n q st) (c : okA K z q = true) : ∃ fd, FunD K n q (defArgs st) (defBody st) (defScope st) [] [] z fd := by
  obtain ⟨kp, c2⟩ := ba c
  unfold fnA at e
  cases lk : K.lookup z with
  | none =>
    rw [lk] at e
    cases e
  | some ob =>
    obtain ⟨b1, b2, dt, b4⟩ := ob
    rw [lk] at e c2
    cases dt with
    | func d =>
      obtain ⟨d1, d2, d3, d4, d5, d6, d7, d8, d9, d10, d11, d12, d13, d14, d15⟩ := d
      have e1 : (some (d1, d2, d3, d4, d5, d6, d7, d15) : FnW) = some (n, q, defArgs st, .stmts (defBody st), defScope st, mainGlobals, [], builtinsNs) := e
      simp only [Option.some.injEq, Prod.mk.injEq] at e1
      obtain ⟨g1, g2, g3, g4, g5, g6, g7, g8⟩ := e1
      subst g1 g2 g3 g4 g5 g6 g7 g8
      obtain ⟨c3, c4⟩ := ba (show (PySem.W.codeIn K d13 d2 && dflB K d8 []) = true from c2)
      exact ⟨_, ⟨b1, b2, d8, d9, d10, d11, d12, d13, d14, b4, rfl, lk, c3, dflB_ok c4, .inl rfl⟩, kp⟩
    | _ => cases e
def voidT (K : PySem.W.Frag) (z : Addr) : Bool := match K.lookup z with
  | some ⟨.type y, _, .seq xs _, _⟩ => decide (y = "tuple") && xs.toList.isEmpty
  | _ => false
theorem voidT_ok {K : PySem.W.Frag} {z : Addr} (h : voidT K z = true) (H : Hp) : SqT K H z [] := by
  unfold voidT at h
  cases lk : K.lookup z with
  | none =>
    rw [lk] at h
    cases h
  | some ob =>
    obtain ⟨b1, b2, dt, b4⟩ := ob
    rw [lk] at h
    cases b1 with
    | type y =>
      cases dt with
      | seq xs n =>
        obtain ⟨g1, g2⟩ := ba (show (decide (y = "tuple") && xs.toList.isEmpty) = true from h)
        have nil : xs.toList = [] := List.isEmpty_iff.mp g2
        refine .inr ⟨_, xs, n, lk, congrArg Value.type (of_decide_eq_true g1), rfl, ?_, by rw [nil]; exact .nil⟩
        have : xs.size = 0 := by rw [← Array.length_toList, nil]; rfl
        omega
      | _ => cases h
    | _ => cases dt <;> cases h
/-! ### the Hook -/
abbrev AlN : Type := MyH.Al × FnW
def obsN (F : PySem.W.Frag → Bool) (fn : List DefD) (p : PySem.W.Frag → Addr) (K : PySem.W.Frag) : AlN := (obsM F fn K, fnA K (p K))
def SaysN (F : PySem.W.Frag → Bool) (fn : List DefD) (p : PySem.W.Frag → Addr) (fv : FnW) (K : PySem.W.Frag) : Prop := obsN F fn p K = (valM fn, fv)
def obsNG (F : PySem.W.Frag → Bool) (fn : List DefD) (p : PySem.W.Frag → Addr) (look : Addr → Option Obj) : AlN := obsN F fn p (frG look (seenN look))
def hookN (F : PySem.W.Frag → Bool) (fn : List DefD) (p : PySem.W.Frag → Addr) (fv : FnW) : PySem.W.Hook where
  α := AlN
  obs := fun st => obsNG F fn p st.heap.get?
  val := fun _ => (valM fn, fv)
  says := fun _ hp => ∃ K : PySem.W.Frag, K.In hp ∧ SaysN F fn p fv K
  of := fun _ _ said => Exists.intro _ (And.intro frG_in said)
  keeps := fun _ _ _ said kept => Exists.elim said fun K both => Exists.intro K (And.intro (PySem.W.Frag.In.keeps both.1 kept) both.2)
theorem obsNG_eq {F : PySem.W.Frag → Bool} {fn : List DefD} {p : PySem.W.Frag → Addr} {fv : FnW} {look : Addr → Option Obj} {st : Shared} (h : ∀ z, look z = st.heap.get? z) : obsNG F fn p look = (hookN F fn p fv).obs st := by
  obtain rfl : look = st.heap.get? := funext h
  rfl
theorem SaysN.m {F : PySem.W.Frag → Bool} {fn : List DefD} {p : PySem.W.Frag → Addr} {fv : FnW} {K : PySem.W.Frag} (c : SaysN F fn p fv K) : SaysM F fn K := congrArg (fun y : AlN => y.1) c
theorem SaysN.g {F : PySem.W.Frag → Bool} {fn : List DefD} {p : PySem.W.Frag → Addr} {fv : FnW} {K : PySem.W.Frag} (c : SaysN F fn p fv K) : fnA K (p K) = fv := congrArg (fun y : AlN => y.2) c
/-! ### what stands of the class x beside -/
def soB (K : PySem.W.Frag) (C : Addr) (vo : Str × Option Str) : Bool :=
  eqO (PySem.W.findIn K (.ref C) "__class__") (some (some (.builtin "object.__class__"))) && (decide (PySem.W.mroIn K C (.type "object") = some true) && (PySem.W.notFirst K C (.type "tuple") && (PySem.W.notFirst K C (.type "NoneType") &&
  (decide (PySem.W.kitOne K (.type "tuple") (.ref C) = some false) && (decide (PySem.W.kitOne K (.type "NoneType") (.ref C) = some false) && (voidT K (dflAt vo 0 K)))))))
structure SoBo (K : PySem.W.Frag) (C : Addr) (vo : Str × Option Str) : Prop where
  cl : PySem.W.findIn K (.ref C) "__class__" = some (some (.builtin "object.__class__"))
  ob : PySem.W.mroIn K C (.type "object") = some true
  nT : PySem.W.notFirst K C (.type "tuple") = true
  nN : PySem.W.notFirst K C (.type "NoneType") = true
  kT : PySem.W.kitOne K (.type "tuple") (.ref C) = some false
  kN : PySem.W.kitOne K (.type "NoneType") (.ref C) = some false
  e0 : ∀ H : Hp, SqT K H (dflAt vo 0 K) []
theorem soB_ok {K : PySem.W.Frag} {C : Addr} {vo : Str × Option Str} (h : soB K C vo = true) : SoBo K C vo := by
  obtain ⟨h1, h⟩ := ba h
  obtain ⟨h2, h⟩ := ba h
  obtain ⟨h3, h⟩ := ba h
  obtain ⟨h4, h⟩ := ba h
  obtain ⟨h5, h⟩ := ba h
  obtain ⟨h6, h7⟩ := ba h
  exact ⟨eqO_ok h1, of_decide_eq_true h2, h3, h4, of_decide_eq_true h5, of_decide_eq_true h6, voidT_ok h7⟩
/-- the property y of the class at C, its getter at z -/
def prB (K : PySem.W.Frag) (C p z : Addr) (y : Str) : Bool :=
  eqO (PySem.W.findIn K (.ref C) y) (some (some (.ref p))) && (eqO (PySem.W.specialIn K (.ref p) "__get__") (some (some (.builtin "property.__get__"))) && (decide (PySem.W.takesIn K (.ref p) = some true) && ((match PySem.W.recIn K p "property" with
    | some (.ref b :: _) => decide (b = z)
    | _ => false))))
theorem prB_ok {K : PySem.W.Frag} {C p z : Addr} {y : Str} (h : prB K C p z y = true) : PropOf K C y p z := by
  obtain ⟨h1, h⟩ := ba h
  obtain ⟨h2, h⟩ := ba h
  obtain ⟨h3, h4⟩ := ba h
  refine ⟨eqO_ok h1, eqO_ok h2, of_decide_eq_true h3, ?_⟩
  split at h4
  · rename_i b rest e
    exact ⟨rest, by rw [e, of_decide_eq_true h4]⟩
  · cases h4

def sysB (K : PySem.W.Frag) : Bool := match K.lookup sysModules with
  | some ⟨.type y, _, _, _⟩ => decide (y = "dict")
  | _ => false
theorem sysB_ok {K : PySem.W.Frag} (h : sysB K = true) : ∃ o, K.lookup sysModules = some o ∧ o.cls = .type "dict" := by
  unfold sysB at h
  cases lk : K.lookup sysModules with
  | none =>
    rw [lk] at h
    cases h
  | some ob =>
    obtain ⟨b1, b2, dt, b4⟩ := ob
    rw [lk] at h
    cases b1 with
    | type y => exact ⟨_, rfl, congrArg Value.type (of_decide_eq_true h)⟩
    | _ => cases h
def strsB : List Value → List Str → Bool
  | [], [] => true
  | .str x _ :: r, y :: l => decide (x = y) && strsB r l
  | _, _ => false
theorem strsB_ok : ∀ {r : List Value} {l : List Str}, strsB r l = true → Vals (l.map V.str) r ∧ r.length = l.length
  | [], [], _ => ⟨.nil, rfl⟩
  | .str x t :: r, y :: l, h => by
    obtain ⟨h1, h2⟩ := ba (show (decide (x = y) && strsB r l) = true from h)
    obtain ⟨g, e⟩ := strsB_ok h2
    have e1 : x = y := of_decide_eq_true h1
    subst e1
    exact ⟨.cons ⟨t, rfl⟩ g, congrArg (· + 1) e⟩
def eightT (K : PySem.W.Frag) (z : Addr) (l : List Str) : Bool := match K.lookup z with
  | some ⟨.type y, _, .seq xs _, _⟩ => decide (y = "tuple") && strsB xs.toList l
  | _ => false
theorem eightT_ok {K : PySem.W.Frag} {z : Addr} {l : List Str} (h : eightT K z l = true) (few : l.length ≤ 100) (H : Hp) : SqT K H z (l.map V.str) := by
  unfold eightT at h
  cases lk : K.lookup z with
  | none =>
    rw [lk] at h
    cases h
  | some ob =>
    obtain ⟨b1, b2, dt, b4⟩ := ob
    rw [lk] at h
    cases b1 with
    | type y =>
      cases dt with
      | seq xs n =>
        obtain ⟨g1, g2⟩ := ba (show (decide (y = "tuple") && strsB xs.toList l) = true from h)
        obtain ⟨e, e2⟩ := strsB_ok g2
        have sz : xs.size ≤ 100 := by rw [← Array.length_toList, e2]; exact few
        refine .inr ⟨_, xs, n, lk, congrArg Value.type (of_decide_eq_true g1), rfl, ?_, e⟩
        have : (100 : Nat) < sizeLine := by decide
        omega
      | _ => cases h
    | _ => cases dt <;> cases h
end MyN
set_option Elab.async false
set_option linter.all false
set_option maxRecDepth 100000
set_option maxHeartbeats 0
namespace My
open PySem PySem.Spec PyProof.Rows L2 He MyH MyN
/-! ### the head: what the top leaves, by names -/
def dF (x : Str) (i : Nat) : DefD := ⟨(x, none), x, x, defArgs (topS i), defBody (topS i), defScope (topS i), [], []⟩
def dW (x : Str) (i : Nat) : DefD := ⟨(x, none), x, x, defArgs (topS i), defBody (topS i), defScope (topS i), [.non, .non], []⟩
def dC (x q m : Str) (i j : Nat) (ds : List Dv) : DefD := ⟨(x, some m), m, q, defArgs (inClass (topS i) j), defBody (inClass (topS i) j), defScope (inClass (topS i) j), ds, []⟩
def fn : List DefD := ([dF "is_sequence" 9, dF "is_sequence_of" 10, dF "check_widths" 11, dF "is_value" 15, dF "is_couple" 16, dF "fault_of_place" 17, dF "_fault_of_row" 18, dF "_as_row" 19, dF "check_row" 20, dF "check_store" 21, dF "store_of" 22, dF "store_values" 23, dF "_law_hand" 25, dF "_law_mixed" 26, dF "_law_take" 27] : List DefD) ++ ([dF "_law_store_values" 28, dF "_law_rid" 29, dF "_law_lists" 30, dF "_law_seq" 31, dF "_law_int" 32, dF "_law_is_value" 33, dF "_law_is_name" 34, dF "_law_deep" 35, dF "_law_truth" 36, dF "_law_loose" 37, dF "_law_many_widths" 38, dF "_law_any_value" 39, dF "_law_no_value" 40, dF "_law_word" 41, dF "_law_spoilt" 42] : List DefD) ++ ([dF "_law_checked_widths" 43, dF "_law_checked_row" 44, dF "_law_checked_store" 45, dF "_law_widths_due" 46, dF "_law_store_due" 47, dF "_law_drawn_rows" 48, dF "law" 49, dW "is_whole" 8, dC "DealError" "DealError.__init__" "__init__" 1 0 [.str ""], dC "BadWidths" "BadWidths.__init__" "__init__" 2 0 [], dC "BadRow" "BadRow.__init__" "__init__" 3 0 [], dC "BadStore" "BadStore.__init__" "__init__" 4 0 []] : List DefD)
def fas : List Fa := ([.free "int", .free "len", .free "abs", .free "isinstance", .free "list", .free "tuple", .free "range", .free "ValueError", .free "all", .free "enumerate", .free "bool", .free "str", .free "sorted", .free "set", .free "repr", .int "GREATEST_VALUE" 1000000000, .int "MOST_TABLES" 6, .int "MOST_COLUMNS" 3, .int "MOST_ROWS" 60, .glo "is_sequence"] : List Fa) ++ ([.glo "is_sequence_of", .glo "check_widths", .glo "is_value", .glo "is_couple", .glo "fault_of_place", .glo "_fault_of_row", .glo "_as_row", .glo "check_row", .glo "check_store", .glo "store_of", .glo "store_values", .glo "_law_hand", .glo "_law_mixed", .glo "_law_take", .glo "_law_store_values", .glo "_law_rid", .glo "_law_lists", .glo "_law_seq", .glo "_law_int", .glo "_law_is_value"] : List Fa) ++ ([.glo "_law_is_name", .glo "_law_deep", .glo "_law_truth", .glo "_law_loose", .glo "_law_many_widths", .glo "_law_any_value", .glo "_law_no_value", .glo "_law_word", .glo "_law_spoilt", .glo "_law_checked_widths", .glo "_law_checked_row", .glo "_law_checked_store", .glo "_law_widths_due", .glo "_law_store_due", .glo "_law_drawn_rows", .glo "law", .glo "is_whole", .exm "BadRow" "BadRow" true, .exm "BadWidths" "BadRow" false, .exm "BadWidths" "BadWidths" true] : List Fa) ++ ([.exm "BadStore" "BadStore" true, .exm "BadWidths" "BadStore" false] : List Fa)
def tab : List (Str × List Str) := [("BadWidths", ["index"]), ("BadRow", ["what"]), ("BadStore", ["index", "what"])]
def lawAt (K : PySem.W.Frag) : Addr := He.ga K "law"
def lawV : FnW := valA "law" "law" (topS 49)
def facts (K : PySem.W.Frag) : Bool := famAll K "DealError" tab && ((fas.all fun f => f.ok K) && sysB K)
abbrev R : PySem.W.OpenRow := PySem.W.OpenLaw.row PySem.Challenge.rw_meetwhere_k01_whole_stores_and_rows_judg
def names : List Str := (["DealError", "BadWidths", "BadRow", "BadStore", "MOST_TABLES", "MOST_COLUMNS", "is_whole", "is_sequence", "is_sequence_of", "check_widths", "GREATEST_VALUE", "MOST_ROWS", "is_value", "is_couple", "fault_of_place", "_fault_of_row", "_as_row", "check_row", "check_store", "store_of"] : List Str) ++ (["store_values", "_law_hand", "_law_mixed", "_law_take", "_law_store_values", "_law_rid", "_law_lists", "_law_seq", "_law_int", "_law_is_value", "_law_is_name", "_law_deep", "_law_truth", "_law_loose", "_law_many_widths", "_law_any_value", "_law_no_value", "_law_word", "_law_spoilt", "_law_checked_widths"] : List Str) ++ (["_law_checked_row", "_law_checked_store", "_law_widths_due", "_law_store_due", "_law_drawn_rows"] : List Str)
abbrev hk : PySem.W.Hook := hookN facts fn lawAt lawV
def ob (s : PySem.W.SharedT) : MyN.AlN := obsNG facts fn lawAt (HandSHeadRun.getT s)
theorem ob_eq (s : PySem.W.SharedT) : ob s = hk.obs s.abs := obsNG_eq (HandSHeadRun.getT_eq s)
end My
set_option Elab.async false
set_option linter.all false
set_option maxRecDepth 100000
set_option maxHeartbeats 0
namespace My
open PySem PySem.Spec PyProof.Rows L2 He MyH MyN
theorem run (w : World) : HandSHeadRun.RunEq R (PySem.W.view R.prog [49]) hk ob 14000 names w := by
  intro os
  kernel_rfl
end My
set_option Elab.async false
set_option linter.all false
set_option maxRecDepth 100000
set_option maxHeartbeats 0
namespace My
open PySem PySem.Spec PyProof.Rows L2 He MyH MyN
section
variable {P : Program} {w : World} {K : PySem.W.Frag} {mg : Str → Option Value} {h : Heap}
theorem law_ok (X : K.In h) (G : h.Ns mainGlobals mg) (c0 : SaysN facts fn lawAt lawV K) : ∃ fd : FuncData, (∀ (s : Shared) (v : Value), BindsTo s fd ⟨[v], []⟩ [("_law_script", v)]) ∧ ∀ base : Heap, FnG P w K mg base 13 (He.ga K "law") fd ["_law_script"] (spLaw K) := by
  have c := c0.m
  obtain ⟨fdL, FL⟩ := c.def_ 36 (d := dF "law" 49) rfl
  have EL : L2.Fun K "law" "law" (topS 49) (He.ga K "law") fdL := fun_of FL
  have bL := FunD.bindsA (ps := ["_law_script"]) (x := "law") (qual := "law") (params := defArgs (topS 49)) (body := defBody (topS 49)) (scope := defScope (topS 49)) (kws := []) (f := He.ga K "law") FL fun _ _ _ _ _ _ us hl => match us, hl with | [_], _ => rfl
  refine ⟨fdL, fun s v => bL s [v] rfl, fun base => ?_⟩
  obtain ⟨hf, hx⟩ := ba (show (famAll K "DealError" tab && ((fas.all fun f => f.ok K) && sysB K)) = true from c.fact)
  obtain ⟨hfa, hx⟩ := ba hx
  have hsy := hx
  have fm := fam_ok hf
  have sys : SysOk K := sysB_ok hsy
  have fa : ∀ (i : Nat) {f : Fa}, fas[i]? = some f → f.ok K = true := fun i f e => List.all_eq_true.mp hfa f (List.mem_of_getElem? e)
  have m_int : mg "int" = none := free_ok X G (fa 0 (f := .free "int") rfl)
  have m_len : mg "len" = none := free_ok X G (fa 1 (f := .free "len") rfl)
  have m_abs : mg "abs" = none := free_ok X G (fa 2 (f := .free "abs") rfl)
  have m_isinstance : mg "isinstance" = none := free_ok X G (fa 3 (f := .free "isinstance") rfl)
  have m_list : mg "list" = none := free_ok X G (fa 4 (f := .free "list") rfl)
  have m_tuple : mg "tuple" = none := free_ok X G (fa 5 (f := .free "tuple") rfl)
  have m_range : mg "range" = none := free_ok X G (fa 6 (f := .free "range") rfl)
  have m_ValueError : mg "ValueError" = none := free_ok X G (fa 7 (f := .free "ValueError") rfl)
  have m_all : mg "all" = none := free_ok X G (fa 8 (f := .free "all") rfl)
  have m_enumerate : mg "enumerate" = none := free_ok X G (fa 9 (f := .free "enumerate") rfl)
  have m_bool : mg "bool" = none := free_ok X G (fa 10 (f := .free "bool") rfl)
  have m_str : mg "str" = none := free_ok X G (fa 11 (f := .free "str") rfl)
  have m_sorted : mg "sorted" = none := free_ok X G (fa 12 (f := .free "sorted") rfl)
  have m_set : mg "set" = none := free_ok X G (fa 13 (f := .free "set") rfl)
  have m_repr : mg "repr" = none := free_ok X G (fa 14 (f := .free "repr") rfl)
  have i_GREATEST_VALUE : ∃ u, mg "GREATEST_VALUE" = some u ∧ RelV (.int 1000000000) u := (int_ok X G (fa 15 (f := .int "GREATEST_VALUE" 1000000000) rfl)).elim fun z e => ⟨_, e, z, rfl⟩
  have i_MOST_TABLES : ∃ u, mg "MOST_TABLES" = some u ∧ RelV (.int 6) u := (int_ok X G (fa 16 (f := .int "MOST_TABLES" 6) rfl)).elim fun z e => ⟨_, e, z, rfl⟩
  have i_MOST_COLUMNS : ∃ u, mg "MOST_COLUMNS" = some u ∧ RelV (.int 3) u := (int_ok X G (fa 17 (f := .int "MOST_COLUMNS" 3) rfl)).elim fun z e => ⟨_, e, z, rfl⟩
  have i_MOST_ROWS : ∃ u, mg "MOST_ROWS" = some u ∧ RelV (.int 60) u := (int_ok X G (fa 18 (f := .int "MOST_ROWS" 60) rfl)).elim fun z e => ⟨_, e, z, rfl⟩
  have g_DealError : mg "DealError" = some (.ref (He.ga K "DealError")) := PySem.W.mg_of X G fm.de.glo
  have X0 := fm.ex (i := 0) rfl
  have g_BadWidths : mg "BadWidths" = some (.ref (He.ga K "BadWidths")) := PySem.W.mg_of X G X0.glo
  have X1 := fm.ex (i := 1) rfl
  have g_BadRow : mg "BadRow" = some (.ref (He.ga K "BadRow")) := PySem.W.mg_of X G X1.glo
  have X2 := fm.ex (i := 2) rfl
  have g_BadStore : mg "BadStore" = some (.ref (He.ga K "BadStore")) := PySem.W.mg_of X G X2.glo
  obtain ⟨fdD, FD⟩ := c.def_ 38 (d := dC "DealError" "DealError.__init__" "__init__" 1 0 [.str ""]) rfl
  have FD2 : FunD K "__init__" "DealError.__init__" (defArgs (inClass (topS 1) 0)) (defBody (inClass (topS 1) 0)) (defScope (inClass (topS 1) 0)) [.str ""] [] (ma K (He.ga K "DealError") "__init__") fdD := FD
  obtain ⟨ds, vds, bD⟩ := FD2.binds1 (ps := ["self", "message"]) 2 1 (by simp) rfl (fun T kV doc pm an cdv ct us its hl hi => match us, its, hl, hi with | [_, _], [_], _, _ => ⟨_, rfl, rfl⟩)
  have eds : ds = [] := by
    cases vds
    rfl
  subst eds
  have D : DEf P w K mg base := ⟨⟨He.ga K "DealError", _, fdD, _, .type "type", fm.de.rd, fm.de.fc, ok_DE FD2 m_ValueError fm.de.vV, FD2.kp, bD, g_DealError⟩⟩
  obtain ⟨fdI0, FI0⟩ := c.def_ 39 (d := dC "BadWidths" "BadWidths.__init__" "__init__" 2 0 []) rfl
  have EI0 : L2.Fun K "__init__" "BadWidths.__init__" (inClass (topS 2) 0) (ma K (He.ga K "BadWidths") "__init__") fdI0 := fun_of FI0
  have T0 : ExT K (He.ga K "BadWidths") := X0.t fm.de
  have R_BadWidths : ErrF P w K mg base "BadWidths" (He.ga K "BadWidths") ["index"] := ⟨T0, ⟨X0.atr, X0.atg, X0.o.exC, T0.dct⟩, X0.nf, g_BadWidths, ⟨_, fdI0, ["self", "index"], ok_BadWidths EI0 D T0 X0.nf, X0.i, X0.ti, FI0.bindsN fun _ _ _ _ _ _ us hl => match us, hl with | [_, _], _ => rfl⟩⟩
  obtain ⟨fdI1, FI1⟩ := c.def_ 40 (d := dC "BadRow" "BadRow.__init__" "__init__" 3 0 []) rfl
  have EI1 : L2.Fun K "__init__" "BadRow.__init__" (inClass (topS 3) 0) (ma K (He.ga K "BadRow") "__init__") fdI1 := fun_of FI1
  have T1 : ExT K (He.ga K "BadRow") := X1.t fm.de
  have R_BadRow : ErrF P w K mg base "BadRow" (He.ga K "BadRow") ["what"] := ⟨T1, ⟨X1.atr, X1.atg, X1.o.exC, T1.dct⟩, X1.nf, g_BadRow, ⟨_, fdI1, ["self", "what"], ok_BadRow EI1 D T1 X1.nf, X1.i, X1.ti, FI1.bindsN fun _ _ _ _ _ _ us hl => match us, hl with | [_, _], _ => rfl⟩⟩
  obtain ⟨fdI2, FI2⟩ := c.def_ 41 (d := dC "BadStore" "BadStore.__init__" "__init__" 4 0 []) rfl
  have EI2 : L2.Fun K "__init__" "BadStore.__init__" (inClass (topS 4) 0) (ma K (He.ga K "BadStore") "__init__") fdI2 := fun_of FI2
  have T2 : ExT K (He.ga K "BadStore") := X2.t fm.de
  have R_BadStore : ErrF P w K mg base "BadStore" (He.ga K "BadStore") ["index", "what"] := ⟨T2, ⟨X2.atr, X2.atg, X2.o.exC, T2.dct⟩, X2.nf, g_BadStore, ⟨_, fdI2, ["self", "index", "what"], ok_BadStore EI2 D T2 X2.nf, X2.i, X2.ti, FI2.bindsN fun _ _ _ _ _ _ us hl => match us, hl with | [_, _, _], _ => rfl⟩⟩
  have h_BR_BR : Caught K (He.ga K "BadRow") (He.ga K "BadRow") true := exm_ok (fa 57 (f := .exm "BadRow" "BadRow" true) rfl)
  have h_BW_BR : Caught K (He.ga K "BadWidths") (He.ga K "BadRow") false := exm_ok (fa 58 (f := .exm "BadWidths" "BadRow" false) rfl)
  have h_BW_BW : Caught K (He.ga K "BadWidths") (He.ga K "BadWidths") true := exm_ok (fa 59 (f := .exm "BadWidths" "BadWidths" true) rfl)
  have h_BS_BS : Caught K (He.ga K "BadStore") (He.ga K "BadStore") true := exm_ok (fa 60 (f := .exm "BadStore" "BadStore" true) rfl)
  have h_BW_BS : Caught K (He.ga K "BadWidths") (He.ga K "BadStore") false := exm_ok (fa 61 (f := .exm "BadWidths" "BadStore" false) rfl)
  obtain ⟨fdW, FW⟩ := c.def_ 37 (d := dW "is_whole" 8) rfl
  have FW2 : FunD K "is_whole" "is_whole" (defArgs (topS 8)) (defBody (topS 8)) (defScope (topS 8)) [.non, .non] [] (He.ga K "is_whole") fdW := FW
  obtain ⟨dw, vdw, bW⟩ := FW2.binds1 (ps := ["thing", "low", "high"]) 3 2 (by simp) rfl (fun T kV doc pm an cdv ct us its hl hi => match us, its, hl, hi with | [_, _, _], [_, _], _, _ => ⟨_, rfl, rfl⟩)
  have edw : dw = [] := by
    cases vdw
    rfl
  subst edw
  have g_is_whole : mg "is_whole" = some (.ref (He.ga K "is_whole")) := glo_ok X G (fa 56 (f := .glo "is_whole") rfl)
  have c_is_whole : Cal P w K mg base 1 "is_whole" (spWhole K) := ⟨⟨_, _, _, ok_is_whole FW2 m_isinstance m_int m_bool, g_is_whole, FW2.kp, bW⟩⟩
  obtain ⟨d1, vd1, bW1⟩ := FW2.binds1 (ps := ["thing", "low", "high"]) 1 0 (by simp) rfl (fun T kV doc pm an cdv ct us its hl hi => match us, its, hl, hi with | [_], [_, _], _, _ => ⟨_, rfl, rfl⟩)
  have c1_is_whole : C8.Cal P w K mg base 1 "is_whole" (spWhole K) [.non, .non] := ⟨⟨_, fdW, _, _, ok_is_whole FW2 m_isinstance m_int m_bool, g_is_whole, FW2.kp, bW1, vd1⟩⟩
  obtain ⟨d2, vd2, bW2⟩ := FW2.binds1 (ps := ["thing", "low", "high"]) 2 1 (by simp) rfl (fun T kV doc pm an cdv ct us its hl hi => match us, its, hl, hi with | [_, _], [_, _], _, _ => ⟨_, rfl, rfl⟩)
  have c2_is_whole : C8.Cal P w K mg base 1 "is_whole" (spWhole K) [.non] := ⟨⟨_, fdW, _, _, ok_is_whole FW2 m_isinstance m_int m_bool, g_is_whole, FW2.kp, bW2, vd2⟩⟩
  obtain ⟨dk, bWN⟩ := kw_binds (ps := ["thing", "low", "high"]) FW2 1 ["high"] (fun us its ws => gHigh us its ws) (by simp) (fun r1 r2 r3 => r1.append ((r2.take 1).append r3)) (fun T kV doc pm an cdv ct us its ws hl hi hw => match us, its, ws, hl, hi, hw with | [_], [_, _], [_], _, _, _ => ⟨_, rfl, rfl⟩)
  have cN_is_whole : CalN P w K mg base 1 "is_whole" (spWhole K) 1 ["high"] (fun vs zs => gHigh vs [V.non, V.non] zs) := ⟨⟨_, fdW, _, _, ok_is_whole FW2 m_isinstance m_int m_bool, g_is_whole, FW2.kp, bWN⟩⟩
  obtain ⟨fd_is_sequence, F_is_sequence⟩ := c.def_ 0 (d := dF "is_sequence" 9) rfl
  have E_is_sequence : L2.Fun K "is_sequence" "is_sequence" (topS 9) (He.ga K "is_sequence") fd_is_sequence := fun_of F_is_sequence
  have g_is_sequence : mg "is_sequence" = some (.ref (He.ga K "is_sequence")) := glo_ok X G (fa 19 (f := .glo "is_sequence") rfl)
  have b_is_sequence : Binds K fd_is_sequence ["thing"] [] := F_is_sequence.bindsN fun _ _ _ _ _ _ us hl => match us, hl with | [_], _ => rfl
  have c_is_sequence : Cal P w K mg base 1 "is_sequence" (spSeq K) := ⟨⟨_, _, _, ok_is_sequence E_is_sequence m_isinstance m_list m_tuple, g_is_sequence, E_is_sequence.kp, b_is_sequence⟩⟩
  obtain ⟨fd_is_value, F_is_value⟩ := c.def_ 3 (d := dF "is_value" 15) rfl
  have E_is_value : L2.Fun K "is_value" "is_value" (topS 15) (He.ga K "is_value") fd_is_value := fun_of F_is_value
  have g_is_value : mg "is_value" = some (.ref (He.ga K "is_value")) := glo_ok X G (fa 22 (f := .glo "is_value") rfl)
  have b_is_value : Binds K fd_is_value ["thing"] [] := F_is_value.bindsN fun _ _ _ _ _ _ us hl => match us, hl with | [_], _ => rfl
  have c_is_value : Cal P w K mg base 2 "is_value" (spValue K) := ⟨⟨_, _, _, ok_is_value E_is_value c_is_whole i_GREATEST_VALUE, g_is_value, E_is_value.kp, b_is_value⟩⟩
  obtain ⟨fd_is_sequence_of, F_is_sequence_of⟩ := c.def_ 1 (d := dF "is_sequence_of" 10) rfl
  have E_is_sequence_of : L2.Fun K "is_sequence_of" "is_sequence_of" (topS 10) (He.ga K "is_sequence_of") fd_is_sequence_of := fun_of F_is_sequence_of
  have g_is_sequence_of : mg "is_sequence_of" = some (.ref (He.ga K "is_sequence_of")) := glo_ok X G (fa 20 (f := .glo "is_sequence_of") rfl)
  have b_is_sequence_of : Binds K fd_is_sequence_of ["thing", "low", "high"] [] := F_is_sequence_of.bindsN fun _ _ _ _ _ _ us hl => match us, hl with | [_, _, _], _ => rfl
  have c_is_sequence_of : Cal P w K mg base 2 "is_sequence_of" (spSeqOf K) := ⟨⟨_, _, _, ok_is_sequence_of E_is_sequence_of c_is_sequence m_len, g_is_sequence_of, E_is_sequence_of.kp, b_is_sequence_of⟩⟩
  obtain ⟨fd_is_couple, F_is_couple⟩ := c.def_ 4 (d := dF "is_couple" 16) rfl
  have E_is_couple : L2.Fun K "is_couple" "is_couple" (topS 16) (He.ga K "is_couple") fd_is_couple := fun_of F_is_couple
  have g_is_couple : mg "is_couple" = some (.ref (He.ga K "is_couple")) := glo_ok X G (fa 23 (f := .glo "is_couple") rfl)
  have b_is_couple : Binds K fd_is_couple ["thing"] [] := F_is_couple.bindsN fun _ _ _ _ _ _ us hl => match us, hl with | [_], _ => rfl
  have c_is_couple : Cal P w K mg base 3 "is_couple" (spCouple K) := ⟨⟨_, _, _, ok_is_couple E_is_couple c_is_sequence_of, g_is_couple, E_is_couple.kp, b_is_couple⟩⟩
  obtain ⟨fd_fault_of_place, F_fault_of_place⟩ := c.def_ 5 (d := dF "fault_of_place" 17) rfl
  have E_fault_of_place : L2.Fun K "fault_of_place" "fault_of_place" (topS 17) (He.ga K "fault_of_place") fd_fault_of_place := fun_of F_fault_of_place
  have g_fault_of_place : mg "fault_of_place" = some (.ref (He.ga K "fault_of_place")) := glo_ok X G (fa 24 (f := .glo "fault_of_place") rfl)
  have b_fault_of_place : Binds K fd_fault_of_place ["widths", "thing"] [] := F_fault_of_place.bindsN fun _ _ _ _ _ _ us hl => match us, hl with | [_, _], _ => rfl
  have c_fault_of_place : Cal P w K mg base 4 "fault_of_place" (spPlaceF K) := ⟨⟨_, _, _, ok_fault_of_place E_fault_of_place c_is_couple c_is_sequence c_is_whole c1_is_whole m_len, g_fault_of_place, E_fault_of_place.kp, b_fault_of_place⟩⟩
  obtain ⟨fd_check_widths, F_check_widths⟩ := c.def_ 2 (d := dF "check_widths" 11) rfl
  have E_check_widths : FunD K "check_widths" "check_widths" (defArgs (topS 11)) (defBody (topS 11)) (defScope (topS 11)) [] [] (He.ga K "check_widths") fd_check_widths := F_check_widths
  have g_check_widths : mg "check_widths" = some (.ref (He.ga K "check_widths")) := glo_ok X G (fa 21 (f := .glo "check_widths") rfl)
  have b_check_widths : Binds K fd_check_widths ["widths"] [] := F_check_widths.bindsN fun _ _ _ _ _ _ us hl => match us, hl with | [_], _ => rfl
  have c_check_widths : CalX P w K mg base 4 "check_widths" (spCheckW K (He.ga K "BadWidths")) := ⟨⟨_, _, _, ok_check_widths E_check_widths R_BadWidths c_is_sequence_of c_is_whole i_MOST_TABLES i_MOST_COLUMNS m_enumerate m_tuple, g_check_widths, E_check_widths.kp, b_check_widths⟩⟩
  obtain ⟨fd__fault_of_row, F__fault_of_row⟩ := c.def_ 6 (d := dF "_fault_of_row" 18) rfl
  have E__fault_of_row : L2.Fun K "_fault_of_row" "_fault_of_row" (topS 18) (He.ga K "_fault_of_row") fd__fault_of_row := fun_of F__fault_of_row
  have g__fault_of_row : mg "_fault_of_row" = some (.ref (He.ga K "_fault_of_row")) := glo_ok X G (fa 25 (f := .glo "_fault_of_row") rfl)
  have b__fault_of_row : Binds K fd__fault_of_row ["widths", "row"] [] := F__fault_of_row.bindsN fun _ _ _ _ _ _ us hl => match us, hl with | [_, _], _ => rfl
  have c__fault_of_row : Cal P w K mg base 5 "_fault_of_row" (spRowF K) := ⟨⟨_, _, _, ok__fault_of_row E__fault_of_row c_fault_of_place c_is_value m_all, g__fault_of_row, E__fault_of_row.kp, b__fault_of_row⟩⟩
  obtain ⟨fd__as_row, F__as_row⟩ := c.def_ 7 (d := dF "_as_row" 19) rfl
  have E__as_row : L2.Fun K "_as_row" "_as_row" (topS 19) (He.ga K "_as_row") fd__as_row := fun_of F__as_row
  have g__as_row : mg "_as_row" = some (.ref (He.ga K "_as_row")) := glo_ok X G (fa 26 (f := .glo "_as_row") rfl)
  have b__as_row : Binds K fd__as_row ["row"] [] := F__as_row.bindsN fun _ _ _ _ _ _ us hl => match us, hl with | [_], _ => rfl
  have c__as_row : Cal P w K mg base 1 "_as_row" (spAsRow K) := ⟨⟨_, _, _, ok__as_row E__as_row m_tuple, g__as_row, E__as_row.kp, b__as_row⟩⟩
  obtain ⟨fd_check_row, F_check_row⟩ := c.def_ 8 (d := dF "check_row" 20) rfl
  have E_check_row : FunD K "check_row" "check_row" (defArgs (topS 20)) (defBody (topS 20)) (defScope (topS 20)) [] [] (He.ga K "check_row") fd_check_row := F_check_row
  have g_check_row : mg "check_row" = some (.ref (He.ga K "check_row")) := glo_ok X G (fa 27 (f := .glo "check_row") rfl)
  have b_check_row : Binds K fd_check_row ["widths", "row"] [] := F_check_row.bindsN fun _ _ _ _ _ _ us hl => match us, hl with | [_, _], _ => rfl
  have c_check_row : CalX P w K mg base 6 "check_row" (spCheckRow (He.ga K "BadWidths") (He.ga K "BadRow") K) := ⟨⟨_, _, _, ok_check_row E_check_row R_BadRow c_check_widths c__fault_of_row c__as_row, g_check_row, E_check_row.kp, b_check_row⟩⟩
  obtain ⟨fd_store_of, F_store_of⟩ := c.def_ 10 (d := dF "store_of" 22) rfl
  have E_store_of : L2.Fun K "store_of" "store_of" (topS 22) (He.ga K "store_of") fd_store_of := fun_of F_store_of
  have g_store_of : mg "store_of" = some (.ref (He.ga K "store_of")) := glo_ok X G (fa 29 (f := .glo "store_of") rfl)
  have b_store_of : Binds K fd_store_of ["rows"] [] := F_store_of.bindsN fun _ _ _ _ _ _ us hl => match us, hl with | [_], _ => rfl
  have c_store_of : Cal P w K mg base 1 "store_of" (spStoreOf K) := ⟨⟨_, _, _, ok_store_of E_store_of m_tuple m_sorted m_set, g_store_of, E_store_of.kp, b_store_of⟩⟩
  obtain ⟨fd_check_store, F_check_store⟩ := c.def_ 9 (d := dF "check_store" 21) rfl
  have E_check_store : FunD K "check_store" "check_store" (defArgs (topS 21)) (defBody (topS 21)) (defScope (topS 21)) [] [] (He.ga K "check_store") fd_check_store := F_check_store
  have g_check_store : mg "check_store" = some (.ref (He.ga K "check_store")) := glo_ok X G (fa 28 (f := .glo "check_store") rfl)
  have b_check_store : Binds K fd_check_store ["widths", "rows"] [] := F_check_store.bindsN fun _ _ _ _ _ _ us hl => match us, hl with | [_, _], _ => rfl
  have c_check_store : CalX P w K mg base 6 "check_store" (spCheckStore (He.ga K "BadWidths") (He.ga K "BadStore") K) := ⟨⟨_, _, _, ok_check_store E_check_store R_BadStore c_check_widths c_is_sequence_of c__fault_of_row c__as_row c_store_of i_MOST_ROWS m_enumerate, g_check_store, E_check_store.kp, b_check_store⟩⟩
  obtain ⟨fd_store_values, F_store_values⟩ := c.def_ 11 (d := dF "store_values" 23) rfl
  have E_store_values : L2.Fun K "store_values" "store_values" (topS 23) (He.ga K "store_values") fd_store_values := fun_of F_store_values
  have g_store_values : mg "store_values" = some (.ref (He.ga K "store_values")) := glo_ok X G (fa 30 (f := .glo "store_values") rfl)
  have b_store_values : Binds K fd_store_values ["store"] [] := F_store_values.bindsN fun _ _ _ _ _ _ us hl => match us, hl with | [_], _ => rfl
  have c_store_values : Cal P w K mg base 1 "store_values" (spStoreV K) := ⟨⟨_, _, _, ok_store_values E_store_values m_tuple m_sorted, g_store_values, E_store_values.kp, b_store_values⟩⟩
  obtain ⟨fd__law_mixed, F__law_mixed⟩ := c.def_ 13 (d := dF "_law_mixed" 26) rfl
  have E__law_mixed : L2.Fun K "_law_mixed" "_law_mixed" (topS 26) (He.ga K "_law_mixed") fd__law_mixed := fun_of F__law_mixed
  have g__law_mixed : mg "_law_mixed" = some (.ref (He.ga K "_law_mixed")) := glo_ok X G (fa 32 (f := .glo "_law_mixed") rfl)
  have b__law_mixed : Binds K fd__law_mixed ["_law_number", "_law_turn"] [] := F__law_mixed.bindsN fun _ _ _ _ _ _ us hl => match us, hl with | [_, _], _ => rfl
  have c__law_mixed : Cal P w K mg base 1 "_law_mixed" (spMix 2147483648) := ⟨⟨_, _, _, ok_mixed E__law_mixed m_int, g__law_mixed, E__law_mixed.kp, b__law_mixed⟩⟩
  obtain ⟨fd__law_take, F__law_take⟩ := c.def_ 14 (d := dF "_law_take" 27) rfl
  have E__law_take : L2.Fun K "_law_take" "_law_take" (topS 27) (He.ga K "_law_take") fd__law_take := fun_of F__law_take
  have g__law_take : mg "_law_take" = some (.ref (He.ga K "_law_take")) := glo_ok X G (fa 33 (f := .glo "_law_take") rfl)
  have b__law_take : Binds K fd__law_take ["_law_hand_here", "_law_many"] [] := F__law_take.bindsN fun _ _ _ _ _ _ us hl => match us, hl with | [_, _], _ => rfl
  have c__law_take : Cal P w K mg base 2 "_law_take" (spDraw MO) := ⟨⟨_, _, _, ok_take E__law_take m_int m_len c__law_mixed, g__law_take, E__law_take.kp, b__law_take⟩⟩
  obtain ⟨fd__law_hand, F__law_hand⟩ := c.def_ 12 (d := dF "_law_hand" 25) rfl
  have E__law_hand : L2.Fun K "_law_hand" "_law_hand" (topS 25) (He.ga K "_law_hand") fd__law_hand := fun_of F__law_hand
  have g__law_hand : mg "_law_hand" = some (.ref (He.ga K "_law_hand")) := glo_ok X G (fa 31 (f := .glo "_law_hand") rfl)
  have b__law_hand : Binds K fd__law_hand ["_law_script"] [] := F__law_hand.bindsN fun _ _ _ _ _ _ us hl => match us, hl with | [_], _ => rfl
  have c__law_hand : Cal P w K mg base 1 "_law_hand" (spHand MO K) := ⟨⟨_, _, _, ok_hand E__law_hand m_int m_len m_abs, g__law_hand, E__law_hand.kp, b__law_hand⟩⟩
  obtain ⟨fd__law_seq, F__law_seq⟩ := c.def_ 18 (d := dF "_law_seq" 31) rfl
  have E__law_seq : L2.Fun K "_law_seq" "_law_seq" (topS 31) (He.ga K "_law_seq") fd__law_seq := fun_of F__law_seq
  have g__law_seq : mg "_law_seq" = some (.ref (He.ga K "_law_seq")) := glo_ok X G (fa 37 (f := .glo "_law_seq") rfl)
  have b__law_seq : Binds K fd__law_seq ["_law_thing"] [] := F__law_seq.bindsN fun _ _ _ _ _ _ us hl => match us, hl with | [_], _ => rfl
  have c__law_seq : Cal P w K mg base 1 "_law_seq" (spLSeq K) := ⟨⟨_, _, _, ok__law_seq E__law_seq m_isinstance m_list m_tuple, g__law_seq, E__law_seq.kp, b__law_seq⟩⟩
  obtain ⟨fd__law_int, F__law_int⟩ := c.def_ 19 (d := dF "_law_int" 32) rfl
  have E__law_int : L2.Fun K "_law_int" "_law_int" (topS 32) (He.ga K "_law_int") fd__law_int := fun_of F__law_int
  have g__law_int : mg "_law_int" = some (.ref (He.ga K "_law_int")) := glo_ok X G (fa 38 (f := .glo "_law_int") rfl)
  have b__law_int : Binds K fd__law_int ["_law_thing"] [] := F__law_int.bindsN fun _ _ _ _ _ _ us hl => match us, hl with | [_], _ => rfl
  have c__law_int : Cal P w K mg base 1 "_law_int" (spLInt K) := ⟨⟨_, _, _, ok__law_int E__law_int m_isinstance m_int m_bool, g__law_int, E__law_int.kp, b__law_int⟩⟩
  obtain ⟨fd__law_is_value, F__law_is_value⟩ := c.def_ 20 (d := dF "_law_is_value" 33) rfl
  have E__law_is_value : L2.Fun K "_law_is_value" "_law_is_value" (topS 33) (He.ga K "_law_is_value") fd__law_is_value := fun_of F__law_is_value
  have g__law_is_value : mg "_law_is_value" = some (.ref (He.ga K "_law_is_value")) := glo_ok X G (fa 39 (f := .glo "_law_is_value") rfl)
  have b__law_is_value : Binds K fd__law_is_value ["_law_thing"] [] := F__law_is_value.bindsN fun _ _ _ _ _ _ us hl => match us, hl with | [_], _ => rfl
  have c__law_is_value : Cal P w K mg base 2 "_law_is_value" (spLVal K) := ⟨⟨_, _, _, ok__law_is_value E__law_is_value c__law_int, g__law_is_value, E__law_is_value.kp, b__law_is_value⟩⟩
  obtain ⟨fd__law_is_name, F__law_is_name⟩ := c.def_ 21 (d := dF "_law_is_name" 34) rfl
  have E__law_is_name : L2.Fun K "_law_is_name" "_law_is_name" (topS 34) (He.ga K "_law_is_name") fd__law_is_name := fun_of F__law_is_name
  have g__law_is_name : mg "_law_is_name" = some (.ref (He.ga K "_law_is_name")) := glo_ok X G (fa 40 (f := .glo "_law_is_name") rfl)
  have b__law_is_name : Binds K fd__law_is_name ["_law_thing"] [] := F__law_is_name.bindsN fun _ _ _ _ _ _ us hl => match us, hl with | [_], _ => rfl
  have c__law_is_name : Cal P w K mg base 1 "_law_is_name" (spLName K) := ⟨⟨_, _, _, ok__law_is_name E__law_is_name m_isinstance m_str, g__law_is_name, E__law_is_name.kp, b__law_is_name⟩⟩
  obtain ⟨fd__law_truth, F__law_truth⟩ := c.def_ 23 (d := dF "_law_truth" 36) rfl
  have E__law_truth : L2.Fun K "_law_truth" "_law_truth" (topS 36) (He.ga K "_law_truth") fd__law_truth := fun_of F__law_truth
  have g__law_truth : mg "_law_truth" = some (.ref (He.ga K "_law_truth")) := glo_ok X G (fa 42 (f := .glo "_law_truth") rfl)
  have b__law_truth : Binds K fd__law_truth ["_law_told", "_law_due"] [] := F__law_truth.bindsN fun _ _ _ _ _ _ us hl => match us, hl with | [_, _], _ => rfl
  have c__law_truth : Cal P w K mg base 1 "_law_truth" (spLTruth K) := ⟨⟨_, _, _, ok__law_truth E__law_truth m_isinstance m_bool, g__law_truth, E__law_truth.kp, b__law_truth⟩⟩
  obtain ⟨fd__law_deep, F__law_deep⟩ := c.def_ 22 (d := dF "_law_deep" 35) rfl
  have E__law_deep : L2.Fun K "_law_deep" "_law_deep" (topS 35) (He.ga K "_law_deep") fd__law_deep := fun_of F__law_deep
  have g__law_deep : mg "_law_deep" = some (.ref (He.ga K "_law_deep")) := glo_ok X G (fa 41 (f := .glo "_law_deep") rfl)
  have b__law_deep : Binds K fd__law_deep ["_law_thing"] [] := F__law_deep.bindsN fun _ _ _ _ _ _ us hl => match us, hl with | [_], _ => rfl
  have c__law_deep : ∀ n : Nat, Cal P w K mg base (n + 2) "_law_deep" (spDeep K n) := fun n => ⟨⟨_, _, _, ok__law_deep E__law_deep g__law_deep b__law_deep c__law_seq m_tuple n, g__law_deep, E__law_deep.kp, b__law_deep⟩⟩
  obtain ⟨fd__law_word, F__law_word⟩ := c.def_ 28 (d := dF "_law_word" 41) rfl
  have E__law_word : L2.Fun K "_law_word" "_law_word" (topS 41) (He.ga K "_law_word") fd__law_word := fun_of F__law_word
  have g__law_word : mg "_law_word" = some (.ref (He.ga K "_law_word")) := glo_ok X G (fa 47 (f := .glo "_law_word") rfl)
  have b__law_word : Binds K fd__law_word ["_law_widths", "_law_thing", "_law_first", "_law_last"] [] := F__law_word.bindsN fun _ _ _ _ _ _ us hl => match us, hl with | [_, _, _, _], _ => rfl
  have c__law_word : Cal P w K mg base 3 "_law_word" (spWord K) := ⟨⟨_, _, _, ok__law_word E__law_word c__law_seq c__law_int c__law_is_value c__law_is_name m_len, g__law_word, E__law_word.kp, b__law_word⟩⟩
  obtain ⟨fd__law_checked_widths, F__law_checked_widths⟩ := c.def_ 30 (d := dF "_law_checked_widths" 43) rfl
  have E__law_checked_widths : L2.Fun K "_law_checked_widths" "_law_checked_widths" (topS 43) (He.ga K "_law_checked_widths") fd__law_checked_widths := fun_of F__law_checked_widths
  have g__law_checked_widths : mg "_law_checked_widths" = some (.ref (He.ga K "_law_checked_widths")) := glo_ok X G (fa 49 (f := .glo "_law_checked_widths") rfl)
  have b__law_checked_widths : Binds K fd__law_checked_widths ["_law_widths"] [] := F__law_checked_widths.bindsN fun _ _ _ _ _ _ us hl => match us, hl with | [_], _ => rfl
  have c__law_checked_widths : Cal P w K mg base 5 "_law_checked_widths" (spChkW K) := ⟨⟨_, _, _, ok__law_checked_widths E__law_checked_widths c_check_widths R_BadWidths h_BW_BW, g__law_checked_widths, E__law_checked_widths.kp, b__law_checked_widths⟩⟩
  obtain ⟨fd__law_checked_row, F__law_checked_row⟩ := c.def_ 31 (d := dF "_law_checked_row" 44) rfl
  have E__law_checked_row : L2.Fun K "_law_checked_row" "_law_checked_row" (topS 44) (He.ga K "_law_checked_row") fd__law_checked_row := fun_of F__law_checked_row
  have g__law_checked_row : mg "_law_checked_row" = some (.ref (He.ga K "_law_checked_row")) := glo_ok X G (fa 50 (f := .glo "_law_checked_row") rfl)
  have b__law_checked_row : Binds K fd__law_checked_row ["_law_widths", "_law_row"] [] := F__law_checked_row.bindsN fun _ _ _ _ _ _ us hl => match us, hl with | [_, _], _ => rfl
  have c__law_checked_row : Cal P w K mg base 7 "_law_checked_row" (spChkR K) := ⟨⟨_, _, _, ok__law_checked_row E__law_checked_row c_check_row R_BadRow R_BadWidths h_BR_BR h_BW_BR h_BW_BW, g__law_checked_row, E__law_checked_row.kp, b__law_checked_row⟩⟩
  obtain ⟨fd__law_checked_store, F__law_checked_store⟩ := c.def_ 32 (d := dF "_law_checked_store" 45) rfl
  have E__law_checked_store : L2.Fun K "_law_checked_store" "_law_checked_store" (topS 45) (He.ga K "_law_checked_store") fd__law_checked_store := fun_of F__law_checked_store
  have g__law_checked_store : mg "_law_checked_store" = some (.ref (He.ga K "_law_checked_store")) := glo_ok X G (fa 51 (f := .glo "_law_checked_store") rfl)
  have b__law_checked_store : Binds K fd__law_checked_store ["_law_widths", "_law_rows"] [] := F__law_checked_store.bindsN fun _ _ _ _ _ _ us hl => match us, hl with | [_, _], _ => rfl
  have c__law_checked_store : Cal P w K mg base 7 "_law_checked_store" (spChkS K) := ⟨⟨_, _, _, ok__law_checked_store E__law_checked_store c_check_store R_BadStore R_BadWidths h_BS_BS h_BW_BS h_BW_BW, g__law_checked_store, E__law_checked_store.kp, b__law_checked_store⟩⟩
  obtain ⟨fd__law_widths_due, F__law_widths_due⟩ := c.def_ 33 (d := dF "_law_widths_due" 46) rfl
  have E__law_widths_due : L2.Fun K "_law_widths_due" "_law_widths_due" (topS 46) (He.ga K "_law_widths_due") fd__law_widths_due := fun_of F__law_widths_due
  have g__law_widths_due : mg "_law_widths_due" = some (.ref (He.ga K "_law_widths_due")) := glo_ok X G (fa 52 (f := .glo "_law_widths_due") rfl)
  have b__law_widths_due : Binds K fd__law_widths_due ["_law_widths"] [] := F__law_widths_due.bindsN fun _ _ _ _ _ _ us hl => match us, hl with | [_], _ => rfl
  have c__law_widths_due : Cal P w K mg base 3 "_law_widths_due" (spWDue K) := ⟨⟨_, _, _, ok__law_widths_due E__law_widths_due c__law_seq c__law_int m_len m_range m_tuple, g__law_widths_due, E__law_widths_due.kp, b__law_widths_due⟩⟩
  obtain ⟨fd__law_store_due, F__law_store_due⟩ := c.def_ 34 (d := dF "_law_store_due" 47) rfl
  have E__law_store_due : L2.Fun K "_law_store_due" "_law_store_due" (topS 47) (He.ga K "_law_store_due") fd__law_store_due := fun_of F__law_store_due
  have g__law_store_due : mg "_law_store_due" = some (.ref (He.ga K "_law_store_due")) := glo_ok X G (fa 53 (f := .glo "_law_store_due") rfl)
  have b__law_store_due : Binds K fd__law_store_due ["_law_widths", "_law_rows"] [] := F__law_store_due.bindsN fun _ _ _ _ _ _ us hl => match us, hl with | [_, _], _ => rfl
  have c__law_store_due : Cal P w K mg base 11 "_law_store_due" (spSDue K) := ⟨⟨_, _, _, ok__law_store_due E__law_store_due c__law_seq c__law_word (c__law_deep 8) m_len m_range m_tuple m_sorted m_set, g__law_store_due, E__law_store_due.kp, b__law_store_due⟩⟩
  obtain ⟨fd__law_store_values, F__law_store_values⟩ := c.def_ 15 (d := dF "_law_store_values" 28) rfl
  have E__law_store_values : L2.Fun K "_law_store_values" "_law_store_values" (topS 28) (He.ga K "_law_store_values") fd__law_store_values := fun_of F__law_store_values
  have g__law_store_values : mg "_law_store_values" = some (.ref (He.ga K "_law_store_values")) := glo_ok X G (fa 34 (f := .glo "_law_store_values") rfl)
  have b__law_store_values : Binds K fd__law_store_values ["_law_store"] [] := F__law_store_values.bindsN fun _ _ _ _ _ _ us hl => match us, hl with | [_], _ => rfl
  have c__law_store_values : Cal P w K mg base 1 "_law_store_values" (spLVals K) := ⟨⟨_, _, _, ok__law_store_values E__law_store_values m_list m_sorted m_set, g__law_store_values, E__law_store_values.kp, b__law_store_values⟩⟩
  obtain ⟨fd__law_any_value, F__law_any_value⟩ := c.def_ 26 (d := dF "_law_any_value" 39) rfl
  have E__law_any_value : L2.Fun K "_law_any_value" "_law_any_value" (topS 39) (He.ga K "_law_any_value") fd__law_any_value := fun_of F__law_any_value
  have g__law_any_value : mg "_law_any_value" = some (.ref (He.ga K "_law_any_value")) := glo_ok X G (fa 45 (f := .glo "_law_any_value") rfl)
  have b__law_any_value : Binds K fd__law_any_value ["_law_hand_here"] [] := F__law_any_value.bindsN fun _ _ _ _ _ _ us hl => match us, hl with | [_], _ => rfl
  have c__law_any_value : Cal P w K mg base 3 "_law_any_value" (spAny K) := ⟨⟨_, _, _, ok__law_any_value E__law_any_value c__law_take, g__law_any_value, E__law_any_value.kp, b__law_any_value⟩⟩
  obtain ⟨fd__law_no_value, F__law_no_value⟩ := c.def_ 27 (d := dF "_law_no_value" 40) rfl
  have E__law_no_value : L2.Fun K "_law_no_value" "_law_no_value" (topS 40) (He.ga K "_law_no_value") fd__law_no_value := fun_of F__law_no_value
  have g__law_no_value : mg "_law_no_value" = some (.ref (He.ga K "_law_no_value")) := glo_ok X G (fa 46 (f := .glo "_law_no_value") rfl)
  have b__law_no_value : Binds K fd__law_no_value ["_law_hand_here"] [] := F__law_no_value.bindsN fun _ _ _ _ _ _ us hl => match us, hl with | [_], _ => rfl
  have c__law_no_value : Cal P w K mg base 3 "_law_no_value" (spNoVal K) := ⟨⟨_, _, _, ok__law_no_value E__law_no_value c__law_take, g__law_no_value, E__law_no_value.kp, b__law_no_value⟩⟩
  obtain ⟨fd__law_rid, F__law_rid⟩ := c.def_ 16 (d := dF "_law_rid" 29) rfl
  have E__law_rid : L2.Fun K "_law_rid" "_law_rid" (topS 29) (He.ga K "_law_rid") fd__law_rid := fun_of F__law_rid
  have g__law_rid : mg "_law_rid" = some (.ref (He.ga K "_law_rid")) := glo_ok X G (fa 35 (f := .glo "_law_rid") rfl)
  have b__law_rid : Binds K fd__law_rid ["_law_hand_here"] [] := F__law_rid.bindsN fun _ _ _ _ _ _ us hl => match us, hl with | [_], _ => rfl
  have c__law_rid : Cal P w K mg base 3 "_law_rid" (spRid K) := ⟨⟨_, _, _, ok__law_rid E__law_rid c__law_take, g__law_rid, E__law_rid.kp, b__law_rid⟩⟩
  obtain ⟨fd__law_lists, F__law_lists⟩ := c.def_ 17 (d := dF "_law_lists" 30) rfl
  have E__law_lists : L2.Fun K "_law_lists" "_law_lists" (topS 30) (He.ga K "_law_lists") fd__law_lists := fun_of F__law_lists
  have g__law_lists : mg "_law_lists" = some (.ref (He.ga K "_law_lists")) := glo_ok X G (fa 36 (f := .glo "_law_lists") rfl)
  have b__law_lists : Binds K fd__law_lists ["_law_hand_here", "_law_thing"] [] := F__law_lists.bindsN fun _ _ _ _ _ _ us hl => match us, hl with | [_, _], _ => rfl
  have c__law_lists : Cal P w K mg base 3 "_law_lists" (spLists K) := ⟨⟨_, _, _, ok__law_lists E__law_lists c__law_take m_list m_tuple, g__law_lists, E__law_lists.kp, b__law_lists⟩⟩
  obtain ⟨fd__law_many_widths, F__law_many_widths⟩ := c.def_ 25 (d := dF "_law_many_widths" 38) rfl
  have E__law_many_widths : L2.Fun K "_law_many_widths" "_law_many_widths" (topS 38) (He.ga K "_law_many_widths") fd__law_many_widths := fun_of F__law_many_widths
  have g__law_many_widths : mg "_law_many_widths" = some (.ref (He.ga K "_law_many_widths")) := glo_ok X G (fa 44 (f := .glo "_law_many_widths") rfl)
  have b__law_many_widths : Binds K fd__law_many_widths ["_law_hand_here"] [] := F__law_many_widths.bindsN fun _ _ _ _ _ _ us hl => match us, hl with | [_], _ => rfl
  have c__law_many_widths : Cal P w K mg base 3 "_law_many_widths" (spWidths K) := ⟨⟨_, _, _, ok__law_many_widths E__law_many_widths c__law_take m_range, g__law_many_widths, E__law_many_widths.kp, b__law_many_widths⟩⟩
  obtain ⟨fd__law_loose, F__law_loose⟩ := c.def_ 24 (d := dF "_law_loose" 37) rfl
  have E__law_loose : L2.Fun K "_law_loose" "_law_loose" (topS 37) (He.ga K "_law_loose") fd__law_loose := fun_of F__law_loose
  have g__law_loose : mg "_law_loose" = some (.ref (He.ga K "_law_loose")) := glo_ok X G (fa 43 (f := .glo "_law_loose") rfl)
  have b__law_loose : Binds K fd__law_loose ["_law_hand_here", "_law_thing"] [] := F__law_loose.bindsN fun _ _ _ _ _ _ us hl => match us, hl with | [_, _], _ => rfl
  have c__law_loose : ∀ n : Nat, Cal P w K mg base (n + 3) "_law_loose" (spLoose K n) := fun n => ⟨⟨_, _, _, ok__law_loose E__law_loose g__law_loose b__law_loose c__law_seq c__law_take m_tuple n, g__law_loose, E__law_loose.kp, b__law_loose⟩⟩
  obtain ⟨fd__law_spoilt, F__law_spoilt⟩ := c.def_ 29 (d := dF "_law_spoilt" 42) rfl
  have E__law_spoilt : L2.Fun K "_law_spoilt" "_law_spoilt" (topS 42) (He.ga K "_law_spoilt") fd__law_spoilt := fun_of F__law_spoilt
  have g__law_spoilt : mg "_law_spoilt" = some (.ref (He.ga K "_law_spoilt")) := glo_ok X G (fa 48 (f := .glo "_law_spoilt") rfl)
  have b__law_spoilt : Binds K fd__law_spoilt ["_law_hand_here", "_law_widths", "_law_thing"] [] := F__law_spoilt.bindsN fun _ _ _ _ _ _ us hl => match us, hl with | [_, _, _], _ => rfl
  have c__law_spoilt : Cal P w K mg base 4 "_law_spoilt" (spSpoilt K) := ⟨⟨_, _, _, ok__law_spoilt E__law_spoilt c__law_take c__law_any_value c__law_no_value c__law_rid m_len m_range m_list, g__law_spoilt, E__law_spoilt.kp, b__law_spoilt⟩⟩
  obtain ⟨fd__law_drawn_rows, F__law_drawn_rows⟩ := c.def_ 35 (d := dF "_law_drawn_rows" 48) rfl
  have E__law_drawn_rows : L2.Fun K "_law_drawn_rows" "_law_drawn_rows" (topS 48) (He.ga K "_law_drawn_rows") fd__law_drawn_rows := fun_of F__law_drawn_rows
  have g__law_drawn_rows : mg "_law_drawn_rows" = some (.ref (He.ga K "_law_drawn_rows")) := glo_ok X G (fa 54 (f := .glo "_law_drawn_rows") rfl)
  have b__law_drawn_rows : Binds K fd__law_drawn_rows ["_law_hand_here", "_law_widths"] [] := F__law_drawn_rows.bindsN fun _ _ _ _ _ _ us hl => match us, hl with | [_, _], _ => rfl
  have c__law_drawn_rows : Cal P w K mg base 4 "_law_drawn_rows" (spRows K) := ⟨⟨_, _, _, ok__law_drawn_rows E__law_drawn_rows c__law_take c__law_any_value m_len m_range m_list, g__law_drawn_rows, E__law_drawn_rows.kp, b__law_drawn_rows⟩⟩
  exact ok_law EL sys c__law_hand c__law_many_widths c__law_take (c__law_loose 9) c__law_widths_due c__law_store_due c__law_checked_widths c__law_checked_store c__law_checked_row c__law_lists c__law_rid c__law_any_value c__law_no_value c__law_int c__law_truth c__law_is_value c__law_seq c__law_word (c__law_deep 8) c__law_drawn_rows c__law_spoilt c_store_values c__law_store_values c_is_value c_is_whole c_is_sequence c1_is_whole c2_is_whole cN_is_whole m_list m_tuple m_len m_range m_repr m_isinstance
end
end My
set_option Elab.async false
set_option linter.all false
set_option maxRecDepth 100000
set_option maxHeartbeats 0
open PySem PySem.W PySem.Calls PyProof.Rows
theorem PySem.Challenge.cw_meetwhere_k01_whole_stores_and_rows_judg_holds : PySem.Challenge.rw_meetwhere_k01_whole_stores_and_rows_judg.Holds := by
  w_on; o_law
  refine HandSHeadRun.head_any (r := OpenLaw.row PySem.Challenge.rw_meetwhere_k01_whole_stores_and_rows_judg) (q := view (OpenLaw.row PySem.Challenge.rw_meetwhere_k01_whole_stores_and_rows_judg).prog [49]) (H := My.hk) (ob := My.ob) (M := 14000) (loose := My.names) (d := HandSHeadRun.topDef (OpenLaw.row PySem.Challenge.rw_meetwhere_k01_whole_stores_and_rows_judg).prog 49) (kwd := []) My.ob_eq
    (by kernel_rfl) (fun s => by kernel_rfl) My.run (by kernel_rfl) (by kernel_rfl) (by kernel_rfl) (by rfl) (by first | assumption | decide +kernel) (by decide +kernel) ⟨rfl, rfl, rfl, rfl, rfl, by decide +kernel⟩ ?hw ?hc
  case hw => w_witness2
  case hc =>
    refine My.walk_ofG (l := PySem.Challenge.rw_meetwhere_k01_whole_stores_and_rows_judg) (n := 63) (k := 13) (x := "_law_script") rfl (by decide) (by kernel_rfl) ⟨rfl, by decide, by decide⟩ ?F
    intro w mg fa h Y G hmg0
    obtain ⟨K, KX, c⟩ := Y
    have hmg : mg ("law" : PySem.Str) = some (.ref fa) := by
      have e : (HandSHeadRun.topDef (OpenLaw.row PySem.Challenge.rw_meetwhere_k01_whole_stores_and_rows_judg).prog 49).name = ("law" : PySem.Str) := by kernel_rfl
      rw [← e]
      exact hmg0
    have hga : mg ("law" : PySem.Str) = some (.ref (He.ga K "law")) := He.glo_ok KX G (List.all_eq_true.mp (He.ba (He.ba (show (MyH.famAll K "DealError" My.tab && ((My.fas.all fun f => f.ok K) && MyN.sysB K)) = true from c.m.fact)).2).1 (.glo "law") (List.mem_of_getElem? (i := 55) rfl))
    have efa : He.ga K "law" = fa := Value.ref.inj (Option.some.inj (hga.symm.trans hmg))
    obtain ⟨fd, hb, hF⟩ := My.law_ok (P := (PySem.Challenge.rw_meetwhere_k01_whole_stores_and_rows_judg).prog) (w := w) KX G c
    rw [efa] at hF
    exact ⟨K, fd, My.spLaw K, KX, fun s u => hb s u, fun H a ns hl _ hS => ⟨a, ns, rfl, hS, hl, fun _ => rfl⟩, fun base _ _ => hF base⟩
