import PyProof.Rows.All
import Wide.All
import OpenK.AllK
import Wide.FinOn
import HandS.ForMost
import HandS.Evl
import HandS.Codes
import HandS.IsInst
import HandS.RaiseMore
import HandS.TupAny
import HandS.ExcInit
import HandS.Walk
import KE.KExcIs
import PyProof.ReprRoads
import KE.KRevSl
import HandS.Iter
import HandS.Conv
import HandS.DictComp
import KE.GoesEnumKw
import KE.KTupSum
import HandS.Defaults
import HandS.List
import HandS.MakeKw
import KE.KDictZip
import KE.KItemsList
import HandS.ListItems
import HandS.More
import HandS.Comp
import HandS.HeadHook2
import HandS.Head0
import HandS.Head1
import HandS.Head2
import HandS.SortRule
import PySem.Challenge.RW_bookplaces_k37_divided_and_merged
set_option Elab.async false
set_option linter.all false
set_option maxRecDepth 100000
/-! B0: what all of these proofs share. -/
namespace My
open PySem PySem.Spec PyProof.Rows L2
/-! ### defs called by their names -/
def Df (K : PySem.W.Frag) (mg : Str → Option Value) (x : Str) (st : Stmt) (ps : List Str) : Prop := ∃ f fd, Fun K x x st f fd ∧ mg x = some (.ref f) ∧ Binds K fd ps []
def Cl (P : Program) (w : World) (K : PySem.W.Frag) (mg : Str → Option Value) (base : Heap) (k : Nat) (x : Str) (ps : List Str) (sp : Sp) : Prop := ∃ f fd, FnOk P w K mg base CX0 k f fd ps sp ∧ mg x = some (.ref f) ∧ PySem.W.keepIn K (.ref f) = true ∧ Binds K fd ps []
section
variable {P : Program} {w : World} {K : PySem.W.Frag} {mg : Str → Option Value} {base : Heap}
theorem ok_of {x : Str} {st : Stmt} {N ps : List Str} {k : Nat} {sp : Sp} (D : Df K mg x st ps) (S : FnScope N ps (defScope st)) (len : ∀ vs H Q E, sp vs H Q E → vs.length = ps.length)
    (hbody : ∀ (f : Addr) (cdv : Value) (A : Around) (outer : List Env) (s : Shared) (H : Hp) (vs : List V) (Q : VK) (E : XK), Room k (A.deeper (envOfC x (defScope st) s.heap.objs.size f cdv)) → sp vs H Q E →
      ∃ t, PSs (cxOf CX0 P w K mg base N x (defScope st) f cdv A outer s H E).nox (defBody st) t ∧ t { nx := fun _ H' => Q .non H', rt := Q } (start N vs) H) : Cl P w K mg base (k + 1) x ps sp := by
  obtain ⟨f, fd, F, hm, b⟩ := D
  exact ⟨f, fd, F.ok S len (hbody f), hm, F.kp, b⟩
end
section
variable {X : Cx}
theorem pe_cl {k j : Nat} {x : Str} {ps : List Str} {sp : Sp} {e : Expr} {es : List Expr} {t : TA} {p pos : Pos} (c : Cl X.prog X.w X.K X.mg X.base k x ps sp) (hr : Room j X.A) (hk : k ≤ j) (hg : Gl X x) (ha : PA X (e :: es) t)
    (hdb : (x == ("__debug__" : Str)) = false := by decide) (he : starEach (e :: es) X.env = (false, eval e X.env) :: starEach es X.env := by rfl) (hpl : (backTo pos (starEach es X.env)).any (·.1) = false := by rfl) :
    PE X (.Call (.Name x p) (e :: es) [] pos) (tCall sp [] E0 t) := by
  obtain ⟨f, fd, F, hm, kp, b⟩ := c
  exact pe_call F (hr.mono hk) hg hm kp b .nil pass0 ha hdb he hpl
theorem call_repr_bool : CallR X (.builtin "repr") (fun xs H Q => ∃ b, xs = [.bl b] ∧ Q (.str (if b then "True" else "False")) H) := by
  intro pins s σ H xs us Q I r h
  obtain ⟨i, rfl, q⟩ := h
  obtain ⟨u, rfl, rfl⟩ := vals1 r
  exact PySem.P.repr_of_bool ⟨.str _, H, I.tok _, ⟨_, rfl⟩, q⟩
end
theorem repr_ne (a b : Bool) : (!decide ((V.str (if a then "True" else "False")) = V.str (if b then "True" else "False"))) = (a != b) := by
  cases a <;> cases b <;> decide +kernel

/-! ### heaps: all but the thing at p is as it was -/
def Bt (p : Addr) (H H' : Hp) : Prop := ∀ b o, b ≠ p → H b = some o → H' b = some o
theorem Bt.refl {p : Addr} {H : Hp} : Bt p H H := fun _ _ _ h => h
theorem Bt.trans {p : Addr} {H H1 H2 : Hp} (a : Bt p H H1) (b : Bt p H1 H2) : Bt p H H2 := fun c o n h => b c o n (a c o n h)
theorem Bt.same {p : Addr} {H H1 : Hp} (a : Same H H1) : Bt p H H1 := fun c o _ h => a c o h
theorem Bt.upd {p : Addr} {H : Hp} {o : HO} : Bt p H (upd H p o) := fun c o n h => by
  rw [upd_ne n]
  exact h
theorem Bt.new {p q : Addr} {H : Hp} {o : HO} (h : H q = none) : Bt p H (L2.upd H q o) := fun c u _ e => by
  rw [upd_ne (ne_of_none e h)]
  exact e
theorem same_new {H : Hp} {p : Addr} {o : HO} (h : H p = none) : Same H (upd H p o) := fun b x e => by
  rw [upd_ne (ne_of_none e h)]
  exact e

/-! ### the box of which the law draws -/
def bx (i j k : Int) : HO := .lst [.int i, .int j, .int k]
def Box (n : Nat) (H : Hp) (p : Addr) : Prop := ∃ i j k : Int, H p = some (bx i j k) ∧ 0 ≤ i ∧ 0 ≤ j ∧ j < 2147483587 ∧ 0 ≤ k ∧ k ≤ n
theorem Box.mono {n m : Nat} {H : Hp} {p : Addr} (h : Box n H p) (l : n ≤ m) : Box m H p := by
  obtain ⟨i, j, k, e, a, b, c, d, f⟩ := h
  exact ⟨i, j, k, e, a, b, c, d, by omega⟩
theorem Box.same {n : Nat} {H H' : Hp} {p : Addr} (h : Box n H p) (l : Same H H') : Box n H' p := by
  obtain ⟨i, j, k, e, a, b, c, d, f⟩ := h
  exact ⟨i, j, k, l _ _ e, a, b, c, d, f⟩
theorem Box.ne {n : Nat} {H : Hp} {p q : Addr} (h : Box n H p) (l : H q = none) : p ≠ q := by
  obtain ⟨i, j, k, e, _⟩ := h
  exact ne_of_none e l
/-- what a def that draws leaves: the box, some draws further on, and all else as it was -/
structure Dr (p : Addr) (n : Nat) (H H' : Hp) : Prop where
  box : Box n H' p
  bt : Bt p H H'
theorem nat_small {z : Int} {m : Nat} (h0 : 0 ≤ z) (h1 : z < m) : z.natAbs < m := by omega

def sp_cell (K : PySem.W.Frag) : Sp := fun vs H Q _ => ∃ (a : Addr) (ns : List Int) (k : Int), vs = [.ref a, .int k] ∧ SqL K H a (ns.map V.int) ∧ 0 ≤ k ∧ ∀ z, Q (.int z) H
def sp_box : Sp := fun vs H Q _ => ∃ c : Int, vs = [.int c] ∧ ∀ p H', H p = none → Same H H' → Box 0 H' p → Q (.ref p) H'
def sp_take : Sp := fun vs H Q _ => ∃ (p : Addr) (n : Nat) (m : Int), vs = [.ref p, .int m] ∧ Box n H p ∧ n ≤ 1000000 ∧ 0 < m ∧ m < 1073741824 ∧ ∀ d H', 0 ≤ d → d < m → Dr p (n + 1) H H' → Q (.int d) H'
end My
namespace My
open PySem PySem.Spec PyProof.Rows L2
theorem ix_some {α : Type} (xs : List α) {i : Int} (h0 : 0 ≤ i) (h1 : i < xs.length) : ∃ v, atI xs i = some v ∧ v ∈ xs := by
  have hj : i.toNat < xs.length := by omega
  refine ⟨xs[i.toNat], ?_, List.getElem_mem hj⟩
  have e : xs[i.toNat]? = some xs[i.toNat] := List.getElem?_eq_getElem hj
  have := atI_nat e
  rwa [Int.toNat_of_nonneg h0] at this
theorem Dr.refl {p : Addr} {n : Nat} {H : Hp} (h : Box n H p) : Dr p n H H := ⟨h, Bt.refl⟩
theorem Dr.trans {p : Addr} {n m : Nat} {H H1 H2 : Hp} (a : Dr p n H H1) (b : Dr p m H1 H2) : Dr p m H H2 := ⟨b.box, a.bt.trans b.bt⟩
theorem Dr.new {p q : Addr} {n : Nat} {H H1 : Hp} {o : HO} (a : Dr p n H H1) (h : H1 q = none) : Dr p n H (upd H1 q o) := ⟨a.box.same (same_new h), a.bt.trans (Bt.new h)⟩
theorem Dr.mono {p : Addr} {n m : Nat} {H H1 : Hp} (a : Dr p n H H1) (l : n ≤ m) : Dr p m H H1 := ⟨a.box.mono l, a.bt⟩
theorem joinL1 : ∀ cs : List Nat, TL.joinL [] (cs.map fun c => [c]) = cs
  | [] => rfl
  | [c] => rfl
  | c :: d :: r => by
    have e := joinL1 (d :: r)
    show c :: ([] ++ TL.joinL [] ((d :: r).map fun c => [c])) = c :: d :: r
    rw [List.nil_append, e]
theorem join_signs (cs : List Nat) : Txt.join ("" : Str) (cs.map fun c => (⟨#[c]⟩ : Str)) = SX.S cs := by
  have e := SX.join_S [] (cs.map fun c => [c])
  rw [joinL1, List.map_map] at e
  exact e
theorem lens1 : ∀ cs : List Nat, ((cs.map fun c => (⟨#[c]⟩ : Str)).map (·.length)).sum = cs.length
  | [] => rfl
  | c :: r => by
    have e := lens1 r
    rw [List.map_cons, List.map_cons, List.sum_cons, e, List.length_cons]
    show 1 + r.length = r.length + 1
    omega
end My
set_option Elab.async false
set_option linter.all false
set_option maxRecDepth 100000
set_option maxHeartbeats 4000000
/-! B1: an own exception as a value: made by its own __init__, its base's __init__ called by the class's name, isinstance of it. -/
namespace My
open PySem PySem.Spec PyProof.Rows L2
theorem S_le {l : List Nat} (h : l.length ≤ 1000) : (SX.S l).length ≤ sizeLine := by
  rw [SX.S_len]
  exact Nat.le_trans h (by decide)
theorem sign_ok {c : Nat} (h : c < 128) : PyData.strOk (⟨#[c]⟩ : Str) = true := by
  simp [PyData.strOk]
  omega
theorem lay_signs : ∀ cs : List Nat, (∀ c ∈ cs, c < 128) → PyData.canLayAll0 (cs.map fun c => PyData.str ⟨#[c]⟩) = true
  | [], _ => rfl
  | c :: r, h => by
    show (PyData.strOk (⟨#[c]⟩ : Str) && PyData.canLayAll0 (r.map fun c => PyData.str ⟨#[c]⟩)) = true
    rw [sign_ok (h c (List.mem_cons_self ..)), lay_signs r fun d hd => h d (List.mem_cons_of_mem _ hd)]
    rfl
theorem dep_signs : ∀ cs : List Nat, PyData.depthAll (cs.map fun c => PyData.str ⟨#[c]⟩) = 0
  | [] => rfl
  | c :: r => by
    show max 0 (PyData.depthAll (r.map fun c => PyData.str ⟨#[c]⟩)) = 0
    rw [dep_signs r]
    rfl
theorem shaped_signs {cs : List Nat} (h : ∀ c ∈ cs, c < 128) : SeqAt.shaped (.list (cs.map fun c => PyData.str ⟨#[c]⟩)) = true := by
  unfold SeqAt.shaped
  rw [Bool.and_eq_true]
  refine ⟨lay_signs cs h, decide_eq_true ?_⟩
  show PyData.depthAll _ + 1 ≤ 64
  rw [dep_signs]
  decide
theorem dpall_signs {K : PySem.W.Frag} {H : Hp} : ∀ cs : List Nat, DpAll K H (cs.map fun c => V.str ⟨#[c]⟩) (cs.map fun c => PyData.str ⟨#[c]⟩)
  | [] => .nil
  | c :: r => .cons (.str _) (dpall_signs r)
theorem eqv_nil (ds : List PyData) : PyData.eqv (.list ds) (.list []) = ds.isEmpty := by
  cases ds with
  | nil => rfl
  | cons a r => rfl
/-- C(e, ..) as a value, C's own __init__ keeping sp -/
def tMkV (C : Addr) (sp : Sp) (ta : TA) : TE := fun σ H Q => ta σ H fun vs H1 => vs.length ≤ 1000 ∧ ∀ a, H1 a = none → sp (.ref a :: vs) (upd H1 a (exo a C none)) (fun v H2 => v = .non ∧ Q (.ref a) H2) E0
section
variable {X : Cx} {e : Expr} {es : List Expr} {ta : TA} {p p1 p2 pos : Pos}
theorem pe_oexv {x : Str} {C fI : Addr} {k : Nat} {fd : FuncData} {ps : List Str} {sp : Sp} (T : OexC X.K C) (iC : PySem.W.findIn X.K (.ref C) "__init__" = some (some (.ref fI))) (tI : PySem.W.typeIn X.K (.ref fI) = some (.type "function"))
    (F1 : FnOk X.prog X.w X.K X.mg X.base CX0 k fI fd ps sp) (hr : Room (k + 1) X.A) (hb : Binds X.K fd ps []) (hg : Gl X x) (hm : X.mg x = some (.ref C)) (ha : PA X (e :: es) ta)
    (hdb : (x == ("__debug__" : Str)) = false := by decide) (he : starEach (e :: es) X.env = (false, eval e X.env) :: starEach es X.env := by rfl) (hpl : (backTo pos (starEach es X.env)).any (·.1) = false := by rfl) :
    PE X (.Call (.Name x p) (e :: es) [] pos) (tMkV C sp ta) := by
  refine ⟨fun pins s σ H Q I h => ?_⟩
  obtain ⟨nm, q, N, bs, bm, sn, sub, ab, col, dd, k0, k1, k2, k3, k5, hC, hbm⟩ := T.cls
  refine wpAny_Call_Name_kw (ld_glob I hg hm ?_ hdb)
  refine PySem.W.callWith_K (h₀ := X.base) I.ok.mod.kin T.kC (thn (ha.run pos pins s σ H _ I h) fun us s1 ⟨vs, H1, I1, r1, hz, q1⟩ => ⟨I1.kIn, ?_⟩) he hpl
  show wpAny _ _ (call (.ref C) us) _ _ _
  obtain ⟨hp, g, dr, tk, os⟩ := s1
  have hsz : hp.objs.size ≤ hp.objs.size + 1 := Nat.le_succ _
  have hn : H1 (hp.objs.size + 1) = none := I1.hok.fresh hsz
  have hq := q1 (hp.objs.size + 1) hn
  have kk : ∀ b o, hp.get? b = some o → ((hp.push (PySem.W.kdv_tup us)).push (PySem.HandSPX.excO C hp.objs.size)).get? b = some o := fun b o e => Heap.get?_push_of_some _ (Heap.get?_push_of_some _ e)
  have hget : ((hp.push (PySem.W.kdv_tup us)).push (PySem.HandSPX.excO C hp.objs.size)).get? (hp.objs.size + 1) = some (PySem.HandSPX.excO C hp.objs.size) := by heap_get
  have I2 : Inv X pins σ (upd H1 (hp.objs.size + 1) (exo (hp.objs.size + 1) C none)) ⟨(hp.push (PySem.W.kdv_tup us)).push (PySem.HandSPX.excO C hp.objs.size), g, dr, tk, os⟩ :=
    I1.laid (t' := tk) (a := hp.objs.size + 1) (o := exo (hp.objs.size + 1) C none) (h' := (hp.push (PySem.W.kdv_tup us)).push (PySem.HandSPX.excO C hp.objs.size)) kk hsz (exo_ok hget)
  have r2 : Vals (V.ref (hp.objs.size + 1) :: vs) (Value.ref (hp.objs.size + 1) :: us) := .cons rfl r1
  have hl : (Value.ref (hp.objs.size + 1) :: us ++ []).length = ps.length := by
    rw [List.append_nil]
    have e := r2.length
    rw [F1.len _ _ _ _ hq] at e
    exact e.symm
  have hus : us.length ≤ sizeLine := by
    rw [← Paired.length r1, sizeLine_eq]
    omega
  have hbb := hb ⟨(hp.push (PySem.W.kdv_tup us)).push (PySem.HandSPX.excO C hp.objs.size), g, dr, tk, os⟩ (Value.ref (hp.objs.size + 1) :: us) I2.kIn hl
  rw [List.append_nil] at hbb
  refine wpAny_call (PySem.HandSPX.call_own F.excBase_ValueError (fun Y => PySem.HandSPX.refsVE_contains Y bm hbm) (I1.kIn _ _ hC) (PySem.W.looks_findIn I1.kIn iC) (fun self => PySem.W.bind_fn I1.kIn self tI) hus
    (codeAny_mono (F1.run _ X.stack _ _ ⟨Value.ref (hp.objs.size + 1) :: us, []⟩ (Value.ref (hp.objs.size + 1) :: us) _ _ (fun _ _ _ => False) (hr.make C us []) (I2.env0.make C us []) hbb r2 hq) fun r s' hq' => ?_))
  cases r with
  | error er => exact pass0 pins σ _ _ er s' I2 hq'
  | ok fl =>
    cases fl with
    | ret u =>
      obtain ⟨v, H2, os2, bare2, un2, hok2, rv, ev, q2⟩ := hq'
      subst ev
      exact ⟨rv, .ref (hp.objs.size + 1), H2, I2.call' (ch := []) os2 un2 hok2 bare2 (fun b z => absurd z (by simp)), rfl, q2⟩
    | next => exact False.elim hq'
    | brk => exact False.elim hq'
    | cont => exact False.elim hq'
/-- what the written part says of reading a def off the class at C -/
structure CDef (K : PySem.W.Frag) (C : Addr) (m : Str) (f : Addr) : Prop where
  ga : PySem.W.specialIn K (.ref C) "__getattribute__" = some (some (.builtin "type.__getattribute__"))
  rd : PySem.W.readsIn K C (.type "type") = true
  at_ : PySem.W.findCls K (.ref C) (.type "type") m = some (.val (.ref f))
/-- C.m(self, ..) -/
theorem pe_cinit {pl : Sem Bool} {x m : Str} {C f : Addr} {k : Nat} {fd : FuncData} {ps : List Str} {sp : Sp} (c : CDef X.K C m f) (F : FnOk X.prog X.w X.K X.mg X.base CX0 k f fd ps sp) (hr : Room k X.A) (hg : Gl X x) (hm : X.mg x = some (.ref C)) (hk : PySem.W.keepIn X.K (.ref f) = true) (hb : Binds X.K fd ps [])
    (ha : PA X (e :: es) ta) (hdb : (x == ("__debug__" : Str)) = false := by decide)
    (hc : eval (.Call (.Attribute (.Name x p1) m p2) (e :: es) [] pos) X.env = (do
      let ov ← eval (.Name x p1) X.env
      standAt p2.atName
      let (f, first) ← holding [ov] (getMethod ov m pl)
      callWith pos f first (backTo pos (starEach (e :: es) X.env)) (backToKw pos (keywordEach [] X.env))) := by rfl)
    (he : starEach (e :: es) X.env = (false, eval e X.env) :: starEach es X.env := by rfl) (hpl : (backTo pos (starEach es X.env)).any (·.1) = false := by rfl) :
    PE X (.Call (.Attribute (.Name x p1) m p2) (e :: es) [] pos) (tCall sp [] E0 ta) := by
  refine ⟨fun pins s σ H Q I h => ?_⟩
  refine PySem.W.methodCall_KW (ld_glob I hg hm ?_ hdb) hc
  refine PySem.W.method_cls I.kIn c.ga (PySem.W.cls_value I.kIn c.rd c.at_ rfl ?_)
  show wpAny _ _ (callWith pos (Value.ref f) [] (backTo pos (starEach (e :: es) X.env)) []) _ _ _
  refine PySem.W.callWith_K (h₀ := X.base) I.ok.mod.kin hk (thn (ha.run pos pins _ σ H _ (I.tok _) h) fun us s1 ⟨vs, H1, I1, r, q⟩ => ⟨I1.kIn, ?_⟩) he hpl
  exact run_fn F hr hb .nil pass0 I1 r q
end
/-- a made exception of the class at C, its fields (the newest first) -/
def Exn (H : Hp) (a C : Addr) (fs : List (Str × V)) : Prop := ∃ dx, H a = some (exo a C (some dx)) ∧ H dx = some (exd dx fs)
theorem Exn.same {H H' : Hp} {a C : Addr} {fs : List (Str × V)} (h : Exn H a C fs) (s : Same H H') : Exn H' a C fs := by
  obtain ⟨dx, h1, h2⟩ := h
  exact ⟨dx, s _ _ h1, s _ _ h2⟩
/-- what isinstance asks of its class -/
structure ExI (K : PySem.W.Frag) (C : Addr) : Prop where
  cl : (PySem.W.clsIn K C).isSome = true
  ga : PySem.W.findIn K (.ref C) "__getattribute__" = some (some (.builtin "BaseException.__getattribute__"))
  gt : PySem.W.findIn K (.ref C) "__getattr__" = some none
  sub : PySem.W.subIn K (.ref C) (.type "BaseException") = some true
  ca : PySem.W.findIn K (.ref C) "__class__" = some (some (.builtin "object.__class__"))
  hn : PySem.W.specialIn K (.builtin "object.__class__") "__get__" = some (some (.builtin "getset_descriptor.__get__"))
  tk : PySem.W.takesIn K (.builtin "object.__class__") = some true
  hm : PySem.W.mroIn K C (.type "object") = some true
section
variable {X : Cx} {pins : List (Addr × Obj)} {σ : L2.St} {H : Hp} {s : Shared}
theorem exn_inst {a C : Addr} {fs : List (Str × V)} (I : Inv X pins σ H s) (h : Exn H a C fs) : ∃ ox oD, PySem.W.InstAt s.heap a ox C (some oD) := by
  obtain ⟨dx, h1, h2⟩ := h
  obtain ⟨t1, ho⟩ := exo_at I.hok h1
  obtain ⟨mA, hns, rel⟩ := exd_at I.hok h2
  obtain ⟨oD, _, _, hoD, _, _⟩ := hns.count (within_of rel)
  exact ⟨_, oD, ho, rfl, rfl, hoD⟩
/-- isinstance(x, c): x a made exception -/
theorem call_isx : CallR X (.builtin "isinstance") (fun xs H Q => ∃ (a C : Addr) (fs : List (Str × V)) (c : V) (u : Value) (b : Bool), xs = [.ref a, c] ∧ Exn H a C fs ∧ ExI X.K C ∧ ClsV c u ∧ PySem.W.kitOne X.K (.ref C) u = some b ∧ Q (.bl b) H) := by
  intro pins s σ H xs us Q I r h
  obtain ⟨a, C, fs, c, u, b, rfl, hx, D, k, e, q⟩ := h
  obtain ⟨u1, u2, rfl, r1, r2⟩ := vals2 r
  have e2 := k.eq r2
  subst e2
  cases (show u1 = Value.ref a from r1)
  obtain ⟨ox, oD, hI⟩ := exn_inst I hx
  exact PySem.W.kia_one (PySem.W.kitx_exc (x := a) (ox := ox) (od := some oD) D.cl D.ga D.gt D.sub D.ca D.hn D.tk D.hm) I.kIn hI e (fun z => nomatch z) fun tk => ⟨.bl b, H, I.tok tk, rfl, q⟩
/-- both -/
theorem call_isb : CallR X (.builtin "isinstance") (fun xs H Q => rIsi X.K xs H Q ∨ ∃ (a C : Addr) (fs : List (Str × V)) (c : V) (u : Value) (b : Bool), xs = [.ref a, c] ∧ Exn H a C fs ∧ ExI X.K C ∧ ClsV c u ∧ PySem.W.kitOne X.K (.ref C) u = some b ∧ Q (.bl b) H) := CallR.or call_isi call_isx
end
end My
set_option Elab.async false
set_option linter.all false
set_option maxRecDepth 100000
set_option maxHeartbeats 4000000
/-! B2: promises of defs that are called while nothing is being shown (no repr on the way), repr of data; data that stand apart from one object. -/
namespace My
open PySem PySem.Spec PyProof.Rows L2
/-! ### promises where nothing is being shown -/
structure FnG (P : Program) (w : World) (K : PySem.W.Frag) (mg : Str → Option Value) (base : Heap) (k : Nat) (f : Addr) (fd : FuncData) (ps : List Str) (sp : Sp) : Prop where
  len : ∀ vs H Q E, sp vs H Q E → vs.length = ps.length
  go : ∀ (A : Around) (out : List Env) (s : Shared) (H : Hp) (ar : Args) (us : List Value) (vs : List V) (Q : VK) (E : XK), Room k A → A.guards = some [] → Env0 P w K mg base A out s H → BindsTo s fd ar (ps.zip us) → Vals vs us → sp vs H Q E →
    codeAny (model P w) A (.call (.ref f) ar) (CR CX0 out P w H s Q E) s
section
variable {P : Program} {w : World} {K : PySem.W.Frag} {mg : Str → Option Value} {base : Heap}
theorem fnG_of {k : Nat} {f : Addr} {nm ql : Str} {pa : Arguments} {bd : List Stmt} {sc : Scope} {dV kV doc pm cdv ct oc : Value} {an od : Option Addr} {osl : Array (Option Value)} {N ps : List Str} {sp : Sp}
    (look : K.lookup f = some ⟨oc, od, .func (PySem.W.fnOf nm ql pa bd sc dV kV doc pm an cdv ct), osl⟩) (code : PySem.W.codeIn K cdv ql = true) (S : FnScope N ps sc) (len : ∀ vs H Q E, sp vs H Q E → vs.length = ps.length)
    (body : ∀ (A : Around) (out : List Env) (s : Shared) (H : Hp) (vs : List V) (Q : VK) (E : XK), Room k (A.deeper (envOfC ql sc s.heap.objs.size f cdv)) → A.guards = some [] → sp vs H Q E →
      ∃ t, PSs (cxOf CX0 P w K mg base N ql sc f cdv A out s H E) bd t ∧ t { nx := fun _ H' => Q .non H', rt := Q } (start N vs) H) :
    FnG P w K mg base (k + 1) f (PySem.W.fnOf nm ql pa bd sc dV kV doc pm an cdv ct) ps sp := by
  refine ⟨len, fun A out s H ar us vs Q E hr hg env0 hb rel hsp => ?_⟩
  have llen := len _ _ _ _ hsp
  have KS : K.In s.heap := env0.mod.kin.keeps fun b o e => (env0.bs b o e).1
  have kinds : ∀ y ∈ ps.zip us, sc.names.lookup y.1 = some .local ∨ (sc.names.lookup y.1 = some .cell ∧ ((cellsFrom (s.heap.objs.size + 1) sc.names []).lookup y.1).isSome = true) := by
    intro ⟨n, v⟩ hy
    exact (S.par n (List.of_mem_zip hy).1).elim (fun q => .inl q) fun q => .inr ⟨q, PySem.W.cellsFrom_some _ _ _ (.inl q)⟩
  refine codeAny_call_function hr.depth (KS _ _ look) rfl S.co S.gen rfl (PySem.W.codeRec_of KS code) (hb _ _ _ _ ?_)
  refine wpAny_newFunctionEnv_cells S.kind kinds fun ev he s1 z => ?_
  subst he
  refine ⟨(env0.mod.nolimit.keeps fun b o e => (env0.bs b o e).1).keeps z.toInCall.keep, codeAny_func ?_⟩
  obtain ⟨t, ht, hq⟩ := body A out s H vs Q E (hr.deeper _) hg hsp
  have I0 := inv_start (CX := CX0) (E := E) S hr.hd env0 llen rel z
  refine wpAny_mono (ht.run [] s1 (start N vs) H _ I0 hq) (fun fl s' hs => ?_) fun e s' hs => hs
  cases fl with
  | ret u => exact let ⟨v, σ', H', J, rv, q⟩ := hs; ⟨v, H', J.os, J.bare, J.base, J.hok, rv, q⟩
  | next => exact let ⟨σ', H', J, q⟩ := hs; ⟨V.non, H', J.os, J.bare, J.base, J.hok, rfl, q⟩
  | brk => exact let ⟨_, _, _, q⟩ := hs; False.elim q
  | cont => exact let ⟨_, _, _, q⟩ := hs; False.elim q
def ClG (P : Program) (w : World) (K : PySem.W.Frag) (mg : Str → Option Value) (base : Heap) (k : Nat) (x : Str) (ps : List Str) (sp : Sp) : Prop := ∃ f fd, FnG P w K mg base k f fd ps sp ∧ mg x = some (.ref f) ∧ PySem.W.keepIn K (.ref f) = true ∧ Binds K fd ps []
theorem fun_okG {x ql : Str} {st : Stmt} {f : Addr} {fd : FuncData} {N ps : List Str} {k : Nat} {sp : Sp} (F : Fun K x ql st f fd) (S : FnScope N ps (defScope st)) (len : ∀ vs H Q E, sp vs H Q E → vs.length = ps.length)
    (body : ∀ (cdv : Value) (A : Around) (out : List Env) (s : Shared) (H : Hp) (vs : List V) (Q : VK) (E : XK), Room k (A.deeper (envOfC ql (defScope st) s.heap.objs.size f cdv)) → A.guards = some [] → sp vs H Q E →
      ∃ t, PSs (cxOf CX0 P w K mg base N ql (defScope st) f cdv A out s H E).nox (defBody st) t ∧ t { nx := fun _ H' => Q .non H', rt := Q } (start N vs) H) : FnG P w K mg base (k + 1) f fd ps sp := by
  obtain ⟨oc, od, kV, doc, pm, an, cdv, ct, osl, rfl, lk, hcd⟩ := F.ex
  refine fnG_of lk hcd S len fun A out s H vs Q E hr hg hsp => ?_
  obtain ⟨t, h, q⟩ := body cdv A out s H vs Q E hr hg hsp
  exact ⟨t, h.nox, q⟩
theorem okG_of {x : Str} {st : Stmt} {N ps : List Str} {k : Nat} {sp : Sp} (D : Df K mg x st ps) (S : FnScope N ps (defScope st)) (len : ∀ vs H Q E, sp vs H Q E → vs.length = ps.length)
    (body : ∀ (f : Addr) (cdv : Value) (A : Around) (out : List Env) (s : Shared) (H : Hp) (vs : List V) (Q : VK) (E : XK), Room k (A.deeper (envOfC x (defScope st) s.heap.objs.size f cdv)) → A.guards = some [] → sp vs H Q E →
      ∃ t, PSs (cxOf CX0 P w K mg base N x (defScope st) f cdv A out s H E).nox (defBody st) t ∧ t { nx := fun _ H' => Q .non H', rt := Q } (start N vs) H) : ClG P w K mg base (k + 1) x ps sp := by
  obtain ⟨f, fd, F, hm, b⟩ := D
  exact ⟨f, fd, fun_okG F S len (body f), hm, F.kp, b⟩
end
section
variable {X : Cx}
theorem pe_clG {k j : Nat} {x : Str} {ps : List Str} {sp : Sp} {e : Expr} {es : List Expr} {t : TA} {p pos : Pos} (c : ClG X.prog X.w X.K X.mg X.base k x ps sp) (hr : Room j X.A) (gd : X.A.guards = some []) (hk : k ≤ j) (hg : Gl X x) (ha : PA X (e :: es) t)
    (hdb : (x == ("__debug__" : Str)) = false := by decide) (he : starEach (e :: es) X.env = (false, eval e X.env) :: starEach es X.env := by rfl) (hpl : (backTo pos (starEach es X.env)).any (·.1) = false := by rfl) :
    PE X (.Call (.Name x p) (e :: es) [] pos) (tCall sp [] E0 t) := by
  obtain ⟨f, fd, F, hm, kp, b⟩ := c
  refine ⟨fun pins s σ H Q I h => wpAny_Call_Name_kw (ld_glob I hg hm ?_ hdb)⟩
  refine PySem.W.callWith_K (h₀ := X.base) I.ok.mod.kin kp (thn (ha.run pos pins s σ H _ I h) fun us s1 ⟨vs, H1, I1, r, q⟩ => ⟨I1.kIn, ?_⟩) he hpl
  have q : sp (vs ++ []) H1 Q E0 := q
  rw [List.append_nil] at q
  have hl : (us ++ []).length = ps.length := by
    rw [List.append_nil, ← r.length]
    exact F.len _ _ _ _ q
  have hb := b s1 us I1.kIn hl
  rw [List.append_nil] at hb
  refine wpAny_call (codeAny_mono (F.go X.A X.stack s1 H1 ⟨us, []⟩ us vs Q E0 (hr.mono hk) gd I1.env0 hb r q) fun r s' hq => ?_)
  match r, hq with
  | .error e, hq => exact pass0 pins σ H1 s1 e s' I1 hq
  | .ok (.ret u), hq => exact I1.after hq
theorem call_repr_data (gd : X.A.guards = some []) (hu : X.A.units + 80 < cLine) : CallR X (.builtin "repr") (fun xs H Q => ∃ (a : Addr) (d : PyData), xs = [.ref a] ∧ Dp X.K H (.ref a) d ∧ d.showable = true ∧ d.hasDict = false ∧ d.depth ≤ 64 ∧ d.shown.length ≤ sizeLine ∧ Q (.str d.shown) H) := by
  intro pins s σ H xs us Q I r h
  obtain ⟨a, d, rfl, hd, hs, hn, hp, hz, q⟩ := h
  obtain ⟨u, rfl, r1⟩ := vals1 r
  cases (show u = Value.ref a from r1)
  obtain ⟨as, R⟩ := Dp.reads I d (.ref a) (.ref a) hd rfl
  exact repr_of_reads' R hs (fun z => absurd (hn.symm.trans z) (by decide)) gd (by omega) (fun _ _ e => e) (fun h' u tk hk => ⟨.str _, H, I.kept hk, ⟨_, rfl⟩, q⟩) hz
theorem call_repr_none : CallR X (.builtin "repr") (fun xs H Q => xs = [.non] ∧ Q (.str "None") H) := by
  intro pins s σ H xs us Q I r h
  obtain ⟨rfl, q⟩ := h
  obtain ⟨u, rfl, rfl⟩ := vals1 r
  exact PySem.P.repr_of_none ⟨.str _, H, I.tok _, ⟨_, rfl⟩, q⟩
end

/-! ### the law's own call -/
section
variable {P : Program} {w : World} {K : PySem.W.Frag} {mg mb : Str → Option Value} {k : Nat} {fa a : Addr} {fd : FuncData} {x : Str} {sp : Sp} {s₁ : Shared} {vs : List Value} {ns : List Int}
/-- what may be tracked at the law's entry: the script alone -/
structure Ent (K : PySem.W.Frag) (P : Program) (w : World) (s₁ : Shared) (a : Addr) (ns : List Int) (H : Hp) : Prop where
  only : Only H
  sq : SqL K H a (ns.map V.int)
  ok : HOk P w H s₁.heap
  one : ∀ b, H b ≠ none → b = a
  kn : H a ≠ none → K.lookup a = none
theorem lawG_core {H : Hp} (J : Ent K P w s₁ a ns H) (KX : K.In s₁.heap) (hns : s₁.heap.Ns mainGlobals mg) (hb : s₁.heap.Ns builtinsNs mb) (hbb : ∀ x : Str, x ≠ "__name__" → mb x = bootBuiltins x) (hlim : s₁.heap.NoLimit) (hg : s₁.gens = #[])
    (ha : s₁.heap.get? a = some { cls := .type "list", data := .seq vs.toArray }) (hr : Room k callerA) (F : ∀ base : Heap, K.In base → base.Ns mainGlobals mg → FnG P w K mg base k fa fd [x] sp) (bnd : ∀ (s : Shared) (u : Value), BindsTo s fd ⟨[u], []⟩ [(x, u)])
    (hsp : ∀ H : Hp, Only H → SqL K H a (ns.map V.int) → sp [.ref a] H (fun v _ => v = .bl true) fun _ _ _ => False) :
    codeAny (model P w) callerA (.call (.ref fa) ⟨[.ref a], []⟩) (fun r s' => r = .ok (.ret (.bool true)) ∧ OldK s₁.heap s'.heap ∧ s'.os = s₁.os ∧ AllBare s'.gens) s₁ := by
  have at0 : ∀ {b : Addr} {o : Obj}, s₁.heap.get? b = some o → (b = a → H a = none) → (hidT s₁.heap H).get? b = some o := fun {b o} e n => hidT_get e (by
    cases q : H b with
    | none => rfl
    | some u =>
      have eb : b = a := J.one b (by rw [q]; simp)
      rw [eb, n eb] at q
      cases q)
  have dct : ∀ {b : Addr} {o : Obj} {es : Array DictEntry} {ep : Nat}, s₁.heap.get? b = some o → o.data = .dict es ep → b = a → H a = none := fun {b o es ep} e d eb => by
    rw [eb, ha] at e
    cases e
    exact absurd (show Data.seq vs.toArray _ = Data.dict es ep from d) (by intro z; cases z)
  have nsB : ∀ {b : Addr} {m : Str → Option Value}, s₁.heap.Ns b m → (hidT s₁.heap H).Ns b m := fun ⟨o, es, ep, e, d, r⟩ => ⟨o, es, ep, at0 e (dct e d), d, r⟩
  have KB : K.In (hidT s₁.heap H) := fun b o e => at0 (KX b o e) fun eb => by
    cases q : H a with
    | none => rfl
    | some u =>
      have z := J.kn (by rw [q]; simp)
      rw [eb, z] at e
      cases e
  have md : Mod K mg (hidT s₁.heap H) := ⟨KB, nsB hns, ⟨mb, nsB hb, hbb⟩, let ⟨mc, h1, h2⟩ := hlim; ⟨mc, nsB h1, h2⟩⟩
  have en : Env0 P w K mg (hidT s₁.heap H) callerA [] s₁ H := ⟨rfl, md, fun b o e => of_hidT e, Nat.le_of_eq (hidT_size _ _), trivial, (fun b hb => by cases hb), J.ok, .of_eq hg⟩
  refine codeAny_mono ((F _ KB (nsB hns)).go callerA [] s₁ H ⟨[.ref a], []⟩ [.ref a] [.ref a] _ _ hr rfl en (bnd s₁ (.ref a)) (.cons rfl .nil) (hsp H J.only J.sq)) fun r s' h => ?_
  match r, h with
  | .error e, h => exact False.elim h
  | .ok (.ret u), ⟨v, H', os, bare, un, ok2, rv, q⟩ =>
    have q' : v = .bl true := q
    subst q'
    obtain rfl : u = Value.bool true := rv
    refine ⟨rfl, OldK.of_keep fun b o e => ?_, os, bare⟩
    cases q : H b with
    | none => exact un.keep b o e q (by intro z; cases z) (by simp)
    | some u =>
      rcases J.only b with z | ⟨ob, xs, z⟩
      · rw [q] at z
        cases z
      · obtain ⟨e1, _⟩ := J.ok b _ z
        obtain ⟨e2, _⟩ := ok2 b _ (un.frzs b ob _ z)
        rw [e] at e1
        cases e1
        exact e2
theorem lawG_call (KX : K.In s₁.heap) (hns : s₁.heap.Ns mainGlobals mg) (hb : s₁.heap.Ns builtinsNs mb) (hbb : ∀ x : Str, x ≠ "__name__" → mb x = bootBuiltins x) (hlim : s₁.heap.NoLimit) (hg : s₁.gens = #[])
    (ha : s₁.heap.get? a = some { cls := .type "list", data := .seq vs.toArray }) (hi : IntsAre vs ns) (hl : ns.length ≤ sizeLine) (hr : Room k callerA) (F : ∀ base : Heap, K.In base → base.Ns mainGlobals mg → FnG P w K mg base k fa fd [x] sp) (bnd : ∀ (s : Shared) (u : Value), BindsTo s fd ⟨[u], []⟩ [(x, u)])
    (hsp : ∀ H : Hp, Only H → SqL K H a (ns.map V.int) → sp [.ref a] H (fun v _ => v = .bl true) fun _ _ _ => False) :
    codeAny (model P w) callerA (.call (.ref fa) ⟨[.ref a], []⟩) (fun r s' => r = .ok (.ret (.bool true)) ∧ OldK s₁.heap s'.heap ∧ s'.os = s₁.os ∧ AllBare s'.gens) s₁ := by
  have rv := vals_ints hi
  have lv := hi.length
  cases hk : K.lookup a with
  | some o =>
    have e := KX a o hk
    rw [ha] at e
    cases e
    refine lawG_core (H := fun _ => none) ⟨fun _ => .inl rfl, .inr ⟨_, vs.toArray, _, hk, rfl, rfl, rfl, ?_, by simpa using rv⟩, (fun b u z => by cases z), (fun b z => absurd rfl z), (fun z => absurd rfl z)⟩ KX hns hb hbb hlim hg ha hr F bnd hsp
    rw [List.size_toArray, lv]
    exact hl
  | none =>
    refine lawG_core (H := fun b => if b = a then some (.frz { cls := .type "list", data := .seq vs.toArray } (.lst (ns.map V.int))) else none) ⟨fun b => ?_, .inl (.inr ⟨{ cls := .type "list", data := .seq vs.toArray }, if_pos rfl⟩), fun b u z => ?_, fun b z => ?_, fun _ => hk⟩ KX hns hb hbb hlim hg ha hr F bnd hsp
    · by_cases eb : b = a
      · exact .inr ⟨_, _, if_pos eb⟩
      · exact .inl (if_neg eb)
    · by_cases eb : b = a
      · have y := (if_pos eb).symm.trans z
        cases y
        subst eb
        exact ⟨ha, (by rw [List.length_map]; exact hl), vs, _, rv, ha⟩
      · have y := (if_neg eb).symm.trans z
        cases y
    · by_cases eb : b = a
      · exact eb
      · exact absurd (if_neg eb) z
end
theorem walk_ofG {l : PySem.W.OpenLaw} {n k : Nat} {q : Program} {loose : List Str} {XP : (Str → Option Value) → Heap → Prop} {YP : World → Heap → Prop} {d : DefRec} {K : Params → PySem.W.Frag} {sp : World → Sp} {x : Str}
    (hn : l.most = some n) (hn2 : n ≤ sizeLine) (hdf : d.params.defaults = []) (hr : Room k callerA) (hY : ∀ (w : World) (h : Heap), YP w h → (K w.params).In h)
    (F : ∀ (w : World) (mg : Str → Option Value) (fa : Addr) (h : Heap), (K w.params).In h → h.Ns mainGlobals mg → mg d.name = some (.ref fa) →
      ∃ fd : FuncData, (∀ (s : Shared) (u : Value), BindsTo s fd ⟨[u], []⟩ [(x, u)]) ∧ ∀ base : Heap, (K w.params).In base → base.Ns mainGlobals mg → FnG l.prog w (K w.params) mg base k fa fd [x] (sp w))
    (hsp : ∀ (w : World) (H : Hp) (a : Addr) (ns : List Int), ns.length ≤ n → Only H → SqL (K w.params) H a (ns.map V.int) → sp w [.ref a] H (fun v _ => v = .bl true) fun _ _ _ => False) :
    PySem.W.WalkO q loose XP YP l.row.toRowW d [] (fun f vs => PySem.call f vs) := by
  refine Att.attach_call hn hdf fun w s₀ s₁ mg mb fa o pm cd doc a vs ns G Y ho hd hcd hmg hobj hints hlen hg => ?_
  obtain ⟨fd, bnd, hF⟩ := F w mg fa _ (hY w _ Y) G.T.g hmg
  exact lawG_call (hY w _ Y) G.T.g G.T.b G.T.builtins G.T.nolimit hg hobj hints (Nat.le_trans hlen hn2) hr hF bnd fun H hO hS => hsp w H a ns hlen hO hS
end My
set_option Elab.async false
set_option linter.all false
set_option maxRecDepth 100000
set_option maxHeartbeats 4000000
/-! B3: data that stand in the heap apart from one object (the box). -/
namespace My
open PySem PySem.Spec PyProof.Rows L2
/-- the things that may change -/
abbrev Av := Addr → Prop
def BtS (S : Av) (H H' : Hp) : Prop := ∀ b o, ¬ S b → H b = some o → H' b = some o
theorem BtS.refl {S : Av} {H : Hp} : BtS S H H := fun _ _ _ h => h
theorem BtS.trans {S : Av} {H H1 H2 : Hp} (a : BtS S H H1) (b : BtS S H1 H2) : BtS S H H2 := fun c o n h => b c o n (a c o n h)
theorem BtS.mono {S S' : Av} {H H1 : Hp} (a : BtS S H H1) (h : ∀ b, S b → S' b) : BtS S' H H1 := fun c o n k => a c o (fun z => n (h c z)) k
theorem BtS.new {S : Av} {H : Hp} {p : Addr} {o : HO} (h : H p = none) : BtS S H (upd H p o) := fun c u _ e => by
  rw [upd_ne (ne_of_none e h)]
  exact e
theorem BtS.upd {S : Av} {H : Hp} {p : Addr} {o : HO} (h : S p) : BtS S H (upd H p o) := fun c u n e => by
  rw [upd_ne (fun z => n (by rw [z]; exact h))]
  exact e
/-- the box alone -/
abbrev O1 (p : Addr) : Av := fun b => b = p
abbrev O2 (p D : Addr) : Av := fun b => b = p ∨ b = D
theorem Bt.s {p : Addr} {H H' : Hp} (h : Bt p H H') : BtS (O1 p) H H' := h
theorem Bt.s2 {p D : Addr} {H H' : Hp} (h : Bt p H H') : BtS (O2 p D) H H' := fun b o n e => h b o (fun z => n (.inl z)) e
mutual
inductive At (p : Av) (H : Hp) : V → PyData → Prop
  | non : At p H .non .none
  | bl (b : Bool) : At p H (.bl b) (.bool b)
  | int (i : Int) : At p H (.int i) (.int i)
  | str (x : Str) : At p H (.str x) (.str x)
  | lst {a : Addr} {xs : List V} {ds : List PyData} : ¬ p a → H a = some (.lst xs) → AtAll p H xs ds → At p H (.ref a) (.list ds)
  | tup {a : Addr} {xs : List V} {ds : List PyData} : ¬ p a → H a = some (.tup xs) → AtAll p H xs ds → At p H (.ref a) (.tuple ds)
inductive AtAll (p : Av) (H : Hp) : List V → List PyData → Prop
  | nil : AtAll p H [] []
  | cons {v : V} {vs : List V} {d : PyData} {ds : List PyData} : At p H v d → AtAll p H vs ds → AtAll p H (v :: vs) (d :: ds)
end
mutual
theorem At.bt {p : Av} {H H' : Hp} (B : BtS p H H') : ∀ (d : PyData) (v : V), At p H v d → At p H' v d
  | .none, _, h => by cases h; exact .non
  | .bool _, _, h => by cases h; exact .bl _
  | .int _, _, h => by cases h; exact .int _
  | .str _, _, h => by cases h; exact .str _
  | .list ds, _, h => by
    cases h with
    | lst n e k => exact .lst n (B _ _ n e) (AtAll.bt B ds _ k)
  | .tuple ds, _, h => by
    cases h with
    | tup n e k => exact .tup n (B _ _ n e) (AtAll.bt B ds _ k)
  | .dict _, _, h => by cases h
theorem AtAll.bt {p : Av} {H H' : Hp} (B : BtS p H H') : ∀ (ds : List PyData) (vs : List V), AtAll p H vs ds → AtAll p H' vs ds
  | [], _, h => by cases h; exact .nil
  | d :: ds, _, h => by
    cases h with
    | cons h1 h2 => exact .cons (At.bt B d _ h1) (AtAll.bt B ds _ h2)
end
mutual
theorem At.dp {p : Av} {H : Hp} {K : PySem.W.Frag} : ∀ (d : PyData) (v : V), At p H v d → Dp K H v d
  | .none, _, h => by cases h; exact .non
  | .bool _, _, h => by cases h; exact .bl _
  | .int _, _, h => by cases h; exact .int _
  | .str _, _, h => by cases h; exact .str _
  | .list ds, _, h => by
    cases h with
    | lst n e k => exact .lst (.inl (.inl e)) (AtAll.dp ds _ k)
  | .tuple ds, _, h => by
    cases h with
    | tup n e k => exact .tup (.inl (.inl e)) (AtAll.dp ds _ k)
  | .dict _, _, h => by cases h
theorem AtAll.dp {p : Av} {H : Hp} {K : PySem.W.Frag} : ∀ (ds : List PyData) (vs : List V), AtAll p H vs ds → DpAll K H vs ds
  | [], _, h => by cases h; exact .nil
  | d :: ds, _, h => by
    cases h with
    | cons h1 h2 => exact .cons (At.dp d _ h1) (AtAll.dp ds _ h2)
end
theorem AtAll.len {p : Av} {H : Hp} : ∀ {ds : List PyData} {vs : List V}, AtAll p H vs ds → vs.length = ds.length
  | [], _, h => by cases h; rfl
  | d :: ds, _, h => by
    cases h with
    | cons h1 h2 =>
      rw [List.length_cons, List.length_cons, AtAll.len h2]
theorem AtAll.get {p : Av} {H : Hp} : ∀ {ds : List PyData} {vs : List V} {i : Nat} {v : V}, AtAll p H vs ds → vs[i]? = some v → ∃ d, ds[i]? = some d ∧ At p H v d
  | [], _, i, v, h, e => by
    cases h
    simp at e
  | d :: ds, _, i, v, h, e => by
    cases h with
    | cons h1 h2 =>
      cases i with
      | zero =>
        cases (Option.some.inj e)
        exact ⟨d, rfl, h1⟩
      | succ i => exact AtAll.get (i := i) h2 e
theorem AtAll.app {p : Av} {H : Hp} : ∀ {ds es : List PyData} {vs us : List V}, AtAll p H vs ds → AtAll p H us es → AtAll p H (vs ++ us) (ds ++ es)
  | [], _, _, _, h, k => by
    cases h
    exact k
  | d :: ds, _, _, _, h, k => by
    cases h with
    | cons h1 h2 => exact .cons h1 (AtAll.app h2 k)
theorem AtAll.ints {p : Av} {H : Hp} : ∀ ns : List Int, AtAll p H (ns.map V.int) (ns.map PyData.int)
  | [] => .nil
  | n :: r => .cons (.int n) (AtAll.ints r)
theorem AtAll.strs {p : Av} {H : Hp} : ∀ ns : List (List Nat), AtAll p H (ns.map fun l => .str (SX.S l)) (ns.map fun l => .str (SX.S l))
  | [] => .nil
  | n :: r => .cons (.str _) (AtAll.strs r)
theorem AtAll.rep {p : Av} {H : Hp} {v : V} {d : PyData} (h : At p H v d) : ∀ n : Nat, AtAll p H (List.replicate n v) (List.replicate n d)
  | 0 => .nil
  | n + 1 => .cons h (AtAll.rep h n)
mutual
theorem At.weak {p q : Av} {H : Hp} (W : ∀ b, q b → p b) : ∀ (d : PyData) (v : V), At p H v d → At q H v d
  | .none, _, h => by cases h; exact .non
  | .bool _, _, h => by cases h; exact .bl _
  | .int _, _, h => by cases h; exact .int _
  | .str _, _, h => by cases h; exact .str _
  | .list ds, _, h => by
    cases h with
    | lst n e k => exact .lst (fun z => n (W _ z)) e (AtAll.weak W ds _ k)
  | .tuple ds, _, h => by
    cases h with
    | tup n e k => exact .tup (fun z => n (W _ z)) e (AtAll.weak W ds _ k)
  | .dict _, _, h => by cases h
theorem AtAll.weak {p q : Av} {H : Hp} (W : ∀ b, q b → p b) : ∀ (ds : List PyData) (vs : List V), AtAll p H vs ds → AtAll q H vs ds
  | [], _, h => by cases h; exact .nil
  | d :: ds, _, h => by
    cases h with
    | cons h1 h2 => exact .cons (At.weak W d _ h1) (AtAll.weak W ds _ h2)
end
/-- a row of whole numbers -/
def rowD (ns : List Int) : PyData := .list (ns.map .int)
end My
namespace My
open PySem PySem.Spec PyProof.Rows L2
/-- a comprehension that draws: its new list at D holds xs so far -/
structure LcD (p : Addr) (n : Nat) (H : Hp) (D : Addr) (xs : List V) (H' : Hp) : Prop where
  at_ : H' D = some (.lst xs)
  dr : Dr p n H H'
  ne : D ≠ p
  fr : H D = none
theorem LcD.start {p : Addr} {n : Nat} {H : Hp} {D : Addr} (h : Box n H p) (hD : H D = none) : LcD p n H D [] (upd H D (.lst [])) := ⟨upd_same, (Dr.refl h).new hD, (h.ne hD).symm, hD⟩
theorem LcD.keep {p : Addr} {n m : Nat} {H H1 H2 : Hp} {D : Addr} {xs : List V} (l : LcD p n H D xs H1) (d : Dr p m H1 H2) : LcD p m H D xs H2 := ⟨d.bt _ _ l.ne l.at_, l.dr.trans d, l.ne, l.fr⟩
theorem LcD.step {p : Addr} {n : Nat} {H H1 : Hp} {D : Addr} {xs : List V} (l : LcD p n H D xs H1) (y : V) : LcD p n H D (xs ++ [y]) (upd H1 D (.lst (xs ++ [y]))) := by
  refine ⟨upd_same, ⟨?_, fun b o hb ho => ?_⟩, l.ne, l.fr⟩
  · obtain ⟨i, j, k, e, r⟩ := l.dr.box
    exact ⟨i, j, k, by rw [upd_ne l.ne.symm]; exact e, r⟩
  · rw [upd_ne (ne_of_none ho l.fr)]
    exact l.dr.bt b o hb ho
theorem LcD.mono {p : Addr} {n m : Nat} {H H' : Hp} {D : Addr} {xs : List V} (l : LcD p n H D xs H') (h : n ≤ m) : LcD p m H D xs H' := ⟨l.at_, l.dr.mono h, l.ne, l.fr⟩
/-- the heap may have grown ahead of a comprehension -/
theorem LcD.from {p : Addr} {n m : Nat} {H0 H H' : Hp} {D : Addr} {xs : List V} (l : LcD p n H D xs H') (d : Dr p m H0 H) : Dr p n H0 H' := d.trans l.dr
theorem sz1000 {n : Nat} (h : n ≤ 1000) : n < sizeLine := Nat.lt_of_le_of_lt h (by decide)
/-- an item of a written list of whole numbers -/
theorem ix_int {ns : List Int} {i : Int} (h0 : 0 ≤ i) (h1 : i < ns.length) : ∃ z, atI (ns.map V.int) i = some (.int z) ∧ z ∈ ns := by
  obtain ⟨v, hv, hm⟩ := ix_some (ns.map V.int) h0 (by rw [List.length_map]; exact h1)
  obtain ⟨z, hz, rfl⟩ := List.mem_map.mp hm
  exact ⟨z, hv, hz⟩
section
variable {X : Cx}
/-- xs[::e], e one or less one -/
def tStepL (K : PySem.W.Frag) (te : TE) (ts : TO) : TE := fun σ H Q => te σ H fun x H1 => ts σ H1 fun o H2 => ∃ (a : Addr) (xs : List V) (z : Int), o = some z ∧ x = .ref a ∧ SqL K H2 a xs ∧ (z = 1 ∨ z = -1) ∧ ∀ p, H2 p = none → Q (.ref p) (upd H2 p (.lst (if z = 1 then xs else xs.reverse)))
theorem pick_one (its : Array Value) : slicePick its none none (some 1) = slicePick its none none none := rfl
theorem pe_stepL {e st : Expr} {te : TE} {ts : TO} {p2 pos : Pos} (he : PE X e te) (hs : PO X (some st) ts) : PE X (.Subscript e (.Slice none none (some st) p2) pos) (tStepL X.K te ts) := by
  refine ⟨fun pins s σ H Q I h => ?_⟩
  refine Subscript_ (thn (he.run pins s σ H _ I h) fun v s1 ⟨x, H1, I1, r1, q1⟩ => ?_)
  refine wpAny_Slice (thn (po_none.run pins s1 σ H1 (fun o H2 => o = none ∧ H2 = H1) I1 ⟨rfl, rfl⟩) fun vl s2 ⟨lo, H2, I2, pl, elo, e2⟩ => ?_)
  subst elo e2
  refine thn (po_none.run pins s2 σ H2 (fun o H3 => o = none ∧ H3 = H2) I2 ⟨rfl, rfl⟩) fun vu s3 ⟨hi, H3, I3, pu, ehi, e3⟩ => ?_
  subst ehi e3
  refine thn (hs.run pins s3 σ H3 _ I3 q1) fun vs s4 ⟨o, H4, I4, ps, a, xs, z, eo, ex, hx, hz, q⟩ => ?_
  subst eo ex
  cases r1
  have J : Inv X pins σ H4 { s4 with heap := s4.heap.push { cls := .type "slice", data := .fields #[vl, vu, vs] } } := I4.kept (t' := s4.toks) fun b ob k => Heap.get?_push_of_some _ k
  obtain ⟨its, r, ht, sz⟩ := J.list hx
  have hlen := r.length
  show wpAny (model X.prog X.w) X.A (subscriptTail e (.Slice none none (some st) p2) (.ref a) (.ref s4.heap.objs.size)) (EP X pins σ Q) X.xe { s4 with heap := s4.heap.push { cls := .type "slice", data := .fields #[vl, vu, vs] } }
  refine tail_any (ops := [.ref a, .ref s4.heap.objs.size]) ht.isList.typeIs (PySem.slot_list_getitem.lookup) ?_ (by with_unfolding_all rfl)
  refine wpAny_getItem_list_slice ht.isList (Heap.IsSliceOf.new _ vl vu vs) pl pu ps (by rcases hz with rfl | rfl <;> decide) ?_ (by rw [List.size_toArray]; omega)
  have fin : ∀ (ys : List V) (us : List Value), Vals ys us → ys.length = xs.length → (if z = 1 then xs else xs.reverse) = ys → slicePick its.toArray none none (some z) = us.toArray → EP X pins σ Q (.ref (s4.heap.push { cls := .type "slice", data := .fields #[vl, vu, vs] }).objs.size)
      { s4 with heap := (s4.heap.push { cls := .type "slice", data := .fields #[vl, vu, vs] }).push { cls := .type "list", data := .seq (slicePick its.toArray none none (some z)) } } := fun ys us rv el ey es => by
    rw [ey] at q
    rw [es]
    refine ⟨.ref _, _, J.laid (t' := s4.toks) (o := .lst ys) (fun b ob k => Heap.get?_push_of_some _ k) (Nat.le_refl _) ?_, rfl, q _ (J.hok.fresh (Nat.le_refl _))⟩
    exact ⟨by rw [el]; exact sz, _, 0, rv, Heap.get?_push_size _ rfl⟩
  rcases hz with rfl | rfl
  · refine fin xs its r rfl (if_pos rfl) ?_
    rw [pick_one, slicePick_cut]
    show ((its.drop (HT.sIx its.length 0 none)).take (HT.sIx its.length its.length none - HT.sIx its.length 0 none)).toArray = its.toArray
    rw [HT.sIx_none, HT.sIx_none, List.drop_zero, Nat.sub_zero, List.take_length]
  · refine fin xs.reverse its.reverse r.reverse (List.length_reverse ..) (if_neg (by decide)) ?_
    rw [PySem.W.krv_pick]
end
end My
namespace My
open PySem PySem.Spec PyProof.Rows L2
/-! ### rules whose reading names the written part: in a comprehension's block it is the def's -/
section
variable {X : Cx} {K : PySem.W.Frag}
theorem ix_listK (h : X.K = K) : IxR X (rIxL K) := h ▸ ix_list
theorem ix_tupK (h : X.K = K) : IxR X (rIxT K) := h ▸ ix_tup
theorem op_in_seqK (h : X.K = K) : OpR X (compareOp .In) (rIn K false) := h ▸ op_in_seq
theorem op_notIn_seqK (h : X.K = K) : OpR X (compareOp .NotIn) (rIn K true) := h ▸ op_notIn_seq
theorem op_eqDK (h : X.K = K) (hu : X.A.units + 64 < cLine) : OpR X (compareOp .Eq) (rEqD K) := h ▸ op_eqD hu
theorem op_neDK (h : X.K = K) (hu : X.A.units + 64 < cLine) : OpR X (compareOp .NotEq) (rNeD K) := h ▸ op_neD hu
theorem sl_listK (h : X.K = K) : SlR X (rSlL K) := h ▸ sl_list
theorem call_lenK (h : X.K = K) : CallR X (.builtin "len") (fun xs H Q => ∃ x n, xs = [x] ∧ LenV K x H n ∧ Q (.int n) H) := h ▸ call_len
theorem call_isbK (h : X.K = K) : CallR X (.builtin "isinstance") (fun xs H Q => rIsi K xs H Q ∨ ∃ (a C : Addr) (fs : List (Str × V)) (c : V) (u : Value) (b : Bool), xs = [.ref a, c] ∧ Exn H a C fs ∧ ExI K C ∧ ClsV c u ∧ PySem.W.kitOne K (.ref C) u = some b ∧ Q (.bl b) H) := h ▸ call_isb
theorem cr_sumK (h : X.K = K) (hc : X.calm = true) : CallR X (.builtin "sum") (rSum K) := h ▸ cr_sum hc
theorem cr_allK (h : X.K = K) (hc : X.calm = true) : CallR X (.builtin "all") (rAll K) := h ▸ cr_all hc
theorem call_list_ofK (h : X.K = K) : CallR X (.type "list") (fun xs H Q => ∃ p ys, xs = [.ref p] ∧ (SqL K H p ys ∨ SqT K H p ys) ∧ ∀ l, H l = none → Q (.ref l) (upd H l (.lst ys))) := h ▸ call_list_of
theorem call_tuple_ofK (h : X.K = K) : CallR X (.type "tuple") (fun xs H Q => ∃ p ys, xs = [.ref p] ∧ ((SqL K H p ys ∧ ∀ l, H l = none → Q (.ref l) (upd H l (.tup ys))) ∨ (SqT K H p ys ∧ Q (.ref p) H))) := h ▸ call_tuple_of
theorem pe_stepLK {e st : Expr} {te : TE} {ts : TO} {p2 pos : Pos} (h : X.K = K) (he : PE X e te) (hs : PO X (some st) ts) : PE X (.Subscript e (.Slice none none (some st) p2) pos) (tStepL K te ts) := h ▸ pe_stepL he hs
end
end My
namespace My
open PySem PySem.Spec PyProof.Rows L2
theorem upd_old {H : Hp} {p a : Addr} {o x : HO} (h : H p = none) (e : H a = some x) : upd H p o a = some x := same_new h _ _ e
abbrev Plus (S : Av) (D : Addr) : Av := fun b => S b ∨ b = D
/-- a comprehension whose items are data -/
structure LcA (S : Av) (p : Addr) (n : Nat) (H : Hp) (D : Addr) (xs : List V) (ds : List PyData) (H' : Hp) : Prop where
  l : LcD p n H D xs H'
  a : AtAll (Plus S D) H' xs ds
theorem LcA.start {S : Av} {p : Addr} {n : Nat} {H : Hp} {D : Addr} (h : Box n H p) (hD : H D = none) : LcA S p n H D [] [] (upd H D (.lst [])) := ⟨LcD.start h hD, .nil⟩
theorem LcA.step {S : Av} {p : Addr} {n m : Nat} {H H1 H2 : Hp} {D : Addr} {xs : List V} {ds : List PyData} {y : V} {d : PyData} (c : LcA S p n H D xs ds H1) (hS : S p) (k : Dr p m H1 H2) (hy : At (Plus S D) H2 y d) :
    LcA S p m H D (xs ++ [y]) (ds ++ [d]) (upd H2 D (.lst (xs ++ [y]))) := by
  have W : BtS (Plus S D) H1 H2 := k.bt.s.mono fun b z => .inl (z ▸ hS)
  have U : BtS (Plus S D) H2 (upd H2 D (.lst (xs ++ [y]))) := BtS.upd (.inr rfl)
  exact ⟨(c.l.keep k).step y, AtAll.bt U _ _ ((AtAll.bt W _ _ c.a).app (.cons hy .nil))⟩
theorem LcA.done {S : Av} {p : Addr} {n : Nat} {H H' : Hp} {D : Addr} {xs : List V} {ds : List PyData} (c : LcA S p n H D xs ds H') (hD : ¬ S D) : At S H' (.ref D) (.list ds) := .lst hD c.l.at_ (AtAll.weak (fun _ z => .inl z) _ _ c.a)
theorem LcA.mono {S : Av} {p : Addr} {n m : Nat} {H H' : Hp} {D : Addr} {xs : List V} {ds : List PyData} (c : LcA S p n H D xs ds H') (h : n ≤ m) : LcA S p m H D xs ds H' := ⟨c.l.mono h, c.a⟩
theorem LcA.len {S : Av} {p : Addr} {n : Nat} {H H' : Hp} {D : Addr} {xs : List V} {ds : List PyData} (c : LcA S p n H D xs ds H') : xs.length = ds.length := c.a.len
theorem At.ofrow {S : Av} {H : Hp} {a : Addr} {ns : List Int} (h : ¬ S a) (e : H a = some (.lst (ns.map V.int))) : At S H (.ref a) (rowD ns) := .lst h e (AtAll.ints ns)
end My
set_option Elab.async false
set_option linter.all false
set_option maxRecDepth 100000
set_option maxHeartbeats 4000000
/-! B4: enumerate(xs, start=k) over a list or a tuple; the sum of a tuple of whole numbers. -/
namespace My
open PySem PySem.Spec PyProof.Rows L2
/-- a list (false) or a tuple (true) -/
def Sq (K : PySem.W.Frag) (H : Hp) : Bool → Addr → List V → Prop
  | false, a, xs => SqL K H a xs
  | true, a, xs => SqT K H a xs
/-- enumerate from c over what stands at a -/
def IteC (K : PySem.W.Frag) (b : Bool) (a : Addr) (c : Int) : It :=
  ⟨fun i H => ∃ (xs : List V) (x : V), Sq K H b a xs ∧ xs[i]? = some x, fun i H v H' => ∃ T x, v = .ref T ∧ H T = none ∧ H' = upd H T (.tup [.int (c + (i : Int)), x]) ∧ ∀ xs, Sq K H b a xs → xs[i]? = some x, fun i H => ∃ xs : List V, Sq K H b a xs ∧ xs.length = i⟩
/-- its iterator stands at turn i -/
def SqIt (h : Heap) : Bool → Addr → Addr → Nat → Prop
  | false, it, a, i => h.IsListIter it a i
  | true, it, a, i => h.IsTupleIter it a i
def SqIs (h : Heap) : Bool → Addr → Array Value → Prop
  | false, a, its => h.IsList a its
  | true, a, its => h.IsTuple a its
section
variable {prog : Program} {w : World} {A : Around} {X : Cx} {pins : List (Addr × Obj)} {σ : L2.St} {H : Hp} {s : Shared}
theorem sq_draws (hh : A.handled = none) {b : Bool} {it a : Addr} (hne : a ≠ it) (its : Array Value) : Draws prog w A it [it, a] its.size (fun i v => its[i]? = some v) (fun i h => SqIt h b it a i ∧ SqIs h b a its) :=
  match b with
  | false => Draws.list hh it a hne its
  | true => Draws.tuple hh it a hne its
theorem sq_read {b : Bool} {a : Addr} {xs : List V} (I : Inv X pins σ H s) (h : Sq X.K H b a xs) : ∃ its : List Value, Vals xs its ∧ SqIs s.heap b a its.toArray := by
  cases b with
  | false =>
    obtain ⟨its, rv, p, hz⟩ := I.list h
    exact ⟨its, rv, p.isList⟩
  | true =>
    obtain ⟨its, rv, p, hz⟩ := I.tuple h
    exact ⟨its, rv, p⟩
theorem sq_inj {b : Bool} {a : Addr} {xs ys : List V} (I : Inv X pins σ H s) (h : Sq X.K H b a xs) (k : Sq X.K H b a ys) : xs = ys := by
  cases b with
  | false => exact I.list_inj h k
  | true => exact I.tuple_inj h k
theorem sqit_obj {h : Heap} {b : Bool} {it a : Addr} {i : Nat} (st : SqIt h b it a i) : ∃ o, h.get? it = some o ∧ (∀ v, o.data ≠ .cell v) ∧ ∀ its, SqIs h b a its → a ≠ it := by
  cases b with
  | false =>
    obtain ⟨o, ho, hc, hd⟩ := st
    refine ⟨o, ho, (fun v q => by rw [hd] at q; cases q), fun its hi e => ?_⟩
    obtain ⟨o2, h2, c2, _⟩ := hi
    rw [e, ho] at h2
    cases h2
    rw [hc] at c2
    exact absurd (Value.type.inj c2) (by decide)
  | true =>
    obtain ⟨o, ho, hc, hd⟩ := st
    refine ⟨o, ho, (fun v q => by rw [hd] at q; cases q), fun its hi e => ?_⟩
    obtain ⟨o2, h2, c2, _⟩ := hi
    rw [e, ho] at h2
    cases h2
    rw [hc] at c2
    exact absurd (Value.type.inj c2) (by decide)
theorem sqis_ne {h : Heap} {b : Bool} {a e it : Addr} {its : Array Value} {c : Int} {old : Value} (hi : SqIs h b a its) (he : IsEnum h e it c old) : e ≠ a := by
  intro z
  cases b with
  | false =>
    obtain ⟨o2, h2, c2, _⟩ := hi
    have he' := he
    rw [z] at he'
    have q := Option.some.inj (h2.symm.trans he')
    rw [q] at c2
    exact absurd (Value.type.inj c2) (by decide)
  | true =>
    obtain ⟨o2, h2, c2, _⟩ := hi
    have he' := he
    rw [z] at he'
    have q := Option.some.inj (h2.symm.trans he')
    rw [q] at c2
    exact absurd (Value.type.inj c2) (by decide)
theorem sqit_keep {h h' : Heap} {b : Bool} {it a : Addr} {i : Nat} (st : SqIt h b it a i) (k : ∀ o, h.get? it = some o → h'.get? it = some o) : SqIt h' b it a i := by
  cases b with
  | false => exact st.at k
  | true => exact st.at k
end
theorem turn_enumC {P : Program} {w : World} {K : PySem.W.Frag} {elts : List Expr} {kk : Nat} {tpos : Pos} (b : Bool) (c : Int) (a e it : Addr) :
    Turn P w K (.Tuple elts kk tpos) (IteC K b a c) [e, it] e (fun i h => (∃ old, IsEnum h e it (c + (i : Int)) old) ∧ SqIt h b it a i ∧ e ≠ it) where
  mem := by simp
  obj := fun i h st y hy => by
    obtain ⟨⟨old, he⟩, hs, _⟩ := st
    obtain ⟨o, ho, hc, _⟩ := sqit_obj hs
    rcases (show y = e ∨ y = it by simpa using hy) with z | z
    · rw [z]
      exact ⟨_, he, fun v q => nomatch q⟩
    · rw [z]
      exact ⟨o, ho, hc⟩
  keep := fun i h h' st k => let ⟨⟨old, he⟩, hi, hne⟩ := st; ⟨⟨old, k e (by simp) _ he⟩, sqit_keep hi fun o q => k it (by simp) o q, hne⟩
  item := by
    intro X hP hw hK hcalm i pins s σ H E I hf st hg
    subst hP hw hK
    obtain ⟨⟨old, he⟩, hit, hne⟩ := st
    obtain ⟨xs, x, hq, hx⟩ := hg
    obtain ⟨its, rv, p⟩ := sq_read I hq
    obtain ⟨u, hu, ru⟩ := rv.get hx
    obtain ⟨oi, hoi, _, hapart⟩ := sqit_obj hit
    have nai := hapart _ p
    have nea := sqis_ne p he
    have hlt : i < its.toArray.size := by
      rw [List.size_toArray]
      exact (List.getElem?_eq_some_iff.mp hu).1
    have hel : e < s.heap.objs.size := Heap.lt_size he
    have hil : it < s.heap.objs.size := Heap.lt_size hoi
    have hh : X.A.in1.handled = none := I.ok.hd hcalm
    refine wpAny_pyNext_enum_itemC (sq_draws hh nai its.toArray) he ⟨hit, p⟩ hlt hne (by simp [hne, nea]) fun u' h' tk hP ho hst hT hsz hk => ?_
    obtain ⟨hit', p'⟩ := hst
    have eu : u' = u := by
      have q1 : its[i]? = some u' := by simpa using hP
      exact Option.some.inj (q1.symm.trans hu)
    subst eu
    refine ⟨_, rfl, wpAny_letOwnedTupleGo_enum (s := { s with heap := h', toks := tk + 1 }) ho fun h'' he' sb => ?_⟩
    have hT2 : h''.get? s.heap.objs.size = some { cls := .type "tuple", data := .seq #[.int (c + (i : Int)) tk, u'] } := (sb.2 _ (Nat.ne_of_gt hel)).trans hT
    have new : ObjOk X.prog X.w (upd H s.heap.objs.size (.tup [.int (c + (i : Int)), x])) h'' s.heap.objs.size (.tup [.int (c + (i : Int)), x]) :=
      ⟨(by show 2 ≤ sizeLine; decide), [.int (c + (i : Int)) tk, u'], .cons ⟨_, rfl⟩ (.cons ru .nil), ⟨_, hT2, rfl, _, rfl⟩⟩
    have I1 : Inv X pins σ (upd H s.heap.objs.size (.tup [.int (c + (i : Int)), x])) { s with heap := h'', toks := tk + 1 } :=
      I.turnedNew (ch := [e, it]) (fun y ob hy q => (sb.2 y (fun z => hy (by simp [z]))).trans (hk y ob (fun z => hy (by simp [z])) (fun z => hy (by simp [z])) q)) hf (Nat.le_refl _) new
    refine ⟨.ref s.heap.objs.size, _, I1, rfl, ⟨_, x, rfl, I.hok.fresh (Nat.le_refl _), rfl, fun ys hy => by rw [sq_inj I hy hq]; exact hx⟩, ⟨⟨u', ?_⟩, sqit_keep hit' fun o q => (sb.2 it (Ne.symm hne)).trans q, hne⟩, fun y hy => ?_⟩
    · rw [show c + ((i + 1 : Nat) : Int) = c + (i : Int) + 1 by omega]
      exact he'
    · have hb' : y < s.heap.objs.size := by
        rcases (show y = e ∨ y = it by simpa using hy) with z | z
        · rw [z]
          exact hel
        · rw [z]
          exact hil
      rw [upd_ne (Nat.ne_of_lt hb')]
      exact (hf y hy).1
  done := by
    intro X hP hw hK hcalm i pins s σ H E I hf st hg
    subst hP hw hK
    obtain ⟨⟨old, he⟩, hit, hne⟩ := st
    obtain ⟨xs, hq, hx⟩ := hg
    obtain ⟨its, rv, p⟩ := sq_read I hq
    obtain ⟨oi, hoi, _, hapart⟩ := sqit_obj hit
    obtain ⟨f0, f1, f2, f3, f4, f5⟩ := hf it (by simp)
    have hl := rv.length
    have hh : X.A.in1.handled = none := I.ok.hd hcalm
    have e1 : i = its.toArray.size := by
      rw [List.size_toArray]
      omega
    subst e1
    exact wpAny_pyNext_enum_endD (sq_draws hh (hapart _ p) its.toArray) he ⟨hit, p⟩ fun h' eb => ⟨rfl, I.turned (t' := s.toks) (fun y o hy q => eb y o hy q) f0 f1 f3 f4 f5⟩
  self := fun A i s Q E st h => let ⟨⟨_, he⟩, _⟩ := st; wpAny_pyIter_enum he h
section
variable {M : Model} {A : Around} {E : Value → Shared → Prop} {s : Shared} {env : Env}
theorem callWith_typeKw {pos : Pos} {T : String} {e : Expr} {rest : List Expr} {kws : List Keyword} {Q : Value → Shared → Prop}
    (h : wpAny M A (spliced (backTo pos (starEach (e :: rest) env))) (fun vs s₁ => wpAny M A (evalAll ((backToKw pos (keywordEach kws env)).map (·.2))) (fun ws s₂ => wpAny M A (call (.type T) vs (((backToKw pos (keywordEach kws env)).filterMap (·.1)).zip ws)) Q E s₂) E s₁) E s)
    (he : backTo pos (starEach (e :: rest) env) = (false, eval e env) :: backTo pos (starEach rest env)) (hp : (backTo pos (starEach (e :: rest) env)).any (·.1) = false) (ha : (backToKw pos (keywordEach kws env)).all (·.1.isSome) = true) (hk : (backToKw pos (keywordEach kws env)).any (·.1.isNone) = false) :
    wpAny M A (callWith pos (.type T) [] (backTo pos (starEach (e :: rest) env)) (backToKw pos (keywordEach kws env))) Q E s := by
  have h1 : wpAny M A (evalArgs (.type T) true (backTo pos (starEach (e :: rest) env)) (backToKw pos (keywordEach kws env))) (fun a s₁ => wpAny M A (call (.type T) ([] ++ a.pos) a.kw) Q E s₁) E s := by
    rw [he] at h ⊢
    exact evalArgs_kwB ha h
  unfold callWith
  refine wpAny_bind (wpAny_holding (wpAny_mono h1 (fun a s1 k1 => wpAny_bind (wpAny_standAt ?_)) fun _ _ x => x))
  simp only [hp, hk, Bool.or_false]
  exact wpAny_bind (wpAny_pure (wpAny_bind (wpAny_mono k1 (fun r s2 k2 => wpAny_bind (wpAny_holding (wpAny_point (wpAny_pure k2)))) fun _ _ x => x)))
end
/-- what begins at a list, at a tuple -/
def sqBegin (b : Bool) (a : Addr) : Obj := match b with
  | false => { cls := .type "list_iterator", data := .fields #[.ref a, .int 0 0] }
  | true => { cls := .type "tuple_iterator", data := .fields #[.ref a, .int 0 0] }
theorem sq_begins (b : Bool) (a : Addr) (its : Array Value) : Begins (.ref a) (sqBegin b a) fun h => SqIs h b a its := match b with
  | false => begins_list a its
  | true => begins_tuple a its
def iEnumC (K : PySem.W.Frag) (b : Bool) (ta tk : TA) : TI := fun σ H R => ta σ H fun vs H1 => ∃ a, vs = [.ref a] ∧ tk σ H1 fun ws H2 => ∃ (c : Int) (xs : List V), ws = [.int c] ∧ -(2 ^ 63) ≤ c ∧ c < 2 ^ 63 ∧ Sq K H2 b a xs ∧ R (IteC K b a c) H2
theorem pi_enumC (b : Bool) {X : Cx} {e k : Expr} {ta tk : TA} {p pos tpos kp : Pos} {elts : List Expr} {kk : Nat} (hg : Gl X "enumerate") (hm : X.mg "enumerate" = none) (ha : PA X [e] ta) (hk : PK X [⟨some "start", k, kp⟩] tk)
    (he : backTo pos (starEach [e] X.env) = (false, eval e X.env) :: backTo pos (starEach [] X.env) := by rfl) (hpl : (backTo pos (starEach [e] X.env)).any (·.1) = false := by rfl)
    (hall : (backToKw pos (keywordEach [⟨some "start", k, kp⟩] X.env)).all (·.1.isSome) = true := by rfl) (hnone : (backToKw pos (keywordEach [⟨some "start", k, kp⟩] X.env)).any (·.1.isNone) = false := by rfl) (hks : (backToKw pos (keywordEach [⟨some "start", k, kp⟩] X.env)).filterMap (·.1) = (["start"] : List Str) := by rfl) :
    PI X (.Tuple elts kk tpos) (.Call (.Name "enumerate" p) [e] [⟨some "start", k, kp⟩] pos) (iEnumC X.K b ta tk) := by
  refine ⟨fun pins s σ H R I h => ?_⟩
  refine wpAny_Call_Name_kw (ld_blt I hg hm boot_enumerate ?_)
  refine callWith_typeKw (thn (ha.run pos pins s σ H _ I h) fun us s1 ⟨vs, H1, I1, r1, a, ev, q1⟩ => thn (hk.run pos pins s1 σ H1 _ I1 q1) fun ws s2 ⟨zs, H2, I2, r2, c, xs, ez, c0, c1, hq, q⟩ => ?_) he hpl hall hnone
  rw [hks]
  subst ev ez
  cases r1 with
  | cons ra rr =>
    cases rr
    cases ra
    cases r2 with
    | cons rc rr =>
      cases rr
      obtain ⟨tk', rfl⟩ := rc
      obtain ⟨its, rv, p'⟩ := sq_read I2 hq
      refine enum_begins_start (sq_begins b a its.toArray) p' c0 c1 fun h' hE hB hsz hkeep => wpAny_pyIter_enum hE ?_
      have I3 : Inv X pins σ H2 { s2 with heap := h' } := I2.kept (t' := s2.toks) hkeep
      have st0 : SqIt h' b s2.heap.objs.size a 0 := by
        cases b with
        | false => exact ⟨_, hB, rfl, rfl⟩
        | true => exact ⟨_, hB, rfl, rfl⟩
      refine ⟨s2.heap.objs.size + 1, [s2.heap.objs.size + 1, s2.heap.objs.size], _, _, H2, rfl, I3, turn_enumC b c a (s2.heap.objs.size + 1) s2.heap.objs.size, ⟨⟨.none, by rw [show c + ((0 : Nat) : Int) = c by omega]; exact hE⟩, st0, Nat.succ_ne_self _⟩, fun y hy => ?_, q⟩
      have hle : s2.heap.objs.size ≤ y := by
        rcases (show y = s2.heap.objs.size + 1 ∨ y = s2.heap.objs.size by simpa using hy) with z | z
        · rw [z]
          exact Nat.le_add_right _ _
        · rw [z]
          exact Nat.le_refl _
      exact I2.fpOk hle (I2.hok.fresh hle)
theorem walk_enumC {K : PySem.W.Frag} {b : Bool} {a : Addr} {c : Int} {xs : List V} : Walk (IteC K b a c) xs.length (fun H => Sq K H b a xs) (YPair (fun i => some (.int (c + (i : Int)))) (fun i => xs[i]?)) := by
  refine ⟨fun i H hi q => ⟨xs, xs[i], q, by simp [hi]⟩, fun H q => ⟨xs, q, rfl⟩, fun i H v H' _ q y => ?_⟩
  obtain ⟨T, x, h1, h2, h3, h4⟩ := y
  exact ⟨T, _, x, h1, h2, h3, rfl, h4 xs q⟩
section
variable {X : Cx}
/-- sum(t), t a tuple of whole numbers -/
def rSumT (K : PySem.W.Frag) : List V → Hp → VK → Prop := fun vs H Q => ∃ (a : Addr) (ns : List Int), vs = [V.ref a] ∧ SqT K H a (ns.map V.int) ∧ Q (.int ns.sum) H
theorem cr_sumT (hc : X.calm = true) : CallR X (.builtin "sum") (rSumT X.K) := by
  intro pins s σ H vs us Q I r h
  obtain ⟨a, ns, rfl, ht, q⟩ := h
  obtain ⟨u, rfl, r1⟩ := vals1 r
  cases (show u = Value.ref a from r1)
  obtain ⟨its, rv, p, hz⟩ := I.tuple ht
  have hi := intsAre_of rv
  obtain ⟨xs, hx⟩ := hi.allInts.items
  have hn : numsOf its.toArray.toList = ns := by rw [show its.toArray.toList = its from rfl, hi.numsOf]
  have p' : s.heap.IsTuple a its.toArray := p
  rw [hx] at p' hn
  rw [nums_intItems] at hn
  refine PySem.W.ktm_sumG (I.ok.hd hc) p' fun h' tk t' hk => ?_
  have e : preSum (numAt xs) xs.size = ns.sum := by
    rw [preSum_eq, List.take_of_length_le (by simp), hn]
  rw [e]
  exact ⟨.int ns.sum, H, I.kept hk, ⟨_, rfl⟩, q⟩
end
end My
set_option Elab.async false
set_option linter.all false
set_option maxRecDepth 100000
set_option maxHeartbeats 4000000
/-! B5: rows that are lists or tuples; things that are asked about, instances among them. -/
namespace My
open PySem PySem.Spec PyProof.Rows L2
abbrev Occ (S : Av) (H : Hp) : Prop := ∀ b, S b → H b ≠ none
theorem Occ.same {S : Av} {H H' : Hp} (h : Occ S H) (s : Same H H') : Occ S H' := fun b z e => by
  cases q : H b with
  | none => exact h b z q
  | some o =>
    have := s b o q
    rw [e] at this
    cases this
theorem Occ.free {S : Av} {H : Hp} {q : Addr} (h : Occ S H) (e : H q = none) : ¬ S q := fun z => h q z e
theorem Same.btS {S : Av} {H H' : Hp} (s : Same H H') : BtS S H H' := fun b o _ e => s b o e
/-- xs stand at a, a list or a tuple -/
def Rw (H : Hp) (a : Addr) (xs : List V) : Prop := H a = some (.lst xs) ∨ H a = some (.tup xs)
theorem Rw.sq {K : PySem.W.Frag} {H : Hp} {a : Addr} {xs : List V} (h : Rw H a xs) : ∃ b, Sq K H b a xs := h.elim (fun e => ⟨false, .inl (.inl e)⟩) fun e => ⟨true, .inl (.inl e)⟩
theorem Rw.same {H H' : Hp} {a : Addr} {xs : List V} (h : Rw H a xs) (s : Same H H') : Rw H' a xs := h.elim (fun e => .inl (s _ _ e)) fun e => .inr (s _ _ e)
theorem Sq.same {K : PySem.W.Frag} {H H' : Hp} {b : Bool} {a : Addr} {xs : List V} (h : Sq K H b a xs) (s : Same H H') : Sq K H' b a xs := by
  cases b with
  | false => exact s.seq h
  | true =>
    rcases h with (h | ⟨o, h⟩) | h
    · exact .inl (.inl (s _ _ h))
    · exact .inl (.inr ⟨o, s _ _ h⟩)
    · exact .inr h
/-- a row of data, a list or a tuple -/
def RwA (S : Av) (H : Hp) (v : V) (xs : List V) (ds : List PyData) : Prop := ∃ a, v = .ref a ∧ ¬ S a ∧ Rw H a xs ∧ AtAll S H xs ds
theorem RwA.same {S : Av} {H H' : Hp} {v : V} {xs : List V} {ds : List PyData} (h : RwA S H v xs ds) (s : Same H H') : RwA S H' v xs ds := by
  obtain ⟨a, e, n, r, k⟩ := h
  exact ⟨a, e, n, r.same s, AtAll.bt (Same.btS s) _ _ k⟩
theorem At.same {S : Av} {H H' : Hp} {v : V} {d : PyData} (h : At S H v d) (s : Same H H') : At S H' v d := At.bt (Same.btS s) _ _ h
theorem AtAll.same {S : Av} {H H' : Hp} {v : List V} {d : List PyData} (h : AtAll S H v d) (s : Same H H') : AtAll S H' v d := AtAll.bt (Same.btS s) _ _ h
def Itb (K : PySem.W.Frag) (b : Bool) (a : Addr) : It := match b with
  | false => Itl K a
  | true => Itt K a
theorem walk_row {K : PySem.W.Frag} {b : Bool} {a : Addr} {xs : List V} : Walk (Itb K b a) xs.length (fun H => Sq K H b a xs) (YAt xs) := match b with
  | false => walk_list
  | true => walk_tup
def iRow (K : PySem.W.Frag) (te : TE) : TI := fun σ H R => te σ H fun x H1 => ∃ (a : Addr) (b : Bool) (xs : List V), x = .ref a ∧ Sq K H1 b a xs ∧ R (Itb K b a) H1
section
variable {X : Cx}
theorem pi_row {tg l : Expr} {tl : TE} (hl : PE X l tl) : PI X tg l (iRow X.K tl) := by
  refine ⟨fun pins s σ H R I h => thn (hl.run pins s σ H _ I h) fun v s1 ⟨x, H1, I1, r1, a, b, xs, e, hq, q⟩ => ?_⟩
  subst e
  cases r1
  have fin : ∀ y ∈ [s1.heap.objs.size], FpOk X pins H1 y := fun y hy => by
    rw [List.mem_singleton.mp hy]
    exact I1.fpOk (Nat.le_refl _) (I1.hok.fresh (Nat.le_refl _))
  cases b with
  | false =>
    obtain ⟨its, rv, p, hz⟩ := I1.list hq
    exact wpAny_pyIter_list p.isList ⟨s1.heap.objs.size, [s1.heap.objs.size], _, _, H1, rfl, I1.kept (t' := s1.toks) fun b o k => Heap.get?_push_of_some _ k, turn_list a _, ⟨_, Heap.get?_push_size _ rfl, rfl, rfl⟩, fin, q⟩
  | true =>
    obtain ⟨its, rv, p, hz⟩ := I1.tuple hq
    exact wpAny_pyIter_tuple (show s1.heap.IsTuple a its.toArray from p) ⟨s1.heap.objs.size, [s1.heap.objs.size], _, _, H1, rfl, I1.kept (t' := s1.toks) fun b o k => Heap.get?_push_of_some _ k, turn_tuple a _, ⟨_, Heap.get?_push_size _ rfl, rfl, rfl⟩, fin, q⟩
end
/-- the length of a row, by len -/
theorem Sq.lenV {K : PySem.W.Frag} {H : Hp} {b : Bool} {a : Addr} {xs : List V} (h : Sq K H b a xs) : LenV K (.ref a) H xs.length := match b, h with
  | false, h => .inl ⟨xs, h, rfl⟩
  | true, h => .inr ⟨xs, h, rfl⟩
/-- isinstance of a row, (list, tuple) -/
theorem row_kit {K : PySem.W.Frag} {H : Hp} {a : Addr} {xs : List V} (h : Rw H a xs) : ∃ t, TyX K H (.ref a) t ∧ PySem.W.kitAny K t [.type "list", .type "tuple"] = some true := by
  rcases h with h | h
  · exact ⟨.type "list", .base (.lst h), kitAny_cons (kit_ty (b := "list") (r := true) (by decide +kernel)) (fun z => nomatch z) (fun _ => rfl)⟩
  · exact ⟨.type "tuple", .base (.tup h), kitAny_cons (kit_ty (b := "list") (r := false) (by decide +kernel)) (fun _ => kitAny_cons (kit_ty (b := "tuple") (r := true) (by decide +kernel)) (fun z => nomatch z) (fun _ => rfl)) (fun z => nomatch z)⟩
theorem two_ty : Paired ClsV [.ty "list", .ty "tuple"] [.type "list", .type "tuple"] := .cons (.ty _) (.cons (.ty _) .nil)
/-- tuple(x) of a row: a tuple of the same items, the row itself or a new one -/
theorem row_tuple {K : PySem.W.Frag} {S : Av} {H : Hp} {a : Addr} {xs : List V} {ds : List PyData} (o : Occ S H) (n : ¬ S a) (h : Rw H a xs) (k : AtAll S H xs ds) {Q : VK} (q : ∀ v H', Same H H' → At S H' v (.tuple ds) → Q v H') :
    ∃ p ys, [V.ref a] = [.ref p] ∧ ((SqL K H p ys ∧ ∀ l, H l = none → Q (.ref l) (upd H l (.tup ys))) ∨ (SqT K H p ys ∧ Q (.ref p) H)) := by
  rcases h with h | h
  · exact ⟨a, xs, rfl, .inl ⟨.inl (.inl h), fun l hl => q _ _ (same_new hl) (.tup (o.free hl) upd_same (AtAll.same k (same_new hl)))⟩⟩
  · exact ⟨a, xs, rfl, .inr ⟨.inl (.inl h), q _ _ (Same.refl H) (.tup n h k)⟩⟩
end My
set_option Elab.async false
set_option linter.all false
set_option maxRecDepth 100000
set_option maxHeartbeats 4000000
/-! B6: things that are asked about; whole numbers and names among them. -/
namespace My
open PySem PySem.Spec PyProof.Rows L2
/-- an own class whose things can be asked about -/
structure OwnK (K : PySem.W.Frag) (C : Addr) : Prop where
  cl : Cls K C
  ha : PySem.W.findIn K (.ref C) "__class__" = some (some (.builtin "object.__class__"))
  hn : PySem.W.specialIn K (.builtin "object.__class__") "__get__" = some (some (.builtin "getset_descriptor.__get__"))
  htk : PySem.W.takesIn K (.builtin "object.__class__") = some true
  hm : PySem.W.mroIn K C (.type "object") = some true
  nI : PySem.W.kitOne K (.ref C) (.type "int") = some false
  nB : PySem.W.kitOne K (.ref C) (.type "bool") = some false
  nS : PySem.W.kitOne K (.ref C) (.type "str") = some false
/-- a thing that is asked about, as it stands in the heap -/
inductive Th (K : PySem.W.Frag) (H : Hp) : V → Prop where
  | non : Th K H .non
  | bl (b : Bool) : Th K H (.bl b)
  | int (i : Int) : Th K H (.int i)
  | str (l : List Nat) (h : l.length ≤ 1000) (a : ∀ c ∈ l, c < 128) : Th K H (.str (SX.S l))
  | lst {a : Addr} {xs : List V} (e : H a = some (.lst xs)) : Th K H (.ref a)
  | tup {a : Addr} {xs : List V} (e : H a = some (.tup xs)) : Th K H (.ref a)
  | dct {a : Addr} {xs : List (Key × V)} (e : H a = some (.dK xs)) : Th K H (.ref a)
  | exc {a C : Addr} {fs : List (Str × V)} (e : Exn H a C fs) (i : ExI K C) (n1 : PySem.W.kitOne K (.ref C) (.type "int") = some false) (n2 : PySem.W.kitOne K (.ref C) (.type "bool") = some false) (n3 : PySem.W.kitOne K (.ref C) (.type "str") = some false) : Th K H (.ref a)
  | ins {a C dx : Addr} {fs : List (Str × V)} (e : H a = some (.ins C dx fs)) (k : OwnK K C) : Th K H (.ref a)
theorem Th.same {K : PySem.W.Frag} {H H' : Hp} {x : V} (h : Th K H x) (s : Same H H') : Th K H' x := by
  cases h with
  | non => exact .non
  | bl b => exact .bl b
  | int i => exact .int i
  | str l h a => exact .str l h a
  | lst e => exact .lst (s _ _ e)
  | tup e => exact .tup (s _ _ e)
  | dct e => exact .dct (s _ _ e)
  | exc e i a b c => exact .exc (e.same s) i a b c
  | ins e k => exact .ins (s _ _ e) k
def vInt : V → Bool
  | .int _ => true
  | .bl _ => true
  | _ => false
def vBl : V → Bool
  | .bl _ => true
  | _ => false
def vStr : V → Bool
  | .str _ => true
  | _ => false
def RB (K : PySem.W.Frag) : List V → Hp → VK → Prop := fun xs H Q => rIsi K xs H Q ∨ ∃ (a C : Addr) (fs : List (Str × V)) (c : V) (u : Value) (b : Bool), xs = [.ref a, c] ∧ Exn H a C fs ∧ ExI K C ∧ ClsV c u ∧ PySem.W.kitOne K (.ref C) u = some b ∧ Q (.bl b) H
theorem isi_b {K : PySem.W.Frag} {H : Hp} {x : V} {T t : String} {b : Bool} (h : TyOf K H x (.type t)) (e : kitB t T = some b) {Q : VK} (q : Q (.bl b) H) : RB K [x, .ty T] H Q :=
  .inl ⟨x, .ty T, _, _, b, rfl, .ty T, .base h, kit_ty e, q⟩
theorem Th.int? {K : PySem.W.Frag} {H : Hp} {x : V} (h : Th K H x) {Q : VK} (q : Q (.bl (vInt x)) H) : RB K [x, .ty "int"] H Q := by
  cases h with
  | non => exact isi_b (b := false) .non (by decide +kernel) q
  | bl b => exact isi_b (b := true) (.bl b) (by decide +kernel) q
  | int i => exact isi_b (b := true) (.int i) (by decide +kernel) q
  | str l h a => exact isi_b (b := false) (.str _) (by decide +kernel) q
  | lst e => exact isi_b (b := false) (.lst e) (by decide +kernel) q
  | tup e => exact isi_b (b := false) (.tup e) (by decide +kernel) q
  | dct e => exact isi_b (b := false) (.dK e) (by decide +kernel) q
  | exc e i a b c => exact .inr ⟨_, _, _, _, _, _, rfl, e, i, .ty _, a, q⟩
  | ins e k => exact .inl ⟨_, _, _, _, false, rfl, .ty _, .base (.ins e k.cl k.ha k.hn k.htk k.hm), k.nI, q⟩
theorem Th.bl? {K : PySem.W.Frag} {H : Hp} {x : V} (h : Th K H x) {Q : VK} (q : Q (.bl (vBl x)) H) : RB K [x, .ty "bool"] H Q := by
  cases h with
  | non => exact isi_b (b := false) .non (by decide +kernel) q
  | bl b => exact isi_b (b := true) (.bl b) (by decide +kernel) q
  | int i => exact isi_b (b := false) (.int i) (by decide +kernel) q
  | str l h a => exact isi_b (b := false) (.str _) (by decide +kernel) q
  | lst e => exact isi_b (b := false) (.lst e) (by decide +kernel) q
  | tup e => exact isi_b (b := false) (.tup e) (by decide +kernel) q
  | dct e => exact isi_b (b := false) (.dK e) (by decide +kernel) q
  | exc e i a b c => exact .inr ⟨_, _, _, _, _, _, rfl, e, i, .ty _, b, q⟩
  | ins e k => exact .inl ⟨_, _, _, _, false, rfl, .ty _, .base (.ins e k.cl k.ha k.hn k.htk k.hm), k.nB, q⟩
theorem Th.str? {K : PySem.W.Frag} {H : Hp} {x : V} (h : Th K H x) {Q : VK} (q : Q (.bl (vStr x)) H) : RB K [x, .ty "str"] H Q := by
  cases h with
  | non => exact isi_b (b := false) .non (by decide +kernel) q
  | bl b => exact isi_b (b := false) (.bl b) (by decide +kernel) q
  | int i => exact isi_b (b := false) (.int i) (by decide +kernel) q
  | str l h a => exact isi_b (b := true) (.str _) (by decide +kernel) q
  | lst e => exact isi_b (b := false) (.lst e) (by decide +kernel) q
  | tup e => exact isi_b (b := false) (.tup e) (by decide +kernel) q
  | dct e => exact isi_b (b := false) (.dK e) (by decide +kernel) q
  | exc e i a b c => exact .inr ⟨_, _, _, _, _, _, rfl, e, i, .ty _, c, q⟩
  | ins e k => exact .inl ⟨_, _, _, _, false, rfl, .ty _, .base (.ins e k.cl k.ha k.hn k.htk k.hm), k.nS, q⟩
def letters26 : List Nat := (Str.cps "abcdefghijklmnopqrstuvwxyz").toList
def whole (x : V) (lo hi : Int) : Bool := match x with
  | .int i => decide (lo ≤ i) && decide (i ≤ hi)
  | _ => false

def nameL (l : List Nat) : Bool := decide (1 ≤ l.length) && decide (l.length ≤ 6) && l.all fun c => decide (c ∈ letters26)
def nameV : V → Bool
  | .str z => nameL z.cps.toList
  | _ => false
def sp_whole (K : PySem.W.Frag) : Sp := fun vs H Q _ => ∃ (x : V) (lo hi : Int), vs = [x, .int lo, .int hi] ∧ Th K H x ∧ Q (.bl (whole x lo hi)) H
def sp_name (K : PySem.W.Frag) : Sp := fun vs H Q _ => ∃ x : V, vs = [x] ∧ Th K H x ∧ ∀ H', Same H H' → Q (.bl (nameV x)) H'
def sp_made (K : PySem.W.Frag) : Sp := fun vs H Q _ => ∃ x : V, vs = [x, .str "abcdefghijklmnopqrstuvwxyz", .int 6] ∧ Th K H x ∧ ∀ H', Same H H' → Q (.bl (nameV x)) H'
theorem same_new2 {H : Hp} {p : Addr} {o u : HO} (h : H p = none) : Same H (upd (upd H p o) p u) := fun b x e => by
  have n := ne_of_none e h
  rw [upd_ne n, upd_ne n]
  exact e
section
variable {K : PySem.W.Frag}
theorem Th.str_of {H : Hp} {x : V} (h : Th K H x) (e : vStr x = true) : ∃ l : List Nat, x = .str (SX.S l) ∧ l.length ≤ 1000 ∧ ∀ c ∈ l, c < 128 := by
  cases h with
  | str l h a => exact ⟨l, rfl, h, a⟩
  | _ => exact absurd e Bool.false_ne_true
theorem nameV_no {x : V} (e : ¬ vStr x = true) : nameV x = false := by
  cases x with
  | str z => exact absurd rfl e
  | _ => rfl
theorem nameV_S (l : List Nat) : nameV (.str (SX.S l)) = nameL l := rfl
end
end My
set_option Elab.async false
set_option linter.all false
set_option maxRecDepth 100000
set_option maxHeartbeats 4000000
/-! B7: new lists of data that are made without any draw; rows of rows. -/
namespace My
open PySem PySem.Spec PyProof.Rows L2
theorem Occ.plus {S : Av} {H : Hp} {D : Addr} {o : HO} (h : Occ S H) (e : H D = some o) : Occ (Plus S D) H := fun b z => z.elim (h b) fun q => by
  rw [q, e]
  exact fun z => nomatch z
theorem Same.fresh {H H' : Hp} {D : Addr} (s : Same H H') (h : H' D = none) : H D = none := by
  cases e : H D with
  | none => rfl
  | some o =>
    have := s D o e
    rw [h] at this
    cases this
/-- a new list at D holds the data ds so far -/
structure LcS (S : Av) (H : Hp) (D : Addr) (xs : List V) (ds : List PyData) (H' : Hp) : Prop where
  fr : H D = none
  s : Same H H'
  at_ : H' D = some (.lst xs)
  a : AtAll (Plus S D) H' xs ds
theorem LcS.start {S : Av} {H : Hp} {D : Addr} (hD : H D = none) : LcS S H D [] [] (upd H D (.lst [])) := ⟨hD, same_new hD, upd_same, .nil⟩
theorem LcS.keep {S : Av} {H H1 H2 : Hp} {D : Addr} {xs : List V} {ds : List PyData} (c : LcS S H D xs ds H1) (k : Same H1 H2) : LcS S H D xs ds H2 := ⟨c.fr, c.s.trans k, k _ _ c.at_, AtAll.same c.a k⟩
theorem LcS.step {S : Av} {H H1 : Hp} {D : Addr} {xs : List V} {ds : List PyData} {y : V} {d : PyData} (c : LcS S H D xs ds H1) (hy : At (Plus S D) H1 y d) : LcS S H D (xs ++ [y]) (ds ++ [d]) (upd H1 D (.lst (xs ++ [y]))) := by
  have U : BtS (Plus S D) H1 (upd H1 D (.lst (xs ++ [y]))) := BtS.upd (.inr rfl)
  refine ⟨c.fr, fun b o e => ?_, upd_same, AtAll.bt U _ _ (c.a.app (.cons hy .nil))⟩
  rw [upd_ne (ne_of_none e c.fr)]
  exact c.s b o e
theorem LcS.occ {S : Av} {H H1 : Hp} {D : Addr} {xs : List V} {ds : List PyData} (c : LcS S H D xs ds H1) (o : Occ S H) : Occ (Plus S D) H1 := (o.same c.s).plus c.at_
theorem LcS.done {S : Av} {H H1 : Hp} {D : Addr} {xs : List V} {ds : List PyData} (c : LcS S H D xs ds H1) : AtAll S H1 xs ds := AtAll.weak (fun _ z => .inl z) _ _ c.a
theorem LcS.len {S : Av} {H H1 : Hp} {D : Addr} {xs : List V} {ds : List PyData} (c : LcS S H D xs ds H1) : xs.length = ds.length := c.a.len
/-- a chapter handed in: a row of whole numbers -/
def ChIn (S : Av) (H : Hp) (v : V) (c : List Int) : Prop := ∃ a, v = .ref a ∧ ¬ S a ∧ Rw H a (c.map V.int)
theorem ChIn.same {S : Av} {H H' : Hp} {v : V} {c : List Int} (h : ChIn S H v c) (s : Same H H') : ChIn S H' v c := by
  obtain ⟨a, e, n, r⟩ := h
  exact ⟨a, e, n, r.same s⟩
theorem ChIn.plus {S : Av} {H : Hp} {v : V} {c : List Int} {D : Addr} (h : ChIn S H v c) (f : ∀ xs, H D ≠ some (.lst xs) ∨ True) (g : H D = none) : ChIn (Plus S D) H v c := by
  obtain ⟨a, e, n, r⟩ := h
  refine ⟨a, e, fun z => z.elim n fun q => ?_, r⟩
  rcases r with r | r
  · rw [q, g] at r
    cases r
  · rw [q, g] at r
    cases r
/-- all chapters of a book handed in -/
def ChsIn (S : Av) (H : Hp) (xs : List V) (C : List (List Int)) : Prop := xs.length = C.length ∧ ∀ (i : Nat) (x : V) (c : List Int), xs[i]? = some x → C[i]? = some c → ChIn S H x c
theorem ChsIn.same {S : Av} {H H' : Hp} {xs : List V} {C : List (List Int)} (h : ChsIn S H xs C) (s : Same H H') : ChsIn S H' xs C := ⟨h.1, fun i x c e f => (h.2 i x c e f).same s⟩
/-- a book handed in -/
def BkIn (S : Av) (H : Hp) (v : V) (nm : List Nat) (C : List (List Int)) : Prop := ∃ a c xs, v = .ref a ∧ H a = some (.tup [.str (SX.S nm), .ref c]) ∧ Rw H c xs ∧ ChsIn S H xs C
theorem BkIn.same {S : Av} {H H' : Hp} {v : V} {nm : List Nat} {C : List (List Int)} (h : BkIn S H v nm C) (s : Same H H') : BkIn S H' v nm C := by
  obtain ⟨a, c, xs, e, f, r, k⟩ := h
  exact ⟨a, c, xs, e, s _ _ f, r.same s, k.same s⟩
def chD (c : List Int) : PyData := .tuple (c.map .int)
def chsD (C : List (List Int)) : PyData := .tuple (C.map chD)
def bkD (b : List Nat × List (List Int)) : PyData := .tuple [.str (SX.S b.1), chsD b.2]
def bksD (B : List (List Nat × List (List Int))) : PyData := .tuple (B.map bkD)
theorem ChIn.plusN {S : Av} {H : Hp} {v : V} {c : List Int} {D : Addr} (h : ChIn S H v c) (g : H D = none) : ChIn (Plus S D) H v c := h.plus (fun _ => .inr trivial) g
theorem ChsIn.plusN {S : Av} {H : Hp} {xs : List V} {C : List (List Int)} {D : Addr} (h : ChsIn S H xs C) (g : H D = none) : ChsIn (Plus S D) H xs C := ⟨h.1, fun i x c e f => (h.2 i x c e f).plusN g⟩
theorem BkIn.plusN {S : Av} {H : Hp} {v : V} {nm : List Nat} {C : List (List Int)} {D : Addr} (h : BkIn S H v nm C) (g : H D = none) : BkIn (Plus S D) H v nm C := by
  obtain ⟨a, c, xs, e, f, r, k⟩ := h
  exact ⟨a, c, xs, e, f, r, k.plusN g⟩
end My
namespace My
open PySem PySem.Spec PyProof.Rows L2
theorem AtAll.ints_inv {S : Av} {H : Hp} : ∀ (ns : List Int) (vs : List V), AtAll S H vs (ns.map .int) → vs = ns.map .int
  | [], _, h => by
    cases h
    rfl
  | n :: r, _, h => by
    cases h with
    | cons h1 h2 =>
      cases h1
      rw [AtAll.ints_inv r _ h2]
      rfl
theorem At.ch {S : Av} {H : Hp} {v : V} {c : List Int} (h : At S H v (chD c)) : ∃ a, v = .ref a ∧ ¬ S a ∧ H a = some (.tup (c.map V.int)) := by
  cases h with
  | tup n e k => exact ⟨_, rfl, n, by rw [e, AtAll.ints_inv _ _ k]⟩
theorem At.bk {S : Av} {H : Hp} {v : V} {b : List Nat × List (List Int)} (h : At S H v (bkD b)) : ∃ a c zs, v = .ref a ∧ ¬ S a ∧ H a = some (.tup [.str (SX.S b.1), .ref c]) ∧ ¬ S c ∧ H c = some (.tup zs) ∧ AtAll S H zs (b.2.map chD) := by
  cases h with
  | tup n e k =>
    cases k with
    | cons h1 k2 =>
      cases k2 with
      | cons h2 k3 =>
        cases k3
        cases h1
        cases h2 with
        | tup n2 e2 k4 => exact ⟨_, _, _, rfl, n, e, n2, e2, k4⟩
/-- the i-th of data that is told by a map -/
theorem AtAll.at_ {α : Type} {S : Av} {H : Hp} {xs : List V} {B : List α} {f : α → PyData} (h : AtAll S H xs (B.map f)) {i : Nat} {x : V} (e : xs[i]? = some x) : ∃ b, B[i]? = some b ∧ At S H x (f b) := by
  obtain ⟨d, h1, h2⟩ := AtAll.get h e
  rw [List.getElem?_map] at h1
  cases q : B[i]? with
  | none =>
    rw [q] at h1
    cases h1
  | some b =>
    rw [q] at h1
    cases h1
    exact ⟨b, rfl, h2⟩
end My
namespace My
open PySem PySem.Spec PyProof.Rows L2
theorem LcS.put {S : Av} {H H1 : Hp} {D : Addr} {xs ys : List V} {ds es : List PyData} (c : LcS S H D xs ds H1) (hy : AtAll (Plus S D) H1 ys es) : LcS S H D ys es (upd H1 D (.lst ys)) := by
  have U : BtS (Plus S D) H1 (upd H1 D (.lst ys)) := BtS.upd (.inr rfl)
  refine ⟨c.fr, fun b o e => ?_, upd_same, AtAll.bt U _ _ hy⟩
  rw [upd_ne (ne_of_none e c.fr)]
  exact c.s b o e
end My
set_option Elab.async false
set_option linter.all false
set_option maxRecDepth 100000
set_option maxHeartbeats 4000000
/-! B8: a comprehension of two for. -/
namespace My
open PySem PySem.Spec PyProof.Rows L2
/-- the inner walk of one turn of the outer one -/
def Turn1 (J1 : It) (g1 : TG) (tt1 : TT) (te : TE) (σ2 : L2.St) (vs1 : List Nat) (D : Addr) (Nx : Hp → Prop) (H4 : Hp) : Prop := ∃ W1 : Nat → Nat → Hp → Prop, (∃ m, W1 0 m H4) ∧ ∀ j k H, W1 j k H →
  (J1.stop j H ∧ Nx H) ∨ (J1.go j H ∧ ∃ Nx1 : Hp → Prop, (∀ H', Nx1 H' → ∃ k', k' < k ∧ W1 (j + 1) k' H') ∧ ∀ x H', J1.yld j H x H' → g1 x (wipe σ2 vs1) H' fun σ3 H5 => wipe σ3 vs1 = wipe σ2 vs1 ∧ tt1 σ3 H5 fun b H6 =>
    if b = true then te σ3 H6 fun y H7 => ∃ acc, H7 D = some (.lst acc) ∧ acc.length < sizeLine ∧ Nx1 (upd H7 D (.lst (acc ++ [y]))) else Nx1 H6)
theorem turn1_it {J1 : It} {n : Nat} {G : Hp → Prop} {Y : Nat → Hp → V → Hp → Prop} (w : Walk J1 n G Y) {g1 : TG} {tt1 : TT} {te : TE} {σ2 : L2.St} {vs1 : List Nat} {D : Addr} {Nx : Hp → Prop} {H4 : Hp} (Pi : Nat → Hp → Prop) (h0 : Pi 0 H4) (hG : ∀ i H, i ≤ n → Pi i H → G H)
    (hs : ∀ j x H H', j < n → Pi j H → Y j H x H' → g1 x (wipe σ2 vs1) H' fun σ3 H5 => wipe σ3 vs1 = wipe σ2 vs1 ∧ tt1 σ3 H5 fun b H6 =>
      if b = true then te σ3 H6 fun y H7 => ∃ acc, H7 D = some (.lst acc) ∧ acc.length < sizeLine ∧ Pi (j + 1) (upd H7 D (.lst (acc ++ [y]))) else Pi (j + 1) H6) (hd : ∀ H, Pi n H → Nx H) : Turn1 J1 g1 tt1 te σ2 vs1 D Nx H4 := by
  refine ⟨fun i m H => m = n - i ∧ i ≤ n ∧ Pi i H, ⟨n, by simp, Nat.zero_le _, h0⟩, ?_⟩
  rintro i m H ⟨rfl, hi, p⟩
  have q := hG i H hi p
  by_cases hlt : i < n
  · exact .inr ⟨w.goes i H hlt q, Pi (i + 1), fun H' p' => ⟨n - (i + 1), by omega, rfl, hlt, p'⟩, fun x H' y => hs i x H H' hlt p (w.yields i H x H' hlt q y)⟩
  · have e : i = n := by omega
    subst e
    exact .inl ⟨w.stops H q, hd H p⟩
theorem lc2_it {J : It} {n : Nat} {G : Hp → Prop} {Y : Nat → Hp → V → Hp → Prop} (w : Walk J n G Y) {wi1 : TI} {g g1 : TG} {tt tt1 : TT} {te : TE} {vs vs1 : List Nat} {σ : L2.St} {H1 : Hp} {D : Addr} {Qd : Hp → Prop} (Pv : Nat → Hp → Prop) (h0 : Pv 0 (upd H1 D (.lst []))) (hG : ∀ i H, i ≤ n → Pv i H → G H)
    (hs : ∀ i x H H', i < n → Pv i H → Y i H x H' → g x (wipe σ vs) H' fun σ2 H2 => wipe σ2 vs = wipe σ vs ∧ tt σ2 H2 fun b H3 => if b = true then wi1 σ2 H3 fun J1 H4 => Turn1 J1 g1 tt1 te σ2 vs1 D (Pv (i + 1)) H4 else Pv (i + 1) H3) (hd : ∀ H, Pv n H → Qd H) :
    ∃ W : Nat → Nat → Hp → Prop, (∃ m, W 0 m (upd H1 D (.lst []))) ∧ ∀ i m H, W i m H →
      (J.stop i H ∧ Qd H) ∨ (J.go i H ∧ ∃ Nx : Hp → Prop, (∀ H', Nx H' → ∃ m', m' < m ∧ W (i + 1) m' H') ∧ ∀ x H', J.yld i H x H' → g x (wipe σ vs) H' fun σ2 H2 => wipe σ2 vs = wipe σ vs ∧ tt σ2 H2 fun b H3 =>
        if b = true then wi1 σ2 H3 fun J1 H4 => Turn1 J1 g1 tt1 te σ2 vs1 D Nx H4 else Nx H3) := by
  refine ⟨fun i m H => m = n - i ∧ i ≤ n ∧ Pv i H, ⟨n, by simp, Nat.zero_le _, h0⟩, ?_⟩
  rintro i m H ⟨rfl, hi, p⟩
  have q := hG i H hi p
  by_cases hlt : i < n
  · exact .inr ⟨w.goes i H hlt q, Pv (i + 1), fun H' p' => ⟨n - (i + 1), by omega, rfl, hlt, p'⟩, fun x H' y => hs i x H H' hlt p (w.yields i H x H' hlt q y)⟩
  · have e : i = n := by omega
    subst e
    exact .inl ⟨w.stops H q, hd H p⟩
end My
namespace My
open PySem PySem.Spec PyProof.Rows L2
section
variable {X : Cx} {K : PySem.W.Frag}
theorem pg_tupK {es : List Expr} {k : Nat} {pos : Pos} {t : TGs} {n : Nat} (e : X.K = K) (hc : X.calm = true) (h : PGs X es t)
    (hn : (assignEach es X.env).length = n := by rfl) (hst : (assignEach es X.env).findIdx? (·.1) = none := by rfl) : PG X (.Tuple es k pos) (gTup K n t) := e ▸ pg_tup hc h hn hst
theorem cr_sumTK (h : X.K = K) (hc : X.calm = true) : CallR X (.builtin "sum") (rSumT K) := h ▸ cr_sumT hc
theorem pi_tupK {tg l : Expr} {tl : TE} (h : X.K = K) (hl : PE X l tl) : PI X tg l (iTup K tl) := h ▸ pi_tup hl
theorem pi_listK {tg l : Expr} {tl : TE} (h : X.K = K) (hl : PE X l tl) : PI X tg l (iList K tl) := h ▸ pi_list hl
end
end My
set_option Elab.async false
set_option linter.all false
set_option maxRecDepth 100000
set_option maxHeartbeats 4000000
/-! B9: dict comprehensions over any walk. -/
namespace My
open PySem PySem.Spec PyProof.Rows L2
theorem dc_it {J : It} {n : Nat} {G : Hp → Prop} {Y : Nat → Hp → V → Hp → Prop} (w : Walk J n G Y) {g : TG} {tt : TT} {tk tv : TE} {vs : List Nat} {σ : L2.St} {H1 : Hp} {D : Addr} {Qd : Hp → Prop} (Pv : Nat → Hp → Prop) (h0 : Pv 0 (upd H1 D (.dK []))) (hG : ∀ i H, i ≤ n → Pv i H → G H)
    (hs : ∀ i x H H', i < n → Pv i H → Y i H x H' → g x (wipe σ vs) H' fun σ2 H2 => wipe σ2 vs = wipe σ vs ∧ tt σ2 H2 fun b H3 =>
      if b = true then tk σ2 H3 fun y H4 => tv σ2 H4 fun z H5 => ∃ kvs k, y = kV k ∧ H5 D = some (.dK kvs) ∧ kvs.length < sizeLine ∧ Pv (i + 1) (upd H5 D (.dK (putK kvs k z))) else Pv (i + 1) H3) (hd : ∀ H, Pv n H → Qd H) :
    ∃ W : Nat → Nat → Hp → Prop, (∃ m, W 0 m (upd H1 D (.dK []))) ∧ ∀ i m H, W i m H →
      (J.stop i H ∧ Qd H) ∨ (J.go i H ∧ ∃ Nx : Hp → Prop, (∀ H', Nx H' → ∃ m', m' < m ∧ W (i + 1) m' H') ∧ ∀ x H', J.yld i H x H' → g x (wipe σ vs) H' fun σ2 H2 => wipe σ2 vs = wipe σ vs ∧ tt σ2 H2 fun b H3 =>
        if b = true then tk σ2 H3 fun y H4 => tv σ2 H4 fun z H5 => ∃ kvs k, y = kV k ∧ H5 D = some (.dK kvs) ∧ kvs.length < sizeLine ∧ Nx (upd H5 D (.dK (putK kvs k z))) else Nx H3) := by
  refine ⟨fun i m H => m = n - i ∧ i ≤ n ∧ Pv i H, ⟨n, by simp, Nat.zero_le _, h0⟩, ?_⟩
  rintro i m H ⟨rfl, hi, p⟩
  have q := hG i H hi p
  by_cases hlt : i < n
  · exact .inr ⟨w.goes i H hlt q, Pv (i + 1), fun H' p' => ⟨n - (i + 1), by omega, rfl, hlt, p'⟩, fun x H' y => hs i x H H' hlt p (w.yields i H x H' hlt q y)⟩
  · have e : i = n := by omega
    subst e
    exact .inl ⟨w.stops H q, hd H p⟩
theorem Occ.upd {S : Av} {H : Hp} {a : Addr} {o : HO} (h : Occ S H) : Occ S (upd H a o) := fun b z e => by
  by_cases q : b = a
  · rw [q, upd_same] at e
    cases e
  · rw [upd_ne q] at e
    exact h b z e
theorem val_no {κ : Type} [DecidableEq κ] {kvs : List (κ × V)} {k : κ} (h : k ∉ kvs.map (·.1)) : valV kvs k = none := by
  unfold valV
  have e : kvs.find? (fun kv => decide (kv.1 = k)) = none := by
    rw [List.find?_eq_none]
    intro kv hk hd
    exact h (List.mem_map.mpr ⟨kv, hk, of_decide_eq_true hd⟩)
  rw [e]
  rfl
theorem nodup_take_not {α : Type} {l : List α} (h : l.Nodup) {i : Nat} {x : α} (e : l[i]? = some x) : x ∉ l.take i := fun z => by
  obtain ⟨j, hj, q⟩ := List.mem_iff_getElem.mp z
  rw [List.length_take] at hj
  rw [List.getElem_take] at q
  have hi : i < l.length := (List.getElem?_eq_some_iff.mp e).1
  have h2 : l[j]? = some x := by rw [List.getElem?_eq_getElem (by omega), q]
  have := (List.getElem?_inj (i := j) (by omega) h).mp (h2.trans e.symm)
  omega
end My
namespace My
open PySem PySem.Spec PyProof.Rows L2
mutual
theorem At.more {p q : Av} {H : Hp} (W : ∀ b, H b ≠ none → q b → p b) : ∀ (d : PyData) (v : V), At p H v d → At q H v d
  | .none, _, h => by cases h; exact .non
  | .bool _, _, h => by cases h; exact .bl _
  | .int _, _, h => by cases h; exact .int _
  | .str _, _, h => by cases h; exact .str _
  | .list ds, _, h => by
    cases h with
    | lst n e k => exact .lst (fun z => n (W _ (by rw [e]; exact fun z => nomatch z) z)) e (AtAll.more W ds _ k)
  | .tuple ds, _, h => by
    cases h with
    | tup n e k => exact .tup (fun z => n (W _ (by rw [e]; exact fun z => nomatch z) z)) e (AtAll.more W ds _ k)
  | .dict _, _, h => by cases h
theorem AtAll.more {p q : Av} {H : Hp} (W : ∀ b, H b ≠ none → q b → p b) : ∀ (ds : List PyData) (vs : List V), AtAll p H vs ds → AtAll q H vs ds
  | [], _, h => by cases h; exact .nil
  | d :: ds, _, h => by
    cases h with
    | cons h1 h2 => exact .cons (At.more W d _ h1) (AtAll.more W ds _ h2)
end
theorem At.plusN {S : Av} {H : Hp} {v : V} {d : PyData} {D : Addr} (h : At S H v d) (g : H D = none) : At (Plus S D) H v d := At.more (fun b n z => z.elim id fun q => absurd (q ▸ g) n) _ _ h
theorem AtAll.plusN {S : Av} {H : Hp} {v : List V} {d : List PyData} {D : Addr} (h : AtAll S H v d) (g : H D = none) : AtAll (Plus S D) H v d := AtAll.more (fun b n z => z.elim id fun q => absurd (q ▸ g) n) _ _ h
end My
set_option Elab.async false
set_option linter.all false
set_option maxRecDepth 100000
set_option maxHeartbeats 4000000
/-! B10: a def with defaults, all arguments given. -/
namespace My
open PySem PySem.Spec PyProof.Rows L2
section
variable {P : Program} {w : World} {K : PySem.W.Frag} {mg : Str → Option Value} {base : Heap}
theorem funD_ok0 {x qual : Str} {st : Stmt} {dvs : List V} {kws : List (Str × V)} {f : Addr} {fd : FuncData} {N ps : List Str} {k : Nat} {sp : Sp} (F : FunD K x qual (defArgs st) (defBody st) (defScope st) dvs kws f fd) (S : FnScope N ps (defScope st)) (len : ∀ vs H Q E, sp vs H Q E → vs.length = ps.length)
    (hbody : ∀ (cdv : Value) (A : Around) (outer : List Env) (s : Shared) (H : Hp) (vs : List V) (Q : VK) (E : XK), Room k (A.deeper (envOfC qual (defScope st) s.heap.objs.size f cdv)) → sp vs H Q E →
      ∃ t, PSs (cxOf CX0 P w K mg base N qual (defScope st) f cdv A outer s H E).nox (defBody st) t ∧ t { nx := fun _ H' => Q .non H', rt := Q } (start N vs) H) : FnOk P w K mg base CX0 (k + 1) f fd ps sp := by
  refine F.ok S len fun cdv A outer s H vs Q E hr hsp => ?_
  obtain ⟨t, h, q⟩ := hbody cdv A outer s H vs Q E hr hsp
  exact ⟨t, h.nox, q⟩
theorem bindsD_all {fd : FuncData} {ps : List Str} {T : Addr} {o : Obj} {its : Array Value} {n : Nat} (lT : K.lookup T = some o) (oT : o.data = .seq its n)
    (h : ∀ us : List Value, us.length = ps.length → ∃ k : Option (Array Value) → Sem (List (Str × Value)), bindArgs fd ⟨us, []⟩ = seqItems? (.ref T) >>= k ∧ k (some its) = pure (ps.zip us)) : Binds K fd ps [] := by
  intro s us X hl
  rw [List.append_nil] at hl ⊢
  obtain ⟨k, e1, e2⟩ := h us hl
  refine BindsTo.of_looks fun M => ?_
  rw [e1]
  exact looks_items X lT oT (PySem.W.Looks.of_pure e2)
end
end My
namespace My
open PySem PySem.Spec PyProof.Rows L2
section
variable {X : Cx} {K : PySem.W.Frag}
theorem pe_fldK {e : Expr} {f : Str} {pos : Pos} {ta : TE} (h : X.K = K) (he : PE X e ta) (hb : attributeBase e f X.env (eval e X.env) = eval e X.env) : PE X (.Attribute e f pos) (tFld K ta f) := h ▸ pe_fld he hb
end
end My
set_option Elab.async false
set_option linter.all false
set_option maxRecDepth 100000
set_option maxHeartbeats 4000000
/-! S1: xs[:c] = ys, the lower bound left out: a rule of my own. -/
namespace My
open PySem PySem.Spec PyProof.Rows L2
theorem bounds_lo {c n : Nat} (hc : c ≤ n) : sliceBounds none (some (c : Int)) none n = (0, (c : Int), 1) := by
  simp only [sliceBounds, Option.getD_none]
  simp only [show ¬ ((c : Int) < 0) by omega, if_false, show (1 : Int) > 0 by decide, if_true]
  congr 1
  congr 1
  omega
section
variable {prog : Program} {w : World} {A : Around} {E : Value → Shared → Prop} {s : Shared}
theorem setItem_lo {l b sl : Addr} {items new : Array Value} {n n2 : Nat} {vu : Value} {c : Nat} {Q : Unit → Shared → Prop}
    (e : s.heap.get? l = some { cls := .type "list", data := .seq items n }) (e2 : s.heap.get? b = some { cls := .type "list", data := .seq new n2 }) (hne : l ≠ b)
    (hs : s.heap.IsSliceOf sl .none vu .none) (pu : IsPart vu (some (c : Int))) (hc : c ≤ items.size)
    (hsz : items.size + new.size ≤ sizeLine) (h : Q () { s with heap := s.heap.update l (Obj.mapSeq fun xs => xs.extract 0 0 ++ new ++ xs.extract c xs.size) }) :
    wpAny (model prog w) A (setItem (.ref l) (.ref sl) (.ref b)) Q E s := by
  obtain ⟨os, hos, hcs, hds⟩ := id hs
  have hl := PySem.IsL.isList e
  have hb := PySem.IsL.isList e2
  have other : Builtin.List.listSameRef (.ref l) (.ref b) = false := beq_eq_false_iff_ne.mpr hne
  have fits : ((fun xs : Array Value => xs.extract 0 0 ++ new ++ xs.extract c xs.size) items).size ≤ sizeLine + 1 := by
    simp only [Array.size_append, Array.size_extract]
    omega
  unfold setItem
  refine wpAny_holding ?_
  refine wpAny_bind (wpAny_sequenceKey hl.typeIs (by decide) ?_)
  refine wpAny_bind (wpAny_callSpecial?_slot (name := Str.ofString "__setitem__") hl.typeIs slot_list_setitem
    (wpAny_call_entry slot_list_setitem hl.typeIs entry_list_setitem ?_ (args_list_setitem _ _ _)))
  show wpAny _ _ (Builtin.List.listSubscript? (.ref sl) >>= _) _ _ s
  refine wpAny_bind ?_
  unfold Builtin.List.listSubscript?
  refine wpAny_bind (wpAny_specialOf ⟨os, hos, hcs⟩ slice_no_index ?_)
  simp only [Option.isNone_none, if_true]
  refine wpAny_pure ?_
  refine wpAny_bind (wpAny_typeOf ⟨os, hos, hcs⟩ ?_)
  rw [if_neg (by decide), listSliceParts_eq]
  refine wpAny_bind (wpAny_bind (wpAny_field hos hds (x := .none) rfl (wpAny_bind (wpAny_listPart .none ?_))))
  rw [if_neg (show ¬ ((rawPart none == rawInt 0) = true) from Bool.false_ne_true)]
  refine wpAny_bind (wpAny_field hos hds (x := .none) rfl (wpAny_bind (wpAny_listPart .none (wpAny_bind (wpAny_field hos hds (x := vu) rfl (wpAny_bind (wpAny_listPart pu (wpAny_pure ?_))))))))
  dsimp only
  rw [if_neg (by rw [other]; exact Bool.false_ne_true)]
  refine wpAny_bind (m := Builtin.List.listAllItems (.ref b) "must assign iterable to extended slice") ?_
  unfold Builtin.List.listAllItems Builtin.List.listItems
  refine wpAny_bind (wpAny_typeOf hb.typeIs ?_)
  rw [if_pos (by decide)]
  refine wpAny_bind (wpAny_seqItems e2 rfl (wpAny_pure ?_))
  refine wpAny_bind (wpAny_bind (wpAny_seqItems e rfl (wpAny_pure ?_)))
  refine wpAny_bind (wpAny_of_eq ((sliceIndices_raw none (some (c : Int)) none items.size (by simp)).trans (congrArg (pure : Int × Int × Int → Sem (Int × Int × Int)) (bounds_lo hc))) ?_)
  show wpAny _ _ (if ((1 : Int) == 1) = true then _ else _) _ _ s
  rw [if_pos (by decide)]
  refine wpAny_bind (wpAny_rule ?_)
  rw [if_neg (by rw [notLongL hsz]; exact Bool.false_ne_true)]
  have em : (max (0 : Int) (c : Int)).toNat = c := by omega
  show wpAny _ _ (updateSeq l (fun xs => xs.extract 0 0 ++ new ++ xs.extract (max (0 : Int) (c : Int)).toNat xs.size) >>= _) _ _ s
  rw [em]
  refine wpAny_bind (wpAny_updateSeq (hz := Nat.le_trans (Nat.le_add_right _ _) hsz) (_hz' := fits) e rfl (wpAny_bind (wpAny_letGo ?_)))
  exact wpAny_pure ⟨.none, rfl, wpAny_pure h⟩
end
section
variable {X : Cx}
theorem cut_eq (its its2 : List Value) (c : Nat) : its.toArray.extract 0 0 ++ its2.toArray ++ its.toArray.extract c its.toArray.size = (its2 ++ its.drop c).toArray := by
  have h := splice_eq its its2 0 c
  rwa [List.take_zero, List.nil_append] at h
/-- o[:hi] = a list -/
def gCutL (to : TE) (th : TO) : TG := fun v σ H Q => to σ H fun x H1 => th σ H1 fun u H2 => ∃ (l b : Addr) (xs ys : List V) (c : Nat), x = .ref l ∧ v = .ref b ∧ u = some ((c : Nat) : Int) ∧ H2 l = some (.lst xs) ∧ H2 b = some (.lst ys) ∧ l ≠ b ∧ c ≤ xs.length ∧ xs.length + ys.length ≤ sizeLine ∧ Q σ (upd H2 l (.lst (ys ++ xs.drop c)))
theorem pg_cutL {o : Expr} {to : TE} {hi : Option Expr} {th : TO} {p2 pos : Pos} (ho : PE X o to) (hu : PO X hi th)
    (ha : ∀ v, assign (.Subscript o (.Slice none hi none p2) pos) X.env v = (do
      let ov ← holding [v] (eval o X.env)
      let iv ← holding [v, ov] (eval (.Slice none hi none p2) X.env)
      standAt pos
      holding [v, ov, iv] (setItem ov iv v)
      release [iv, v, ov] []) := by intro _; rfl) : PG X (.Subscript o (.Slice none hi none p2) pos) (gCutL to th) := by
  refine ⟨fun pins s σ H v u Q I r h => ?_⟩
  rw [ha]
  refine wpAny_bind (wpAny_holding (thn (ho.run pins s σ H _ I h) fun ov s1 ⟨x, H1, I1, r1, q1⟩ => ?_))
  refine wpAny_bind (wpAny_holding (wpAny_Slice (thn (po_none.run pins s1 σ H1 (fun o H2 => o = none ∧ H2 = H1) I1 ⟨rfl, rfl⟩) fun vl s2 ⟨lo, H2, I2, pl, el, e2⟩ => ?_)))
  subst el
  subst e2
  refine thn (hu.run pins s2 σ H2 _ I2 q1) fun vu s3 ⟨y, H3, I3, pu, q3⟩ => ?_
  rw [evalPart_none]
  refine wpAny_pure ?_
  obtain ⟨l, b, xs, ys, c, rfl, rfl, rfl, hH, hB, hne, hc, hz, q⟩ := q3
  have I4 : Inv X pins σ H3 { s3 with heap := s3.heap.push { cls := .type "slice", data := .fields #[vl, vu, .none] } } := I3.kept (t' := s3.toks) fun b ob q => Heap.get?_push_of_some _ q
  cases pl
  obtain rfl : ov = Value.ref l := r1
  obtain rfl : u = Value.ref b := r
  obtain ⟨z, its, n, rv, hl, e⟩ := I4.lstM hH
  obtain ⟨z2, its2, n2, rv2, hl2, e2⟩ := I4.lstM hB
  refine wpAny_bind (wpAny_standAt (wpAny_bind (wpAny_holding ?_)))
  refine setItem_lo (c := c) e e2 hne (Heap.IsSliceOf.new ..) pu (by rw [List.size_toArray]; omega) (by rw [List.size_toArray, List.size_toArray]; omega) (wpAny_release ⟨σ, _, I4.lset (its' := its2 ++ its.drop c) (t' := s3.toks) hH e (cut_eq its its2 c) (Vals.append rv2 (rv.drop _)) ?_, q⟩)
  rw [List.length_append, List.length_drop]
  omega
end
end My
set_option Elab.async false
set_option linter.all false
set_option maxRecDepth 100000
set_option maxHeartbeats 4000000
/-! S2: C(e, .., k = v, ..); C(e) with a default left out. -/
namespace My
open PySem PySem.Spec PyProof.Rows L2
/-- C(e, .., k = v, ..), __init__ keeping sp -/
def MakN (P : Program) (w : World) (K : PySem.W.Frag) (mg : Str → Option Value) (base : Heap) (k : Nat) (x : Str) (C : Addr) (n : Nat) (ks : List Str) (gV : List V → List V → List V) (sp : Sp) : Prop := ∃ f fd ps g, Mk K C f ∧ FnOk P w K mg base CX0 k f fd ps sp ∧ mg x = some (.ref C) ∧ KBn K fd ps (n + 1) ks g gV
theorem pe_mkN {X : Cx} {k j n : Nat} {C : Addr} {ks : List Str} {sp : Sp} {x : Str} {p pos : Pos} {e : Expr} {es : List Expr} {kws : List Keyword} {t tk : TA} {gV : List V → List V → List V} (c : MakN X.prog X.w X.K X.mg X.base k x C n ks gV sp) (hr : Room j X.A) (hk : k + 1 ≤ j) (hg : Gl X x)
    (ha : PA X (e :: es) t) (hkw : PK X kws tk) (hall : (backToKw pos (keywordEach kws X.env)).all (·.1.isSome) = true := by rfl) (hks : (backToKw pos (keywordEach kws X.env)).filterMap (·.1) = ks := by rfl)
    (hdb : (x == ("__debug__" : Str)) = false := by decide) (he : starEach (e :: es) X.env = (false, eval e X.env) :: starEach es X.env := by rfl)
    (hpl : ((backTo pos (starEach (e :: es) X.env)).any (·.1) || (backToKw pos (keywordEach kws X.env)).any (·.1.isNone)) = false := by rfl) :
    PE X (.Call (.Name x p) (e :: es) kws pos) (tMakeN C n ks.length sp gV E0 t tk) := by
  obtain ⟨f, fd, ps, g, M, F, hm, hb⟩ := c
  exact pe_makeN M F (hr.mono hk) hg hm hb pass0 ha hkw hall hks hdb he hpl
/-- values and keywords behind self, all of the def's arguments -/
theorem kbn_all {K : PySem.W.Frag} {fd : FuncData} {ps : List Str} {T : Addr} {o : Obj} {its : Array Value} {n m : Nat} {ks : List Str} (lT : K.lookup T = some o) (oT : o.data = .seq its n)
    (h : ∀ us ws : List Value, us.length = m → ws.length = ks.length → ∃ k : Option (Array Value) → Sem (List (Str × Value)), bindArgs fd ⟨us, ks.zip ws⟩ = seqItems? (.ref T) >>= k ∧ k (some its) = pure (ps.zip (us ++ ws))) : KBn K fd ps m ks (fun us ws => us ++ ws) (fun vs zs => vs ++ zs) := by
  refine ⟨fun s us ws X l1 l2 => ?_, fun r1 r2 => r1.append r2⟩
  obtain ⟨k, e1, e2⟩ := h us ws l1 l2
  refine BindsTo.of_looks fun M => ?_
  rw [e1]
  exact looks_items X lT oT (PySem.W.Looks.of_pure e2)
/-- the last argument left out -/
theorem bindsD_one {K : PySem.W.Frag} {fd : FuncData} {ps : List Str} {T : Addr} {o : Obj} {its : Array Value} {n m : Nat} {dv : Value} (lp : ps.length = m + 1) (lT : K.lookup T = some o) (oT : o.data = .seq its n)
    (h : ∀ us : List Value, us.length = m → ∃ k : Option (Array Value) → Sem (List (Str × Value)), bindArgs fd ⟨us, []⟩ = seqItems? (.ref T) >>= k ∧ k (some its) = pure (ps.zip (us ++ [dv]))) : Binds K fd ps [dv] := by
  intro s us X hl
  rw [List.length_append, List.length_singleton, lp] at hl
  obtain ⟨k, e1, e2⟩ := h us (by omega)
  refine BindsTo.of_looks fun M => ?_
  rw [e1]
  exact looks_items X lT oT (PySem.W.Looks.of_pure e2)
end My
set_option linter.all false
/-! S3: isinstance of an own class. -/
namespace My
open PySem PySem.Spec PyProof.Rows L2
theorem kit_sub {K : PySem.W.Frag} {C : Addr} {T : String} {b : Bool} (m : PySem.W.kitMeta T = true) (h : PySem.W.subIn K (.ref C) (.type T) = some b) : PySem.W.kitOne K (.ref C) (.type T) = some b := by
  have e : (Value.ref C == Value.type T) = false := rfl
  unfold PySem.W.kitOne
  rw [e, if_neg Bool.false_ne_true]
  show (if PySem.W.kitMeta T = true then PySem.W.subIn K (.ref C) (.type T) else none) = some b
  rw [if_pos m]
  exact h
theorem kit_self {K : PySem.W.Frag} {C : Addr} : PySem.W.kitOne K (.ref C) (.ref C) = some true := by
  have e : (Value.ref C == Value.ref C) = true := beq_self_eq_true _
  unfold PySem.W.kitOne
  rw [e, if_pos rfl]
end My
set_option Elab.async false
set_option linter.all false
set_option maxRecDepth 100000
set_option maxHeartbeats 4000000
/-! S4: list(zip(a, b)) of two lists, as a value. -/
namespace ZpL
open PySem PySem.Spec PyProof.Rows L2 PySem.Calls
section
variable {prog : Program} {w : World} {A : Around} {E : Value → Shared → Prop} {s : Shared}
structure ZpSt (h : Heap) (z TI TO i1 i2 l1 l2 S : Addr) (xs ys : Array Value) (i : Nat) : Prop where
  ti : IsPair h TI (.ref i1) (.ref i2)
  h1 : h.IsListIter i1 l1 i
  h2 : h.IsListIter i2 l2 i
  l1 : h.IsList l1 xs
  l2 : h.IsList l2 ys
  zz : (IsZip h z TI TO .none ∧ ∃ a b, IsPair h TO a b) ∨ ∃ T f oT, IsZipHeld h z TI TO T f ∧ h.get? T = some oT ∧ T ≠ z ∧ T ≠ i1 ∧ T ≠ i2 ∧ T ≠ S
structure OffS (z TI TO i1 i2 l1 l2 S : Addr) : Prop where
  z : z ≠ S
  TI : TI ≠ S
  TO : TO ≠ S
  i1 : i1 ≠ S
  i2 : i2 ≠ S
  l1 : l1 ≠ S
  l2 : l2 ≠ S
theorem ZpSt.keep {h h' : Heap} {z TI TO i1 i2 l1 l2 S : Addr} {xs ys : Array Value} {i : Nat} (x : ZpSt h z TI TO i1 i2 l1 l2 S xs ys i) (n : OffS z TI TO i1 i2 l1 l2 S) (hk : ∀ b o, b ≠ S → h.get? b = some o → h'.get? b = some o) : ZpSt h' z TI TO i1 i2 l1 l2 S xs ys i := by
  refine ⟨hk _ _ n.TI x.ti, x.h1.at fun o e => hk _ o n.i1 e, x.h2.at fun o e => hk _ o n.i2 e, x.l1.at fun o e => hk _ o n.l1 e, x.l2.at fun o e => hk _ o n.l2 e, ?_⟩
  rcases x.zz with ⟨hz, a, b, hTO⟩ | ⟨T, f, oT, hz, hT, r1, r2, r3, r4⟩
  · exact .inl ⟨hk _ _ n.z hz, a, b, hk _ _ n.TO hTO⟩
  · exact .inr ⟨T, f, oT, hk _ _ n.z hz, hk _ _ r4 hT, r1, r2, r3, r4⟩
theorem zp_item {z TI TO i1 i2 l1 l2 S : Addr} {xs ys : Array Value} {i : Nat} {Q : Option Value → Shared → Prop} (D : ZipApart z TI TO i1 i2 l1 l2) (st : ZpSt s.heap z TI TO i1 i2 l1 l2 S xs ys i) (hi : i < min xs.size ys.size) (hS : S < s.heap.objs.size)
    (hQ : ∀ x y h', xs[i]? = some x → ys[i]? = some y → ZpSt h' z TI TO i1 i2 l1 l2 S xs ys (i + 1) → h'.get? s.heap.objs.size = some { cls := .type "tuple", data := .seq #[x, y] } → h'.objs.size = s.heap.objs.size + 1 →
      (∀ c o, c ≠ z → c ≠ TO → c ≠ i1 → c ≠ i2 → s.heap.get? c = some o → h'.get? c = some o) → Q (some (.ref s.heap.objs.size)) { s with heap := h' }) :
    wpAny (model prog w) A (pyNext (.ref z)) Q E s := by
  obtain ⟨hTI, h1, h2, hl1, hl2, hz⟩ := st
  have hix : i < xs.size := Nat.lt_of_lt_of_le hi (Nat.min_le_left ..)
  have hiy : i < ys.size := Nat.lt_of_lt_of_le hi (Nat.min_le_right ..)
  have ex := Array.getElem?_eq_getElem hix
  have ey := Array.getElem?_eq_getElem hiy
  have lt : ∀ {c o}, s.heap.get? c = some o → s.heap.objs.size ≠ c := fun e => Nat.ne_of_gt (Heap.lt_size e)
  have n1 : s.heap.objs.size ≠ i1 := let ⟨_, e, _⟩ := h1; lt e
  have n2 : s.heap.objs.size ≠ i2 := let ⟨_, e, _⟩ := h2; lt e
  rcases hz with ⟨hz, a, b, hTO⟩ | ⟨T, f, oT, hz, hT, r1, r2, r3, r4⟩
  · refine wpAny_pyNext_zip_item D hz hTI hTO h1 h2 hl1 hl2 ex ey fun h' a1 a2 a3 a4 a5 a6 hk => ?_
    exact hQ _ _ h' ex ey ⟨hk _ _ D.TIz D.TITO D.TIi1 D.TIi2 hTI, a3, a4, hl1.at fun o e => hk _ o D.l1z D.l1TO D.l1i1 D.l1i2 e, hl2.at fun o e => hk _ o D.l2z D.l2TO D.l2i1 D.l2i2 e,
      .inr ⟨s.heap.objs.size, false, _, a1, a5, lt hz, n1, n2, Nat.ne_of_gt hS⟩⟩ a5 a6 hk
  · refine wpAny_pyNext_zip_item_held D hz hT hTI h1 h2 hl1 hl2 ex ey fun h' a1 a3 a4 a5 a6 hk => ?_
    exact hQ _ _ h' ex ey ⟨hk _ _ D.TIz D.TIi1 D.TIi2 hTI, a3, a4, hl1.at fun o e => hk _ o D.l1z D.l1i1 D.l1i2 e, hl2.at fun o e => hk _ o D.l2z D.l2i1 D.l2i2 e,
      .inr ⟨T, true, oT, a1, hk _ _ r1 r2 r3 hT, r1, r2, r3, r4⟩⟩ a5 a6 fun c o c1 _ c3 c4 e => hk c o c1 c3 c4 e
theorem zp_done {z TI TO i1 i2 l1 l2 S : Addr} {xs ys : Array Value} {Q : Option Value → Shared → Prop} (hh : A.handled = none) (D : ZipApart z TI TO i1 i2 l1 l2) (st : ZpSt s.heap z TI TO i1 i2 l1 l2 S xs ys (min xs.size ys.size))
    (hQ : ∀ h', (∀ c o, c ≠ z → c ≠ TO → c ≠ i1 → c ≠ i2 → s.heap.get? c = some o → h'.get? c = some o) → Q none { s with heap := h' }) : wpAny (model prog w) A (pyNext (.ref z)) Q E s := by
  obtain ⟨hTI, h1, h2, hl1, hl2, hz⟩ := st
  have hend : xs[min xs.size ys.size]? = none ∨ ys[min xs.size ys.size]? = none := by
    rcases Nat.le_total xs.size ys.size with h | h
    · exact .inl (Array.getElem?_eq_none (by rw [Nat.min_eq_left h]; exact Nat.le_refl _))
    · exact .inr (Array.getElem?_eq_none (by rw [Nat.min_eq_right h]; exact Nat.le_refl _))
  rcases hz with ⟨hz, a, b, hTO⟩ | ⟨T, f, oT, hz, hT, r1, r2, r3, r4⟩
  · exact wpAny_pyNext_zip_end hh D hz hTI hTO h1 h2 hl1 hl2 hend fun h' hk => hQ h' hk
  · exact wpAny_pyNext_zip_end_held hh D hz hT hTI h1 h2 hl1 hl2 hend fun h' hk => hQ h' fun c o c1 _ c3 c4 e => hk c o c1 c3 c4 e
/-- the pairs made so far stand at as -/
structure ZpG (xs ys : Array Value) (lo : Addr) (h : Heap) (as : List Addr) : Prop where
  rise : as.Pairwise (· < ·)
  above : ∀ a ∈ as, lo < a
  pairs : ∀ (j : Nat) (a : Addr), as[j]? = some a → ∃ x y, xs[j]? = some x ∧ ys[j]? = some y ∧ h.get? a = some { cls := .type "tuple", data := .seq #[x, y] }
theorem ZpG.there {xs ys : Array Value} {lo : Addr} {h : Heap} {as : List Addr} (g : ZpG xs ys lo h as) {a : Addr} (ha : a ∈ as) : a < h.objs.size := by
  obtain ⟨j, hj⟩ := List.mem_iff_getElem?.mp ha
  obtain ⟨_, _, _, _, e⟩ := g.pairs j a hj
  exact Heap.lt_size e
theorem ZpG.low {xs ys : Array Value} {lo lo' : Addr} {h : Heap} {as : List Addr} (g : ZpG xs ys lo h as) (hl : lo' ≤ lo) : ZpG xs ys lo' h as := ⟨g.rise, fun a ha => Nat.lt_of_le_of_lt hl (g.above a ha), g.pairs⟩
end
section
variable {prog : Program} {w : World} {A : Around} {s : Shared} {R : Result → Shared → Prop} {xs ys : Array Value} {z TI TO i1 i2 l1 l2 S : Addr}
theorem zp_loop (hh : A.handled = none) (D : ZipApart z TI TO i1 i2 l1 l2) (n : OffS z TI TO i1 i2 l1 l2 S) {lo : Addr} (hlz : z ≤ lo) (hlTO : TO ≤ lo) (hl1 : i1 ≤ lo) (hl2 : i2 ≤ lo) (hlS : S ≤ lo) (hn : min xs.size ys.size ≤ sizeLine) (res : Value) {h₁ : Heap}
    (hR : ∀ h' tk acc c as, (∀ b o, b ≠ S → b ≠ z → b ≠ TO → b ≠ i1 → b ≠ i2 → h₁.get? b = some o → h'.get? b = some o) → h'.get? S = some { cls := .type "list", dict := none, data := .seq acc c, slots := #[] } → as.length = min xs.size ys.size → ZpG xs ys lo h' as →
      acc.toList = as.map Value.ref → R (.ok (.ret res)) { s with heap := h', toks := tk }) :
    ∀ (k i : Nat) (h : Heap) (tk c : Nat) (acc : Array Value) (as : List Addr), min xs.size ys.size - i = k → i ≤ min xs.size ys.size → ZpSt h z TI TO i1 i2 l1 l2 S xs ys i → (∀ b o, b ≠ S → b ≠ z → b ≠ TO → b ≠ i1 → b ≠ i2 → h₁.get? b = some o → h.get? b = some o) →
      h.get? S = some { cls := .type "list", dict := none, data := .seq acc c, slots := #[] } → acc.toList = as.map Value.ref → as.length = i → ZpG xs ys lo h as → lo < h.objs.size →
      codeAny (model prog w) A (.builtin "list.extend.loop" ⟨[.ref S, .ref z, res], []⟩) R { s with heap := h, toks := tk } := by
  intro k
  induction k with
  | zero =>
    intro i h tk c acc as hk hi hst hkeep hS hacc hal hG hlo
    have hin : i = min xs.size ys.size := by omega
    subst hin
    refine codeAny_builtin PySem.F.entry_extend_loop ?_
    rw [Around.under_plainId PySem.F.plain_extend_loop _]
    show wpAny _ A.in1 (pyNext (.ref z) >>= _) _ _ _
    refine wpAny_bind (zp_done (s := { s with heap := h, toks := tk }) (A := A.in1) hh D hst fun h' he => ?_)
    refine wpAny_pure (hR h' tk acc c as (fun b o b0 b1 b2 b3 b4 e => he b o b1 b2 b3 b4 (hkeep b o b0 b1 b2 b3 b4 e)) (he S _ n.z.symm n.TO.symm n.i1.symm n.i2.symm hS) hal ⟨hG.rise, hG.above, fun j a hj => ?_⟩ hacc)
    obtain ⟨x, y, e1, e2, e3⟩ := hG.pairs j a hj
    have ha := hG.above a (List.mem_of_getElem? hj)
    exact ⟨x, y, e1, e2, he a _ (Nat.ne_of_gt (Nat.lt_of_le_of_lt hlz ha)) (Nat.ne_of_gt (Nat.lt_of_le_of_lt hlTO ha)) (Nat.ne_of_gt (Nat.lt_of_le_of_lt hl1 ha)) (Nat.ne_of_gt (Nat.lt_of_le_of_lt hl2 ha)) e3⟩
  | succ k ih =>
    intro i h tk c acc as hk hi hst hkeep hS hacc hal hG hlo
    have hlt : i < min xs.size ys.size := by omega
    have hsz : acc.size = i := by rw [← Array.length_toList, hacc, List.length_map, hal]
    have hSl : S < h.objs.size := Heap.lt_size hS
    refine codeAny_builtin PySem.F.entry_extend_loop ?_
    rw [Around.under_plainId PySem.F.plain_extend_loop _]
    show wpAny _ A.in1 (pyNext (.ref z) >>= _) _ _ _
    refine wpAny_bind (zp_item (s := { s with heap := h, toks := tk }) (S := S) D hst hlt hSl fun x y h' ex ey hst' ht hz hkp => ?_)
    dsimp only at ht hz hkp ⊢
    have hS' := hkp S _ n.z.symm n.TO.symm n.i1.symm n.i2.symm hS
    have up : ∀ b o, b ≠ S → h'.get? b = some o → (h'.update S (Obj.mapSeq (·.push (Value.ref h.objs.size)))).get? b = some o := fun b o hb e => (Heap.get?_update_other _ _ (Ne.symm hb)).trans e
    show wpAny _ A.in1 (updateSeq S (·.push (Value.ref h.objs.size)) >>= _) _ _ _
    refine wpAny_bind ?_
    refine wpAny_updateSeq hS' rfl (wpAny_pure ⟨plainId_quiet PySem.F.plain_extend_loop _, ih (i + 1) _ tk _ (acc.push (Value.ref h.objs.size)) (as ++ [h.objs.size]) (by omega) hlt (hst'.keep n up)
      (fun b o b0 b1 b2 b3 b4 e => up b o b0 (hkp b o b1 b2 b3 b4 (hkeep b o b0 b1 b2 b3 b4 e))) (Heap.get?_update_self _ hS' rfl) (by rw [Array.toList_push, hacc, List.map_append]; rfl) (by rw [List.length_append, hal]; rfl) ⟨?_, ?_, ?_⟩ ?_⟩) (by rw [hsz]; omega) (by show (acc.push (Value.ref h.objs.size)).size ≤ sizeLine + 1; rw [Array.size_push, hsz]; omega)
    · refine List.pairwise_append.mpr ⟨hG.rise, List.pairwise_singleton _ _, fun a ha b hb => ?_⟩
      rw [List.mem_singleton.mp hb]
      exact hG.there ha
    · intro a ha
      rcases List.mem_append.mp ha with ha | ha
      · exact hG.above a ha
      · rw [List.mem_singleton.mp ha]; exact hlo
    · intro j b hj
      rcases Nat.lt_trichotomy j as.length with h1 | h1 | h1
      · rw [List.getElem?_append_left h1] at hj
        obtain ⟨x', y', e1, e2, e3⟩ := hG.pairs j b hj
        have hb := hG.above b (List.mem_of_getElem? hj)
        exact ⟨x', y', e1, e2, up b _ (Nat.ne_of_gt (Nat.lt_of_le_of_lt hlS hb)) (hkp b _ (Nat.ne_of_gt (Nat.lt_of_le_of_lt hlz hb)) (Nat.ne_of_gt (Nat.lt_of_le_of_lt hlTO hb)) (Nat.ne_of_gt (Nat.lt_of_le_of_lt hl1 hb)) (Nat.ne_of_gt (Nat.lt_of_le_of_lt hl2 hb)) e3)⟩
      · subst h1
        have hb : h.objs.size = b := by simpa using hj
        subst hb
        exact ⟨x, y, by rw [hal]; exact ex, by rw [hal]; exact ey, up _ _ (Nat.ne_of_gt hSl) ht⟩
      · have hnone : (as ++ [h.objs.size])[j]? = none := List.getElem?_eq_none (by rw [List.length_append, List.length_singleton]; omega)
        rw [hnone] at hj; cases hj
    · have e : (h'.update S (Obj.mapSeq (·.push (Value.ref h.objs.size)))).get? h.objs.size = _ := up _ _ (Nat.ne_of_gt hSl) ht
      exact Nat.lt_trans hlo (Heap.lt_size e)
end
theorem zip_no_len : typeLookup (.type "zip") "__len__" = pure none := by rw [typeLookup_type, builtinLookup_eq_fast]; kernel_rfl
theorem zip_no_hint : typeLookup (.type "zip") "__length_hint__" = pure none := by rw [typeLookup_type, builtinLookup_eq_fast]; kernel_rfl
section
variable {prog : Program} {w : World} {A : Around} {E : Value → Shared → Prop} {s : Shared} {xs ys : Array Value} {z TI TO i1 i2 l1 l2 S : Addr}
theorem zp_extend {R : Result → Shared → Prop} (hh : A.handled = none) (D : ZipApart z TI TO i1 i2 l1 l2) (st : ZpSt s.heap z TI TO i1 i2 l1 l2 S xs ys 0) (n : OffS z TI TO i1 i2 l1 l2 S) {lo : Addr} (hlz : z ≤ lo) (hlTO : TO ≤ lo) (hl1 : i1 ≤ lo) (hl2 : i2 ≤ lo) (hlS : S ≤ lo) (hlo : lo < s.heap.objs.size)
    (res : Value) (c₀ : Nat) (hS : s.heap.get? S = some { cls := .type "list", data := .seq #[] c₀ }) (hn : min xs.size ys.size ≤ sizeLine)
    (hR : ∀ h' tk acc c as, (∀ b o, b ≠ S → b ≠ z → b ≠ TO → b ≠ i1 → b ≠ i2 → s.heap.get? b = some o → h'.get? b = some o) → h'.get? S = some { cls := .type "list", dict := none, data := .seq acc c, slots := #[] } → as.length = min xs.size ys.size → ZpG xs ys lo h' as →
      acc.toList = as.map Value.ref → R (.ok (.ret res)) { s with heap := h', toks := tk }) :
    wpAny (model prog w) A.in1 (Builtin.List.listExtendWith (.ref S) (.ref z) res)
      (fun fin s' => match fin with | .done f => R (.ok f) s' | .again c' => c'.quiet = true ∧ codeAny (model prog w) A c' R s') (fun e s' => R (.error e) s') s := by
  obtain ⟨f0, hzz⟩ : ∃ f0, ∃ f1, s.heap.get? z = some { cls := .type "zip", dict := none, data := .fields #[f0, .bool f1, .bool false, .ref TI, .ref TO], slots := #[] } := by
    rcases st.zz with ⟨hz, _⟩ | ⟨T, f, oT, hz, _⟩
    · exact ⟨_, _, hz⟩
    · exact ⟨_, _, hz⟩
  obtain ⟨f1, hzz⟩ := hzz
  have hT : s.TypeIs (.ref z) "zip" := ⟨_, hzz, rfl⟩
  unfold Builtin.List.listExtendWith
  refine wpAny_bind (wpAny_typeOf hT ?_)
  have h1 : Builtin.List.listSameRef (.ref S) (.ref z) = false := by simp [Builtin.List.listSameRef, n.z.symm]
  have h2 : (Value.type "zip" == Value.type "list") = false := by decide
  have h3 : (Value.type "zip" == Value.type "tuple") = false := by decide
  simp only [h1, h2, h3, Bool.or_false, Bool.false_eq_true, if_false]
  have it : ∀ {Q : Value → Shared → Prop} {E : Value → Shared → Prop}, Q (.ref z) s → wpAny (model prog w) A.in1 (pyIter (.ref z)) Q E s := fun h => by
    refine wpAny_pyIter_slot hT F.slot_zip_iter (wpAny_call_entry F.slot_zip_iter hT F.entry_zip_iter ?_ (F.args_zip_iter_1 _))
    show wpAny _ _ (ret (.ref z)) _ _ s
    exact wpAny_pure ⟨_, rfl, "zip", _, hT, F.slot_zip_next.lookup, h⟩
  refine wpAny_bind (it ?_)
  refine wpAny_bind (wpAny_holding ?_)
  unfold Builtin.List.listLengthHint
  refine wpAny_bind (wpAny_specialOf hT zip_no_len ?_)
  show wpAny _ A.in1 (specialOf (Value.ref z) (Str.ofString "__length_hint__") >>= _) _ _ _
  refine wpAny_bind (wpAny_specialOf hT zip_no_hint ?_)
  refine wpAny_pure ?_
  show wpAny _ A.in1 (rule "list.extend.makes-room" >>= fun _ => Builtin.List.listTouch (.ref S) >>= fun _ =>
    again (.builtin "list.extend.loop" ⟨[.ref S, .ref z, res], []⟩)) _ _ _
  refine wpAny_bind (wpAny_rule ?_)
  refine wpAny_bind ?_
  show wpAny _ A.in1 (updateSeq S (·.push .none) >>= fun _ => updateSeq S (·.pop)) _ _ _
  refine wpAny_bind (wpAny_updateSeq hS rfl ?_)
  have hS₂ := Heap.get?_update_self (Obj.mapSeq (·.push Value.none)) hS rfl
  refine wpAny_updateSeq (hz := by seq_fits) hS₂ rfl ?_
  have hS₃ := Heap.get?_update_self (Obj.mapSeq (·.pop)) hS₂ rfl
  have oth : ∀ b o, b ≠ S → s.heap.get? b = some o → ((s.heap.update S (Obj.mapSeq (·.push Value.none))).update S (Obj.mapSeq (·.pop))).get? b = some o :=
    fun b o hb e => (Heap.get?_update_other _ _ (Ne.symm hb)).trans ((Heap.get?_update_other _ _ (Ne.symm hb)).trans e)
  refine wpAny_pure ⟨plainId_quiet F.plain_extend_loop _, ?_⟩
  exact zp_loop (s := s) (lo := lo) (h₁ := s.heap) hh D n hlz hlTO hl1 hl2 hlS hn res hR (min xs.size ys.size) 0 _ s.toks _ #[] [] (Nat.sub_zero _) (Nat.zero_le _) (st.keep n oth) (fun b o b0 _ _ _ _ e => oth b o b0 e) hS₃ rfl rfl
    ⟨List.Pairwise.nil, (fun _ ha => nomatch ha), (fun j a hj => by simp at hj)⟩ (by simpa using hlo)
theorem zp_call {Q : Value → Shared → Prop} (hh : A.handled = none) (D : ZipApart z TI TO i1 i2 l1 l2) (st : ∀ S, s.heap.objs.size ≤ S → ZpSt s.heap z TI TO i1 i2 l1 l2 S xs ys 0) (lt : z < s.heap.objs.size ∧ TI < s.heap.objs.size ∧ TO < s.heap.objs.size ∧ i1 < s.heap.objs.size ∧ i2 < s.heap.objs.size ∧ l1 < s.heap.objs.size ∧ l2 < s.heap.objs.size) (hn : min xs.size ys.size ≤ sizeLine)
    (hQ : ∀ h' tk acc c as, (∀ b o, b ≠ z → b ≠ TO → b ≠ i1 → b ≠ i2 → s.heap.get? b = some o → h'.get? b = some o) → h'.get? s.heap.objs.size = some { cls := .type "list", dict := none, data := .seq acc c, slots := #[] } → as.length = min xs.size ys.size → ZpG xs ys s.heap.objs.size h' as →
      acc.toList = as.map Value.ref → Q (.ref s.heap.objs.size) { s with heap := h', toks := tk }) :
    wpAny (model prog w) A (call (.type "list") [.ref z]) Q E s := by
  refine callType_codes (Q₁ := fun obj s₁ => obj = .ref s.heap.objs.size ∧ s₁ = { s with heap := s.heap.push { cls := .type "list", data := .seq #[] } }) PySem.F.called_list (PySem.F.typeCall_list_1 _) PySem.F.entry_list_init
    (code_list_new _ ⟨rfl, rfl⟩) fun obj s₁ h₁ => ?_
  obtain ⟨rfl, rfl⟩ := h₁
  have hS : (s.heap.push { cls := .type "list", data := .seq #[] }).get? s.heap.objs.size = some { cls := .type "list", data := .seq #[] } := Heap.get?_push_size _ rfl
  obtain ⟨l0, l1', l2', l3, l4, l5, l6⟩ := lt
  have n : OffS z TI TO i1 i2 l1 l2 s.heap.objs.size := ⟨Nat.ne_of_lt l0, Nat.ne_of_lt l1', Nat.ne_of_lt l2', Nat.ne_of_lt l3, Nat.ne_of_lt l4, Nat.ne_of_lt l5, Nat.ne_of_lt l6⟩
  refine ⟨⟨_, hS, rfl⟩, PySem.F.args_list_init_2 _ _, ?_⟩
  show wpAny _ _ (do let old ← Builtin.List.listItems (.ref s.heap.objs.size); Builtin.List.listUpdate (.ref s.heap.objs.size) (fun _ => #[]); letGo old.toList.reverse; Builtin.List.listExtendWith (.ref s.heap.objs.size) (.ref z) .none) _ _ _
  refine wpAny_bind ?_
  unfold Builtin.List.listItems
  refine wpAny_bind (wpAny_seqItems hS rfl (wpAny_pure ?_))
  show wpAny _ _ (updateSeq s.heap.objs.size (fun _ => #[]) >>= fun _ => letGo (#[] : Array Value).toList.reverse >>= fun _ => Builtin.List.listExtendWith (.ref s.heap.objs.size) (.ref z) .none) _ _ _
  refine wpAny_bind (wpAny_updateSeq hS rfl ?_)
  have hS₂ := Heap.get?_update_self (Obj.mapSeq (fun _ => (#[] : Array Value))) hS rfl
  have oth : ∀ b o, b ≠ s.heap.objs.size → s.heap.get? b = some o → ((s.heap.push { cls := .type "list", data := .seq #[] }).update s.heap.objs.size (Obj.mapSeq (fun _ => (#[] : Array Value)))).get? b = some o :=
    fun b o hb e => (Heap.get?_update_other _ _ (Ne.symm hb)).trans (Heap.get?_push_of_some _ e)
  refine wpAny_bind (wpAny_letGo ?_)
  refine zp_extend (A := A.in1) (lo := s.heap.objs.size) hh D ((st _ (Nat.le_refl _)).keep n oth) n (Nat.le_of_lt l0) (Nat.le_of_lt l2') (Nat.le_of_lt l3) (Nat.le_of_lt l4) (Nat.le_refl _) (Heap.lt_size hS₂) .none _ hS₂ hn (fun h' tk acc c as hk hS' hl hG hacc => ?_)
  exact ⟨rfl, hQ h' tk acc c as (fun b o b1 b2 b3 b4 e => hk b o (Nat.ne_of_lt (Heap.lt_size e)) b1 b2 b3 b4 (oth b o (Nat.ne_of_lt (Heap.lt_size e)) e)) hS' hl hG hacc⟩
end
/-- objects tracked at their addresses -/
def putO : Hp → List Addr → List HO → Hp
  | H, a :: as, o :: os => putO (upd H a o) as os
  | H, _, _ => H
theorem putO_off {b : Addr} : ∀ (as : List Addr) (os : List HO) (H : Hp), b ∉ as → putO H as os b = H b
  | [], _, _, _ => rfl
  | _ :: _, [], _, _ => rfl
  | a :: as, p :: os, H, h => by
    show putO (upd H a p) as os b = H b
    rw [putO_off as os _ (fun z => h (List.mem_cons_of_mem _ z)), upd_ne (fun z => h (by rw [z]; exact List.mem_cons_self))]
theorem putO_at : ∀ (as : List Addr) (os : List HO) (H : Hp), as.length = os.length → as.Nodup → ∀ (j : Nat) (a : Addr), as[j]? = some a → putO H as os a = os[j]?
  | [], _, _, _, _, j, a, h => by simp at h
  | _ :: _, [], _, h, _, _, _, _ => by cases h
  | b :: as, p :: os, H, h, hn, j, a, e => by
    have hn' := List.nodup_cons.mp hn
    show putO (upd H b p) as os a = _
    cases j with
    | zero =>
      have eb : b = a := by simpa using e
      subst eb
      rw [putO_off as os _ hn'.1, upd_same]
      rfl
    | succ j => exact putO_at as os _ (Nat.succ.inj h) hn'.2 j a (by simpa using e)
/-- the value of list(zip(a, b)): ts are the addresses of its pairs -/
def rZipL (K : PySem.W.Frag) : List V → Hp → VK → Prop := fun vs H Q => ∃ (a b : Addr) (xs ys : List V), vs = [.ref a, .ref b] ∧ SqL K H a xs ∧ SqL K H b ys ∧
  ∀ (H' : Hp) (p : Addr) (ts : List Addr), Same H H' → H p = none → (∀ t ∈ ts, H t = none) → p ∉ ts → H' p = some (.lst (ts.map V.ref)) → ts.length = min xs.length ys.length →
    (∀ (j : Nat) (t : Addr), ts[j]? = some t → ∃ x y, xs[j]? = some x ∧ ys[j]? = some y ∧ H' t = some (.tup [x, y])) → Q (.ref p) H'
def tZipL (K : PySem.W.Frag) (ta : TA) : TE := fun σ H Q => ta σ H fun vs H1 => rZipL K vs H1 Q
section
variable {X : Cx}
theorem pe_zipL {e e2 : Expr} {ta : TA} {p p2 zpos pos : Pos} (hc : X.calm = true) (hg : Gl X "zip") (hm : X.mg "zip" = none) (hgl : Gl X "list") (hml : X.mg "list" = none) (hv : bootBuiltins "list" = some (.type "list")) (ha : PA X [e, e2] ta)
    (hs : starEach [e, e2] X.env = (false, eval e X.env) :: starEach [e2] X.env := by rfl) (hpl : (backTo zpos (starEach [e2] X.env)).any (·.1) = false := by rfl)
    (hs2 : starEach [.Call (.Name "zip" p2) [e, e2] [] zpos] X.env = (false, eval (.Call (.Name "zip" p2) [e, e2] [] zpos) X.env) :: starEach [] X.env := by rfl) :
    PE X (.Call (.Name "list" p) [.Call (.Name "zip" p2) [e, e2] [] zpos] [] pos) (tZipL X.K ta) := by
  refine ⟨fun pins s σ H Q I h => ?_⟩
  refine wpAny_Call_Name_kw (ld_blt I hgl hml hv ?_)
  refine PyProof.Rows.callWith_type1 ?_ hs2 rfl
  rw [hs2]
  show wpAny _ _ (spliced ((false, eval (.Call (.Name "zip" p2) [e, e2] [] zpos) X.env) :: backTo pos (starEach [] X.env))) _ _ s
  refine Calls.spliced_cons ?_
  refine Call_ (ld_blt I hg hm PyProof.Rows.boot_zip (PyProof.Rows.callWith_type1 (thn (ha.run zpos pins s σ H _ I h) fun us s1 ⟨vs, H1, I1, r1, q1⟩ => ?_) hs hpl))
  obtain ⟨a, b, xs, ys, ex, hqx, hqy, q⟩ := q1
  subst ex
  cases r1 with
  | cons r rr =>
    cases rr with
    | cons r' rr =>
      cases rr
      cases r
      cases r'
      obtain ⟨its, rv, p1, z1⟩ := I1.list hqx
      obtain ⟨its2, rv2, p2, z2⟩ := I1.list hqy
      have la : a < s1.heap.objs.size := p1.lt
      have lb : b < s1.heap.objs.size := p2.lt
      have len1 := rv.length
      have len2 := rv2.length
      refine call_zip_2 p1.isList p2.isList fun h' hz hTI hTO h1 h2 hsz hk => ?_
      refine Calls.spliced_nil ?_
      have lt5 : ∀ k, k < 5 → s1.heap.objs.size + k < h'.objs.size := fun k hk5 => by rw [hsz]; omega
      refine zp_call (xs := its.toArray) (ys := its2.toArray) (s := { s1 with heap := h' }) (I1.ok.hd hc) (PySem.W.ktu_apart s1.heap.objs.size a b la lb) (fun S _ => ⟨hTI, h1, h2, p1.isList.at fun o e => hk _ o e, p2.isList.at fun o e => hk _ o e, .inl ⟨hz, _, _, hTO⟩⟩)
        ⟨lt5 4 (by decide), lt5 2 (by decide), lt5 3 (by decide), lt5 0 (by decide), lt5 1 (by decide), Nat.lt_trans la (lt5 0 (by decide)), Nat.lt_trans lb (lt5 0 (by decide))⟩ (by simp; omega) fun h'' tk acc c as hk2 hS hl hG hacc => ?_
      dsimp only at hk2 hS hG ⊢
      have low : ∀ bb, bb < s1.heap.objs.size → bb ≠ s1.heap.objs.size + 4 ∧ bb ≠ s1.heap.objs.size + 3 ∧ bb ≠ s1.heap.objs.size ∧ bb ≠ s1.heap.objs.size + 1 := fun bb hb => ⟨by omega, by omega, by omega, by omega⟩
      have hkk : ∀ bb o, s1.heap.get? bb = some o → h''.get? bb = some o := fun bb o e => let ⟨m1, m2, m3, m4⟩ := low bb (Heap.lt_size e); hk2 bb o m1 m2 m3 m4 (hk bb o e)
      have hge : s1.heap.objs.size ≤ h'.objs.size := by rw [hsz]; omega
      have hSn : h'.objs.size ∉ as := fun z => Nat.lt_irrefl _ (hG.above _ z)
      have nd : as.Nodup := List.Pairwise.imp (fun {a b} (h : a < b) => Nat.ne_of_lt h) hG.rise
      have new : ∀ t ∈ as, H1 t = none := fun t ht => I1.hok.fresh (Nat.le_trans hge (Nat.le_of_lt (hG.above t ht)))
      have newS : H1 h'.objs.size = none := I1.hok.fresh hge
      obtain ⟨os, los, hos⟩ : ∃ os : List HO, as.length = os.length ∧ ∀ (j : Nat) (o : HO), os[j]? = some o → ∃ x y, xs[j]? = some x ∧ ys[j]? = some y ∧ o = .tup [x, y] := by
        refine ⟨(xs.zip ys).map fun q => .tup [q.1, q.2], by rw [List.length_map, List.length_zip, hl]; simp; omega, fun j o ho => ?_⟩
        rw [List.getElem?_map] at ho
        cases hq : (xs.zip ys)[j]? with
        | none => rw [hq] at ho; cases ho
        | some q =>
          rw [hq] at ho
          cases ho
          rw [List.getElem?_zip_eq_some] at hq
          exact ⟨_, _, hq.1, hq.2, rfl⟩
      have atP := putO_at as os (upd H1 h'.objs.size (.lst (as.map V.ref))) los nd
      have off : ∀ bb, bb ∉ as → bb ≠ h'.objs.size → putO (upd H1 h'.objs.size (.lst (as.map V.ref))) as os bb = H1 bb := fun bb h1 h2 => by rw [putO_off as os _ h1, upd_ne h2]
      have eS : putO (upd H1 h'.objs.size (.lst (as.map V.ref))) as os h'.objs.size = some (.lst (as.map V.ref)) := by rw [putO_off as os _ hSn, upd_same]
      have kp : Same H1 (putO (upd H1 h'.objs.size (.lst (as.map V.ref))) as os) := fun bb u e => by
        rw [off bb (fun z => by rw [new bb z] at e; cases e) (fun z => by rw [z, newS] at e; cases e)]
        exact e
      have lowA : ∀ bb o, s1.heap.get? bb = some o → bb ∉ as ∧ bb ≠ h'.objs.size := fun bb o e => ⟨fun z => absurd (Nat.lt_of_lt_of_le (Heap.lt_size e) hge) (Nat.not_lt.mpr (Nat.le_of_lt (hG.above bb z))), Nat.ne_of_lt (Nat.lt_of_lt_of_le (Heap.lt_size e) hge)⟩
      refine ⟨.ref h'.objs.size, putO (upd H1 h'.objs.size (.lst (as.map V.ref))) as os, ?_, rfl, q _ _ as kp newS new hSn eS (by rw [hl]; simp; omega) fun j t ht => ?_⟩
      · refine I1.call' (ch := []) rfl ⟨fun bb o q _ _ _ => hkk bb o q, fun bb o q _ _ _ => ⟨o.slots, hkk bb o q⟩, fun bb o q n _ => ?_, fun bb o q _ => ⟨o, hkk bb o q⟩, fun bb ws q => kp bb _ q, fun bb o u q => kp bb _ q, fun bb ps q => ⟨#[], by rw [kp bb _ q]; simp⟩⟩ (fun bb u q => ?_) I1.bare fun bb z => by simp at z
        · obtain ⟨m1, m2⟩ := lowA bb o q
          rw [off bb m1 m2]
          exact n
        · by_cases hb : bb ∈ as
          · obtain ⟨j, hj⟩ := List.mem_iff_getElem?.mp hb
            have ea := atP j bb hj
            rw [q] at ea
            obtain ⟨x, y, e1, e2, rfl⟩ := hos j u ea.symm
            obtain ⟨u1, u2, f1, f2, f3⟩ := hG.pairs j bb hj
            obtain ⟨v1, g1, r1⟩ := rv.get e1
            obtain ⟨v2, g2, r2⟩ := rv2.get e2
            have c1 : u1 = v1 := by
              rw [List.getElem?_toArray, g1] at f1
              exact (Option.some.inj f1).symm
            have c2 : u2 = v2 := by
              rw [List.getElem?_toArray, g2] at f2
              exact (Option.some.inj f2).symm
            subst c1 c2
            exact ⟨by show 2 ≤ sizeLine; decide, [u1, u2], .cons r1 (.cons r2 .nil), ⟨_, f3, rfl, _, rfl⟩⟩
          · by_cases hb2 : bb = h'.objs.size
            · rw [hb2] at q ⊢
              rw [eS] at q
              cases q
              refine ⟨by rw [List.length_map, hl]; simp; omega, acc.toList, c, by rw [hacc]; exact LiI.vals_refs as, ?_⟩
              rw [Array.toArray_toList]
              exact hS
            · rw [off bb hb hb2] at q
              exact (I1.hok bb u q).stay (fun d v _ y => hkk d v y) (fun d y => kp d _ y) fun d xs y => kp d _ y
      · have ej := atP j t ht
        obtain ⟨o, ho⟩ : ∃ o, os[j]? = some o := ⟨_, List.getElem?_eq_getElem (i := j) (by rw [← los]; exact (List.getElem?_eq_some_iff.mp ht).1)⟩
        obtain ⟨x, y, e1, e2, rfl⟩ := hos j o ho
        exact ⟨x, y, e1, e2, by rw [ej, ho]⟩
end
end ZpL
set_option Elab.async false
set_option linter.all false
set_option maxRecDepth 100000
set_option maxHeartbeats 4000000
/-! S5: xs[a:c] = ys as a target; o.m( *e) of a method of which only its promise is known. -/
namespace My
open PySem PySem.Spec PyProof.Rows L2
section
variable {X : Cx}
/-- o[lo:hi] = a list -/
def gCutB (to : TE) (tl th : TO) : TG := fun v σ H Q => to σ H fun x H1 => tl σ H1 fun lo H2 => th σ H2 fun hi H3 => ∃ (l b : Addr) (xs ys : List V) (a c : Nat), x = .ref l ∧ v = .ref b ∧ lo = some ((a : Nat) : Int) ∧ hi = some ((c : Nat) : Int) ∧ H3 l = some (.lst xs) ∧ H3 b = some (.lst ys) ∧ l ≠ b ∧ a ≤ c ∧ c ≤ xs.length ∧ xs.length + ys.length ≤ sizeLine ∧ Q σ (upd H3 l (.lst (xs.take a ++ ys ++ xs.drop c)))
theorem pg_cutB {o : Expr} {to : TE} {lo hi : Option Expr} {tl th : TO} {p2 pos : Pos} (ho : PE X o to) (hl : PO X lo tl) (hu : PO X hi th)
    (ha : ∀ v, assign (.Subscript o (.Slice lo hi none p2) pos) X.env v = (do
      let ov ← holding [v] (eval o X.env)
      let iv ← holding [v, ov] (eval (.Slice lo hi none p2) X.env)
      standAt pos
      holding [v, ov, iv] (setItem ov iv v)
      release [iv, v, ov] []) := by intro _; rfl) : PG X (.Subscript o (.Slice lo hi none p2) pos) (gCutB to tl th) := by
  refine ⟨fun pins s σ H v u Q I r h => ?_⟩
  rw [ha]
  refine wpAny_bind (wpAny_holding (thn (ho.run pins s σ H _ I h) fun ov s1 ⟨x, H1, I1, r1, q1⟩ => ?_))
  refine wpAny_bind (wpAny_holding (wpAny_Slice (thn (hl.run pins s1 σ H1 _ I1 q1) fun vl s2 ⟨lo', H2, I2, pl, q2⟩ => ?_)))
  refine thn (hu.run pins s2 σ H2 _ I2 q2) fun vu s3 ⟨y, H3, I3, pu, q3⟩ => ?_
  rw [evalPart_none]
  refine wpAny_pure ?_
  obtain ⟨l, b, xs, ys, a, c, rfl, rfl, rfl, rfl, hH, hB, hne, hac, hc, hz, q⟩ := q3
  have I4 : Inv X pins σ H3 { s3 with heap := s3.heap.push { cls := .type "slice", data := .fields #[vl, vu, .none] } } := I3.kept (t' := s3.toks) fun b ob q => Heap.get?_push_of_some _ q
  obtain rfl : ov = Value.ref l := r1
  obtain rfl : u = Value.ref b := r
  obtain ⟨z, its, n, rv, hl, e⟩ := I4.lstM hH
  obtain ⟨z2, its2, n2, rv2, hl2, e2⟩ := I4.lstM hB
  refine wpAny_bind (wpAny_standAt (wpAny_bind (wpAny_holding ?_)))
  refine setItem_slice (a := a) (c := c) e e2 hne (Heap.IsSliceOf.new ..) pl pu hac (by rw [List.size_toArray]; omega) (by rw [List.size_toArray, List.size_toArray]; omega) (wpAny_release ⟨σ, _, I4.lset (its' := its.take a ++ its2 ++ its.drop c) (t' := s3.toks) hH e (splice_eq its its2 a c) (Vals.append (Vals.append (rv.take _) rv2) (rv.drop _)) ?_, q⟩)
  rw [List.length_append, List.length_append, List.length_take, List.length_drop]
  omega
end
/-- a method that may be called with a star -/
def MetB (P : Program) (w : World) (K : PySem.W.Frag) (mg : Str → Option Value) (base : Heap) (k : Nat) (C : Addr) (m : Str) (sp : Sp) : Prop := ∃ g, Cls K C ∧ BMeth K C m g ∧ FnR P w K mg base CX0 k g sp
def tMethSE (K : PySem.W.Frag) (C : Addr) (m : Str) (sp : Sp) (ta te : TE) : TE := fun σ H Q => ta σ H fun x H1 => ∃ a dx fs, x = .ref a ∧ H1 a = some (.ins C dx fs) ∧ fs.lookup m = none ∧
  ∀ g q, H1 q = none → te σ (upd H1 q (.met g a)) fun y H2 => ∃ b vs, y = .ref b ∧ SqT K H2 b vs ∧ H2 q = some (.met g a) ∧ sp (.ref a :: vs) H2 Q E0
theorem pe_methSE {X : Cx} {k j : Nat} {C : Addr} {m : Str} {sp : Sp} {o e : Expr} {ta te : TE} {p apos pos : Pos} (c : MetB X.prog X.w X.K X.mg X.base k C m sp) (hr : Room j X.A) (hk : k ≤ j) (he : PE X o ta) (ha : PE X e te) (hbase : attributeBase o m X.env (eval o X.env) = eval o X.env := by rfl) :
    PE X (.Call (.Attribute o m apos) [.Starred e p] [] pos) (tMethSE X.K C m sp ta te) := by
  obtain ⟨g, hc, b, F⟩ := c
  refine ⟨fun pins s σ H Q I h => ?_⟩
  refine starcall_of hbase (thn (he.run pins s σ H _ I h) fun u s1 ⟨x, H1, I1, rx, a, dx, fs, ex, ea, l, q⟩ => ?_)
  subst ex
  obtain rfl : u = Value.ref a := rx
  refine getbound_ok I1 ea hc b l fun q1 s2 hq1 I2 => ?_
  refine PySem.W.ks_call (P := PySem.W.MethP X.K q1 g (.ref a)) rfl (PySem.W.keeps_M b.fi) (PySem.W.ks_lone ?_)
  refine thn (ha.run pins s2 σ _ _ I2 (q g q1 hq1)) fun v s3 ⟨y, H2, I3, ry, t, vs, ey, ht, hm, hsp⟩ => ?_
  subst ey
  obtain rfl : v = Value.ref t := ry
  refine star_tup I3 ht fun us s4 I4 rv => ⟨met_P I4 hm, ?_⟩
  exact wpAny_call (PySem.W.method_call (met_P I4 hm).1 (run_fnR (us := Value.ref a :: us) (vs := V.ref a :: vs) F (hr.mono hk) pass0 I4 (.cons rfl rv) hsp))
end My
set_option Elab.async false
set_option linter.all false
set_option maxRecDepth 100000
set_option maxHeartbeats 4000000
/-! S6: name = {k: v for ..} on one line. -/
namespace My
open PySem PySem.Spec PyProof.Rows L2
section
variable {X : Cx}
theorem ps_setDc {i : Nat} {y : Str} {py : Pos} {kx vx tg iter : Expr} {ifs : List Expr} {scope : Scope} {own : List (Str × Nat)} {pos spos : Pos} {wi : TI} {g : TG} {tt : TT} {tk tv : TE} (hc : X.calm = true) (hN : X.N.Nodup) (hy : X.N[i]? = some y) (hyl : X.env.scope.names.lookup y = some .local)
    (hsw : swapsWith (.DictComp kx vx [⟨tg, iter, ifs, 0⟩] scope pos) (some (.Name y py)) spos.line X.env = pure true) (hi : PI X tg iter wi) (ok : BlkOk X.N X.env.scope scope own)
    (hg : ∀ (s : Shared) (H : Hp) (C : Addr) (cl : List (Str × Addr)) (fp : List Addr), PG (X.blk s H scope (compEnvC scope cl C X.env) fp) tg g) (ht : ∀ (s : Shared) (H : Hp) (C : Addr) (cl : List (Str × Addr)) (fp : List Addr), PTs (X.blk s H scope (compEnvC scope cl C X.env) fp) ifs tt)
    (hk : ∀ (s : Shared) (H : Hp) (C : Addr) (cl : List (Str × Addr)) (fp : List Addr), PE (X.blk s H scope (compEnvC scope cl C X.env) fp) kx tk)
    (he : ∀ (s : Shared) (H : Hp) (C : Addr) (cl : List (Str × Addr)) (fp : List Addr), PE (X.blk s H scope (compEnvC scope cl C X.env) fp) vx tv) (hs : ∀ x, foldedSetIterable iter X.env x = pure x := by intro _; rfl) :
    PS X (.Assign [.Name y py] (.DictComp kx vx [⟨tg, iter, ifs, 0⟩] scope pos) spos) (tAsg (tDc wi g tt tk tv (own.map (·.2))) (gName i)) := by
  refine ⟨fun pins s σ H D I h => ?_⟩
  rw [exec_Assign_Name_used _ _ _ _ hsw]
  refine wpAny_bind (wpAny_standAt (wpAny_bind ?_))
  show wpAny _ X.A (do let _ ← comprehension (.DictComp kx vx [⟨tg, iter, ifs, 0⟩] scope pos) scope X.env (firstIterPos [⟨tg, iter, ifs, 0⟩] pos) newDict false (eval iter X.env) (some (assign (.Name y py) X.env))) _ _ s
  have h : tDc wi g tt tk tv (own.map (·.2)) σ H (fun x H1 => gName i x σ H1 D.nx) := h
  refine wpAny_bind (thn (dc_core (Qf := fun _ s' => SP X pins D .next s') hc hN I hi ok hg ht hk he hs h fun L C s' m H' I' q hn f => ?_) fun _ s' hq => wpAny_pure (wpAny_pure hq))
  show wpAny _ _ (assign (.Name y py) X.env (.ref L)) _ _ _
  refine wpAny_assign_Name (store_ok2 (v := V.ref L) I' hN hy (.inl hyl) rfl (fun s2 I2 ⟨a, sb, ha⟩ => ?_) (.inr hyl))
  obtain ⟨f0, f1, f2, f3, f4, f5⟩ := f
  have haC : C ≠ a := by
    rcases ha with z | z
    · rw [z]; exact f1
    · exact fun e => f4 y a z e.symm
  refine ⟨m, hn.sameBut sb haC, fun h3 sb3 => ?_⟩
  exact ⟨_, H', I2.turned (t' := s2.toks) (fun b o hb e => (sb3.2 b hb).trans e) f0 f1 f3 f4 f5, q⟩
theorem sw_trueD {kx vx : Expr} {gs : List Comprehension} {scope : Scope} {pos py : Pos} {y : Str} {l : Nat} {env : Env} (hk : env.scope.kind = .function) (hy : env.scope.names.lookup y = some .local) (hl : (py.line == pos.line) = true)
    (ha : (scope.names.any fun (n, k) => n == y && (k == .local || k == .cell)) = false) : swapsWith (.DictComp kx vx gs scope pos) (some (.Name y py)) l env = pure true := by
  have ky : env.kindOf y = some .local := hy
  have hb : env.blockKind = .function := by unfold Env.blockKind; rw [hk]; rfl
  unfold swapsWith
  simp only [hb, ky, ha, Expr.pos, hl]
  rfl
end
end My
set_option Elab.async false
set_option linter.all false
set_option maxRecDepth 100000
set_option maxHeartbeats 4000000
/-! Z1: a head by facts: what the end leans on is looked up in the heap by the kernel, and the written part stays a letter. -/
namespace My
open PySem PySem.Spec PyProof.Rows L2
abbrev Fct := PySem.W.Frag → Bool
abbrev AlM : Type := Bool × List He.FnW
def obsM (fs : List Fct) (fn : List He.DefD) (K : PySem.W.Frag) : AlM := ((fs.all fun f => f K) && fn.all fun d => d.ok K, fn.map fun d => He.fnW K d.at_)
def valM (fn : List He.DefD) : AlM := (true, fn.map He.DefD.val)
def SaysM (fs : List Fct) (fn : List He.DefD) (K : PySem.W.Frag) : Prop := obsM fs fn K = valM fn
/-- what these objects name, one step on -/
def lvM (g : Addr → Option Obj) (as : List Addr) : List Addr := as.flatMap fun a => match g a with
  | some o => He.refsD o
  | none => []
/-- what the module's names reach in n steps, step by step (no address is looked for twice) -/
def asM (g : Addr → Option Obj) : Nat → List Addr → List Addr
  | 0, as => as
  | n + 1, as => as ++ asM g n (lvM g as)
def obsMG (n : Nat) (fs : List Fct) (fn : List He.DefD) (g : Addr → Option Obj) : AlM := obsM fs fn (He.frG g (asM g n [mainGlobals]))
def hookM0 (n : Nat) (fs : List Fct) (fn : List He.DefD) : PySem.W.Hook where
  α := AlM
  obs := fun s => obsMG n fs fn s.heap.get?
  val := fun _ => valM fn
  says := fun _ h => ∃ K : PySem.W.Frag, K.In h ∧ SaysM fs fn K
  of := fun _ _ e => ⟨_, He.frG_in, e⟩
  keeps := fun _ _ _ ⟨K, hK, c⟩ k => ⟨K, PySem.W.Frag.In.keeps hK k, c⟩
theorem obsMG_eq {n : Nat} {fs : List Fct} {fn : List He.DefD} {g : Addr → Option Obj} {s : Shared} (h : ∀ a, g a = s.heap.get? a) : obsMG n fs fn g = (hookM0 n fs fn).obs s := by
  have e : g = s.heap.get? := funext h
  rw [e] <;> rfl
section
variable {fs : List Fct} {fn : List He.DefD} {K : PySem.W.Frag}
theorem SaysM.fact (c : SaysM fs fn K) (i : Nat) {f : Fct} (h : fs[i]? = some f) : f K = true := by
  have c1 := (He.ba (show ((fs.all fun f => f K) && fn.all fun d => d.ok K) = true from congrArg (fun z : AlM => z.1) c)).1
  exact List.all_eq_true.mp c1 f (List.mem_of_getElem? h)
theorem SaysM.def_ (c : SaysM fs fn K) (i : Nat) {d : He.DefD} (h : fn[i]? = some d) : ∃ fd, FunD K d.name d.qual d.params d.body d.scope (d.dvs K) (d.kws K) (He.fAd K d.at_) fd := by
  have c2 := (He.ba (show ((fs.all fun f => f K) && fn.all fun d => d.ok K) = true from congrArg (fun z : AlM => z.1) c)).2
  have e : fn.map (fun d => He.fnW K d.at_) = fn.map He.DefD.val := congrArg (fun z : AlM => z.2) c
  have e2 : (fn.map fun d => He.fnW K d.at_)[i]? = (fn.map He.DefD.val)[i]? := by rw [e]
  rw [List.getElem?_map, List.getElem?_map, h] at e2
  exact He.DefD.funD (Option.some.inj e2) (List.all_eq_true.mp c2 d (List.mem_of_getElem? h))
end
/-- a def without defaults, as it stands -/
theorem FunD.plain {K : PySem.W.Frag} {x q : Str} {pa : Arguments} {bd : List Stmt} {sc : Scope} {f : Addr} (h : ∃ fd, FunD K x q pa bd sc [] [] f fd) :
    ∃ oc od osl kV dc pm an cd ct, K.lookup f = some ⟨oc, od, .func (PySem.W.fnOf x q pa bd sc .none kV dc pm an cd ct), osl⟩ ∧ PySem.W.codeIn K cd q = true ∧ PySem.W.keepIn K (.ref f) = true := by
  obtain ⟨fd, ⟨oc, od, dV, kV, dc, pm, an, cd, ct, osl, rfl, l, c, dv, _⟩, kp⟩ := h
  rcases dv with ⟨_, rfl⟩ | ⟨n, _⟩
  · exact ⟨oc, od, osl, kV, dc, pm, an, cd, ct, l, c, kp⟩
  · exact absurd rfl n
/-- a def whose one default is None -/
theorem FunD.oneN {K : PySem.W.Frag} {x q : Str} {pa : Arguments} {bd : List Stmt} {sc : Scope} {f : Addr} (h : ∃ fd, FunD K x q pa bd sc [.non] [] f fd) :
    ∃ oc od osl T kV dc pm an cd ct ocT dT slT nT, K.lookup f = some ⟨oc, od, .func (PySem.W.fnOf x q pa bd sc (.ref T) kV dc pm an cd ct), osl⟩ ∧ PySem.W.codeIn K cd q = true ∧ PySem.W.keepIn K (.ref f) = true ∧ K.lookup T = some ⟨ocT, dT, .seq #[Value.none] nT, slT⟩ := by
  obtain ⟨fd, ⟨oc, od, dV, kV, dc, pm, an, cd, ct, osl, rfl, l, c, dv, _⟩, kp⟩ := h
  rcases dv with ⟨e, _⟩ | ⟨_, T, ⟨o1, o2, o3, o4⟩, its, n, rfl, lT, eo, v⟩
  · cases e
  · have e2 : o3 = .seq its.toArray n := eo
    subst e2
    obtain ⟨u, rfl, ru⟩ := vals1 v
    cases (show u = Value.none from ru)
    exact ⟨oc, od, osl, T, kV, dc, pm, an, cd, ct, o1, o2, o4, n, l, c, kp, lT⟩
/-- an int that the module's name x stands for, a text -/
def intF (x : Str) (i : Int) : Fct := fun K => match PySem.W.nsIn K mainGlobals x with
  | some (some (.int j _)) => decide (j = i)
  | _ => false
def strF (x z : Str) : Fct := fun K => match PySem.W.nsIn K mainGlobals x with
  | some (some (.str y _)) => decide (y = z)
  | _ => false
theorem intF_ok {K : PySem.W.Frag} {x : Str} {i : Int} (c : intF x i K = true) : ∃ t, PySem.W.nsIn K mainGlobals x = some (some (.int i t)) := by
  unfold intF at c
  cases e : PySem.W.nsIn K mainGlobals x with
  | none =>
    rw [e] at c
    cases c
  | some o =>
    rw [e] at c
    cases o with
    | none => cases c
    | some v =>
      cases v with
      | int j t =>
        have ej : j = i := of_decide_eq_true c
        rw [ej]
        exact ⟨t, rfl⟩
      | _ => cases c
theorem strF_ok {K : PySem.W.Frag} {x z : Str} (c : strF x z K = true) : ∃ t, PySem.W.nsIn K mainGlobals x = some (some (.str z t)) := by
  unfold strF at c
  cases e : PySem.W.nsIn K mainGlobals x with
  | none =>
    rw [e] at c
    cases c
  | some o =>
    rw [e] at c
    cases o with
    | none => cases c
    | some v =>
      cases v with
      | str y t =>
        have ej : y = z := of_decide_eq_true c
        rw [ej]
        exact ⟨t, rfl⟩
      | _ => cases c
theorem walk_ofGE {l : PySem.W.OpenLaw} {n k : Nat} {q : Program} {loose : List Str} {XP : (Str → Option Value) → Heap → Prop} {YP : World → Heap → Prop} {d : DefRec} {x : Str}
    (hn : l.most = some n) (hn2 : n ≤ sizeLine) (hdf : d.params.defaults = []) (hr : Room k callerA)
    (F : ∀ (w : World) (mg : Str → Option Value) (fa : Addr) (h : Heap), YP w h → h.Ns mainGlobals mg → mg d.name = some (.ref fa) →
      ∃ (K : PySem.W.Frag) (fd : FuncData) (sp : Sp), K.In h ∧ (∀ (s : Shared) (u : Value), BindsTo s fd ⟨[u], []⟩ [(x, u)]) ∧
        (∀ (H : Hp) (a : Addr) (ns : List Int), ns.length ≤ n → Only H → SqL K H a (ns.map V.int) → sp [.ref a] H (fun v _ => v = .bl true) fun _ _ _ => False) ∧
        ∀ base : Heap, K.In base → base.Ns mainGlobals mg → FnG l.prog w K mg base k fa fd [x] sp) :
    PySem.W.WalkO q loose XP YP l.row.toRowW d [] (fun f vs => PySem.call f vs) := by
  refine Att.attach_call hn hdf fun w s₀ s₁ mg mb fa o pm cd doc a vs ns G Y ho hd hcd hmg hobj hints hlen hg => ?_
  obtain ⟨K, fd, sp, KX, hb, hsp, hF⟩ := F w mg fa _ Y G.T.g hmg
  exact lawG_call KX G.T.g G.T.b G.T.builtins G.T.nolimit hg hobj hints (Nat.le_trans hlen hn2) hr hF hb (fun H hO hS => hsp H a ns hlen hO hS)
/-! ### the same in parts: each part's run is a theorem of its own -/
def obsLG (n : Nat) (ps : List (List Fct × List He.DefD)) (g : Addr → Option Obj) : List AlM := ps.map fun p => obsMG n p.1 p.2 g
def hookL (n : Nat) (ps : List (List Fct × List He.DefD)) : PySem.W.Hook where
  α := List AlM
  obs := fun s => obsLG n ps s.heap.get?
  val := fun _ => ps.map fun (p : List Fct × List He.DefD) => valM p.2
  says := fun _ h => ∃ K : PySem.W.Frag, K.In h ∧ ∀ p ∈ ps, SaysM p.1 p.2 K
  of := fun _ s e => ⟨He.frG s.heap.get? (asM s.heap.get? n [mainGlobals]), He.frG_in, fun p hp => List.map_inj_left.mp (show (ps.map fun p => obsMG n p.1 p.2 s.heap.get?) = ps.map fun p => valM p.2 from e) p hp⟩
  keeps := fun _ _ _ ⟨K, hK, c⟩ k => ⟨K, PySem.W.Frag.In.keeps hK k, c⟩
theorem obsLG_eq {n : Nat} {ps : List (List Fct × List He.DefD)} {g : Addr → Option Obj} {s : Shared} (h : ∀ a, g a = s.heap.get? a) : obsLG n ps g = (hookL n ps).obs s := by
  have e : g = s.heap.get? := funext h
  rw [e] <;> rfl
open PySem.W PySem.Calls in
theorem run_parts {r : OpenRow} {q : Program} {M n : Nat} {loose : List Str} {w : World} {ps : List (List Fct × List He.DefD)}
    (hA : ∀ os : OsState, (HandSHeadRun.endF (HandSHeadRun.stepQ (HandSHeadRun.denQ HandSHeadRun.tabQ) r.prog w) M r.prog w os).map (fun s => HandSHeadRun.looksF r.prog (boot_heap w.params) s.abs) = some true)
    (hB : ∀ os : OsState, (HandSHeadRun.endF (HandSHeadRun.stepQ (HandSHeadRun.denQ HandSHeadRun.tabQ) r.prog w) M r.prog w os).map (fun s => HandSHeadRun.seenQ q loose (importedModules r.prog.main.body) (fun s => xlAt q [] s && recOk r.toRowW.records s) s.abs) = some (openGood q loose))
    (hC : ∀ p ∈ ps, ∀ os : OsState, (HandSHeadRun.endF (HandSHeadRun.stepQ (HandSHeadRun.denQ HandSHeadRun.tabQ) r.prog w) M r.prog w os).map (fun s => obsMG n p.1 p.2 (HandSHeadRun.getT s)) = some (valM p.2)) :
    HandSHeadRun.RunEq r q (hookL n ps) (fun s => obsLG n ps (HandSHeadRun.getT s)) M loose w := by
  intro os
  obtain ⟨s, hs, a⟩ := Option.map_eq_some_iff.mp (hA os)
  have b := hB os
  rw [hs] at b ⊢
  have b := Option.some.inj b
  show some _ = some _
  refine congrArg some (Prod.ext a (Prod.ext b ?_))
  show ps.map (fun p => obsMG n p.1 p.2 (HandSHeadRun.getT s)) = ps.map fun p => valM p.2
  refine List.map_inj_left.mpr fun p hp => ?_
  have c := hC p hp os
  rw [hs] at c
  exact Option.some.inj c
end My
set_option Elab.async false
set_option linter.all false
set_option maxRecDepth 100000
set_option maxHeartbeats 4000000
/-! S7: f(e, .., k = v) and f(e) with a default left out. -/
namespace My
open PySem PySem.Spec PyProof.Rows L2
/-- a def with one default -/
theorem FunD.oneV {K : PySem.W.Frag} {x q : Str} {pa : Arguments} {bd : List Stmt} {sc : Scope} {f : Addr} {dv : V} (h : ∃ fd, FunD K x q pa bd sc [dv] [] f fd) :
    ∃ T kV dc pm an cd ct o u n, FunD K x q pa bd sc [dv] [] f (PySem.W.fnOf x q pa bd sc (.ref T) kV dc pm an cd ct) ∧ K.lookup T = some o ∧ o.data = .seq #[u] n ∧ RelV dv u := by
  obtain ⟨fd, F⟩ := h
  obtain ⟨⟨oc, od, dV, kV, dc, pm, an, cd, ct, osl, rfl, l, c, dv', kw⟩, kp⟩ := id F
  rcases dv' with ⟨e, _⟩ | ⟨_, T, o, its, n, rfl, lT, eo, v⟩
  · cases e
  · obtain ⟨u, rfl, ru⟩ := vals1 v
    exact ⟨T, kV, dc, pm, an, cd, ct, o, u, n, F, lT, eo, ru⟩
def ClN (P : Program) (w : World) (K : PySem.W.Frag) (mg : Str → Option Value) (base : Heap) (k : Nat) (x : Str) (n : Nat) (ks : List Str) (gV : List V → List V → List V) (sp : Sp) : Prop := ∃ f fd ps g, FnOk P w K mg base CX0 k f fd ps sp ∧ mg x = some (.ref f) ∧ PySem.W.keepIn K (.ref f) = true ∧ KBn K fd ps n ks g gV
theorem pe_clN {X : Cx} {k j n : Nat} {ks : List Str} {sp : Sp} {x : Str} {p pos : Pos} {e : Expr} {es : List Expr} {kws : List Keyword} {t tk : TA} {gV : List V → List V → List V} (c : ClN X.prog X.w X.K X.mg X.base k x n ks gV sp) (hr : Room j X.A) (hk : k ≤ j) (hg : Gl X x)
    (ha : PA X (e :: es) t) (hkw : PK X kws tk) (hall : (backToKw pos (keywordEach kws X.env)).all (·.1.isSome) = true := by rfl) (hks : (backToKw pos (keywordEach kws X.env)).filterMap (·.1) = ks := by rfl)
    (hdb : (x == ("__debug__" : Str)) = false := by decide) (he : starEach (e :: es) X.env = (false, eval e X.env) :: starEach es X.env := by rfl)
    (hpl : ((backTo pos (starEach (e :: es) X.env)).any (·.1) || (backToKw pos (keywordEach kws X.env)).any (·.1.isNone)) = false := by rfl) :
    PE X (.Call (.Name x p) (e :: es) kws pos) (L2.tCallN n ks.length sp gV E0 t tk) := by
  obtain ⟨f, fd, ps, g, F, hm, kp, hb⟩ := c
  exact pe_callN F (hr.mono hk) hg hm kp hb pass0 ha hkw hall hks hdb he hpl
def ClD (P : Program) (w : World) (K : PySem.W.Frag) (mg : Str → Option Value) (base : Heap) (k : Nat) (x : Str) (dvs : List V) (sp : Sp) : Prop := ∃ f fd ps ds, FnOk P w K mg base CX0 k f fd ps sp ∧ mg x = some (.ref f) ∧ PySem.W.keepIn K (.ref f) = true ∧ Binds K fd ps ds ∧ Vals dvs ds
theorem pe_clD {X : Cx} {k j : Nat} {x : Str} {dvs : List V} {sp : Sp} {e : Expr} {es : List Expr} {t : TA} {p pos : Pos} (c : ClD X.prog X.w X.K X.mg X.base k x dvs sp) (hr : Room j X.A) (hk : k ≤ j) (hg : Gl X x) (ha : PA X (e :: es) t)
    (hdb : (x == ("__debug__" : Str)) = false := by decide) (he : starEach (e :: es) X.env = (false, eval e X.env) :: starEach es X.env := by rfl) (hpl : (backTo pos (starEach es X.env)).any (·.1) = false := by rfl) :
    PE X (.Call (.Name x p) (e :: es) [] pos) (tCall sp dvs E0 t) := by
  obtain ⟨f, fd, ps, ds, F, hm, kp, b, hd⟩ := c
  exact pe_call F (hr.mono hk) hg hm kp b hd pass0 ha hdb he hpl
end My
set_option Elab.async false
set_option linter.all false
set_option maxRecDepth 100000
set_option maxHeartbeats 4000000
/-! D1: names, rows, shapes, pairs: what they are. -/
namespace My
open PySem PySem.Spec PyProof.Rows L2
def bookD (b : List (List Int)) : PyData := .list (b.map rowD)
def shD (S : List (List (List Int))) : PyData := .list (S.map bookD)
structure okRow (c : List Int) : Prop where
  l0 : 1 ≤ c.length
  l1 : c.length ≤ 30
  x : ∀ x ∈ c, 1 ≤ x ∧ x ≤ 4
structure okSh (S : List (List (List Int))) : Prop where
  s0 : 1 ≤ S.length
  s1 : S.length ≤ 6
  b : ∀ b ∈ S, 1 ≤ b.length ∧ b.length ≤ 12 ∧ ∀ c ∈ b, okRow c
  chs : (S.map List.length).sum ≤ 40
  prs : (S.map fun b => (b.map List.sum).sum).sum ≤ 400
theorem rep_int (k : Nat) (z : Int) : (List.replicate k [V.int z]).flatten = (List.replicate k z).map V.int := by
  induction k with
  | zero => rfl
  | succ k ih =>
    rw [List.replicate_succ, List.flatten_cons, ih, List.replicate_succ]
    rfl
theorem sum10a : ∀ b : List (List Int), (∀ r ∈ b, r.sum = 10) → (b.map List.sum).sum = 10 * (b.length : Int)
  | [], _ => rfl
  | r :: b, h => by
    rw [List.map_cons, List.sum_cons, sum10a b fun x hx => h x (List.mem_cons_of_mem _ hx), h r (List.mem_cons_self ..), List.length_cons]
    omega
theorem sum10 : ∀ S : List (List (List Int)), (∀ b ∈ S, ∀ r ∈ b, r.sum = 10) → (S.map fun b => (b.map List.sum).sum).sum = 10 * ((S.map List.length).sum : Nat)
  | [], _ => rfl
  | b :: S, h => by
    rw [List.map_cons, List.sum_cons, sum10 S fun x hx => h x (List.mem_cons_of_mem _ hx), sum10a b (h b (List.mem_cons_self ..)), List.map_cons, List.sum_cons]
    omega
theorem okSh_way0 {S : List (List (List Int))} {cs : List Int} (sl : S.map List.length = cs.map Int.toNat) (sr : ∀ b ∈ S, ∀ r ∈ b, okRow r ∧ r.sum = 10) (cl0 : 1 ≤ cs.length) (cl1 : cs.length ≤ 6) (csum : (cs.map Int.toNat).sum = 40) (cx : ∀ x ∈ cs, 1 ≤ x ∧ x ≤ 12) : okSh S := by
  have el : S.length = cs.length := by
    have := congrArg List.length sl
    rwa [List.length_map, List.length_map] at this
  refine ⟨by omega, by omega, fun b hb => ?_, by rw [sl, csum]; exact Nat.le_refl _, ?_⟩
  · have hm : b.length ∈ S.map List.length := List.mem_map_of_mem hb
    rw [sl] at hm
    obtain ⟨x, hx, e⟩ := List.mem_map.mp hm
    have := cx x hx
    exact ⟨by omega, by omega, fun c hc => (sr b hb c hc).1⟩
  · rw [sum10 S fun b hb r hr => (sr b hb r hr).2, sl, csum]
    decide
theorem sum_le (k : Int) : ∀ r : List Int, (∀ x ∈ r, x ≤ k) → r.sum ≤ k * r.length
  | [], _ => by simp
  | x :: r, h => by
    have h1 := h x (List.mem_cons_self ..)
    have h2 := sum_le k r fun y hy => h y (List.mem_cons_of_mem _ hy)
    rw [List.sum_cons, List.length_cons]
    have e : k * ((r.length + 1 : Nat) : Int) = k * (r.length : Int) + k := by
      rw [Int.natCast_add, Int.mul_add]
      simp
    omega
theorem okSh_small {S : List (List (List Int))} (s0 : 1 ≤ S.length) (s1 : S.length ≤ 6) (h : ∀ b ∈ S, 1 ≤ b.length ∧ b.length ≤ 3 ∧ ∀ c ∈ b, 1 ≤ c.length ∧ c.length ≤ 4 ∧ ∀ x ∈ c, 1 ≤ x ∧ x ≤ 4) : okSh S := by
  refine ⟨s0, s1, fun b hb => ⟨(h b hb).1, by have := (h b hb).2.1; omega, fun c hc => ⟨((h b hb).2.2 c hc).1, by have := ((h b hb).2.2 c hc).2.1; omega, ((h b hb).2.2 c hc).2.2⟩⟩, ?_, ?_⟩
  · have key : ∀ T : List (List (List Int)), (∀ b ∈ T, b.length ≤ 3) → (T.map List.length).sum ≤ 3 * T.length := by
      intro T
      induction T with
      | nil => intro _; simp
      | cons b T ih =>
        intro k
        have := ih fun x hx => k x (List.mem_cons_of_mem _ hx)
        have := k b (List.mem_cons_self ..)
        rw [List.map_cons, List.sum_cons, List.length_cons]
        omega
    have := key S fun b hb => (h b hb).2.1
    omega
  · have key1 : ∀ b : List (List Int), (∀ c ∈ b, c.length ≤ 4 ∧ ∀ x ∈ c, x ≤ 4) → (b.map List.sum).sum ≤ 16 * (b.length : Int) := by
      intro b
      induction b with
      | nil => intro _; simp
      | cons c b ih =>
        intro k
        have h1 := ih fun x hx => k x (List.mem_cons_of_mem _ hx)
        obtain ⟨k1, k2⟩ := k c (List.mem_cons_self ..)
        have h2 := sum_le 4 c k2
        rw [List.map_cons, List.sum_cons, List.length_cons]
        omega
    have key : ∀ T : List (List (List Int)), (∀ b ∈ T, b.length ≤ 3 ∧ ∀ c ∈ b, c.length ≤ 4 ∧ ∀ x ∈ c, x ≤ 4) → (T.map fun b => (b.map List.sum).sum).sum ≤ 48 * (T.length : Int) := by
      intro T
      induction T with
      | nil => intro _; simp
      | cons b T ih =>
        intro k
        have h1 := ih fun x hx => k x (List.mem_cons_of_mem _ hx)
        obtain ⟨k1, k2⟩ := k b (List.mem_cons_self ..)
        have h2 := key1 b k2
        rw [List.map_cons, List.sum_cons, List.length_cons]
        omega
    have := key S fun b hb => ⟨(h b hb).2.1, fun c hc => ⟨((h b hb).2.2 c hc).2.1, fun x hx => (((h b hb).2.2 c hc).2.2 x hx).2⟩⟩
    omega
def nmV (ws : List (List Nat)) : List V := ws.map fun l => .str (SX.S l)
def nmD (ws : List (List Nat)) : List PyData := ws.map fun l => .str (SX.S l)
structure okName (w : List Nat) : Prop where
  l0 : 1 ≤ w.length
  l1 : w.length ≤ 6
  a : ∀ c ∈ w, c ∈ letters26
structure okNames (ws : List (List Nat)) : Prop where
  nd : ws.Nodup
  ok : ∀ w ∈ ws, okName w
theorem let128 : ∀ c ∈ letters26, c < 128 := by decide +kernel
theorem dpall_nm {K : PySem.W.Frag} {H : Hp} : ∀ ws : List (List Nat), DpAll K H (nmV ws) (nmD ws)
  | [] => .nil
  | _ :: r => .cons (.str _) (dpall_nm r)
theorem lay_nm : ∀ ws : List (List Nat), (∀ w ∈ ws, ∀ c ∈ w, c < 128) → PyData.canLayAll0 (nmD ws) = true
  | [], _ => rfl
  | w :: r, h => by
    show (PyData.strOk (SX.S w) && PyData.canLayAll0 (nmD r)) = true
    rw [lay_nm r fun d hd => h d (List.mem_cons_of_mem _ hd), Bool.and_true]
    show (w.toArray.all fun c => decide (c < 0x110000)) = true
    rw [← Array.all_toList, List.all_eq_true]
    intro c hc
    have := h w (List.mem_cons_self ..) c hc
    exact decide_eq_true (by omega)
theorem dep_nm : ∀ ws : List (List Nat), PyData.depthAll (nmD ws) = 0
  | [] => rfl
  | c :: r => by
    show max 0 (PyData.depthAll (nmD r)) = 0
    rw [dep_nm r]
    rfl
theorem shaped_nm {ws : List (List Nat)} (h : ∀ w ∈ ws, ∀ c ∈ w, c < 128) : SeqAt.shaped (.list (nmD ws)) = true := by
  unfold SeqAt.shaped
  rw [Bool.and_eq_true]
  refine ⟨lay_nm ws h, decide_eq_true ?_⟩
  show PyData.depthAll _ + 1 ≤ 64
  rw [dep_nm]
  decide
theorem inV_nm (w : List Nat) : ∀ ws : List (List Nat), inV (.str (SX.S w)) (nmV ws) = decide (w ∈ ws)
  | [] => rfl
  | x :: r => by
    show (eqV (.str (SX.S x)) (.str (SX.S w)) || inV (.str (SX.S w)) (nmV r)) = _
    rw [inV_nm w r]
    show ((SX.S x == SX.S w) || _) = _
    rw [SX.S_beq]
    by_cases e : x = w
    · subst e
      rw [beq_self_eq_true, Bool.true_or]
      exact (decide_eq_true (List.mem_cons_self ..)).symm
    · rw [beq_false_of_ne e, Bool.false_or]
      exact decide_eq_decide.mpr ⟨fun h => List.mem_cons_of_mem _ h, fun h => (List.mem_cons.mp h).resolve_left fun z => e z.symm⟩
theorem flat_nm : ∀ ws : List (List Nat), (nmV ws).all flatV = true
  | [] => rfl
  | _ :: r => by
    show (true && (nmV r).all flatV) = true
    rw [flat_nm r]
    rfl
theorem pigeon : ∀ (l ws : List (List Nat)), l.Nodup → (∀ x ∈ l, x ∈ ws) → l.length ≤ ws.length
  | [], _, _, _ => Nat.zero_le _
  | x :: l, ws, hn, h => by
    have hx := h x (List.mem_cons_self ..)
    rw [List.nodup_cons] at hn
    have := pigeon l (ws.erase x) hn.2 fun y hy => (List.mem_erase_of_ne fun e => hn.1 (by rw [← e]; exact hy)).mpr (h y (List.mem_cons_of_mem _ hy))
    rw [List.length_erase_of_mem hx] at this
    have p : 0 < ws.length := List.length_pos_of_mem hx
    rw [List.length_cons]
    omega
theorem nd26 : letters26.Nodup := by decide +kernel
theorem len26 : letters26.length = 26 := by decide +kernel
theorem some_free (w : List Nat) {ws : List (List Nat)} (h : ws.length ≤ 25) : ∃ c r, letters26.filter (fun c => !decide (w ++ [c] ∈ ws)) = c :: r := by
  cases e : letters26.filter (fun c => !decide (w ++ [c] ∈ ws)) with
  | cons c r => exact ⟨c, r, rfl⟩
  | nil =>
    have hall : ∀ c ∈ letters26, w ++ [c] ∈ ws := by
      intro c hc
      rw [List.filter_eq_nil_iff] at e
      have := e c hc
      simpa using this
    have hnd : ((letters26.map fun c => w ++ [c]) : List (List Nat)).Nodup := by
      refine List.Pairwise.map _ (fun a b (hab : a ≠ b) => ?_) nd26
      intro z
      exact hab (by simpa using z)
    have := pigeon _ ws hnd fun x hx => by
      obtain ⟨c, hc, rfl⟩ := List.mem_map.mp hx
      exact hall c hc
    rw [List.length_map, len26] at this
    omega
def prD (s : Int × Int) : PyData := .tuple [.int s.1, .int s.2]
theorem AtAll.take {p : Av} {H : Hp} : ∀ {ds : List PyData} {vs : List V} (n : Nat), AtAll p H vs ds → AtAll p H (vs.take n) (ds.take n)
  | [], _, n, h => by
    cases h
    rw [List.take_nil, List.take_nil]
    exact .nil
  | d :: ds, _, 0, h => .nil
  | d :: ds, _, n + 1, h => by
    cases h with
    | cons h1 h2 => exact .cons h1 (AtAll.take n h2)
theorem AtAll.drop {p : Av} {H : Hp} : ∀ {ds : List PyData} {vs : List V} (n : Nat), AtAll p H vs ds → AtAll p H (vs.drop n) (ds.drop n)
  | [], _, n, h => by
    cases h
    rw [List.drop_nil, List.drop_nil]
    exact .nil
  | d :: ds, _, 0, h => h
  | d :: ds, _, n + 1, h => by
    cases h with
    | cons h1 h2 => exact AtAll.drop n h2
theorem LcA.put {S : Av} {p : Addr} {n m : Nat} {H H1 H2 : Hp} {D : Addr} {xs ys : List V} {ds es : List PyData} (c : LcA S p n H D xs ds H1) (k : Dr p m H1 H2) (hy : AtAll (Plus S D) H2 ys es) : LcA S p m H D ys es (upd H2 D (.lst ys)) := by
  have L := c.l.keep k
  refine ⟨⟨upd_same, ⟨?_, fun b o hb ho => ?_⟩, L.ne, L.fr⟩, AtAll.bt (BtS.upd (.inr rfl)) _ _ hy⟩
  · obtain ⟨i, j, k, e, r⟩ := L.dr.box
    exact ⟨i, j, k, by rw [upd_ne L.ne.symm]; exact e, r⟩
  · rw [upd_ne (ne_of_none ho L.fr)]
    exact L.dr.bt b o hb ho
theorem LcA.all {S : Av} {p : Addr} {n m : Nat} {H H1 H2 : Hp} {D : Addr} {xs : List V} {ds : List PyData} (c : LcA S p n H D xs ds H1) (hS : S p) (k : Dr p m H1 H2) : AtAll (Plus S D) H2 xs ds := AtAll.bt (k.bt.s.mono fun b z => .inl (z ▸ hS)) _ _ c.a
theorem LcA.on {S : Av} {p : Addr} {n m : Nat} {H H1 H2 : Hp} {D : Addr} {xs : List V} {ds : List PyData} (c : LcA S p n H D xs ds H1) (hS : S p) (k : Dr p m H1 H2) : LcA S p m H D xs ds H2 := ⟨c.l.keep k, c.all hS k⟩
theorem At.pair {S : Av} {H : Hp} {v : V} {s : Int × Int} (h : At S H v (prD s)) : ∃ t, v = .ref t ∧ ¬ S t ∧ H t = some (.tup [.int s.1, .int s.2]) := by
  cases h with
  | tup n e k =>
    cases k with
    | cons h1 h2 =>
      cases h1
      cases h2 with
      | cons h3 h4 =>
        cases h3
        cases h4
        exact ⟨_, rfl, n, e⟩
theorem At.ofpair {S : Av} {H : Hp} {t : Addr} {a b : Int} (n : ¬ S t) (e : H t = some (.tup [.int a, .int b])) : At S H (.ref t) (prD (a, b)) := .tup n e (.cons (.int a) (.cons (.int b) .nil))
/-- stretches apart -/
def Apart (s t : Int × Int) : Prop := s.1 + s.2 ≤ t.1 ∨ t.1 + t.2 ≤ s.1
theorem Apart.symm {s t : Int × Int} (h : Apart s t) : Apart t s := h.elim .inr .inl
structure okPairs (ps : List (Int × Int)) (size : Int) : Prop where
  l0 : ps.length ≤ 400
  x : ∀ s ∈ ps, 0 ≤ s.1 ∧ 1 ≤ s.2 ∧ s.2 ≤ 400 ∧ s.1 + s.2 ≤ 10000
  sum : (ps.map (·.2)).sum = size
  ap : ps.Pairwise Apart
theorem len_sum : ∀ ms : List Int, (∀ m ∈ ms, 1 ≤ m) → (ms.length : Int) ≤ ms.sum
  | [], _ => Int.le_refl _
  | m :: r, h => by
    have := len_sum r fun x hx => h x (List.mem_cons_of_mem _ hx)
    have := h m (List.mem_cons_self ..)
    rw [List.length_cons, List.sum_cons]
    omega
theorem mem_sum : ∀ {ms : List Int}, (∀ m ∈ ms, 1 ≤ m) → ∀ {m : Int}, m ∈ ms → m ≤ ms.sum
  | x :: r, h, m, hm => by
    have h1 := len_sum r fun x hx => h x (List.mem_cons_of_mem _ hx)
    have h2 := h x (List.mem_cons_self ..)
    rw [List.sum_cons]
    rcases List.mem_cons.mp hm with rfl | hm
    · omega
    · have := mem_sum (fun x hx => h x (List.mem_cons_of_mem _ hx)) hm
      omega
theorem rise_ok (b : Bool) {a : Int} (h : 0 ≤ a) : 0 ≤ a * (if b = true then 1 else 0) ∧ a * (if b = true then 1 else 0) ≤ a := by
  cases b with
  | true =>
    rw [if_pos rfl, Int.mul_one]
    exact ⟨h, Int.le_refl _⟩
  | false =>
    rw [if_neg Bool.false_ne_true, Int.mul_zero]
    exact ⟨Int.le_refl _, h⟩
theorem perm_sum {l m : List Int} (h : l.Perm m) : l.sum = m.sum := by
  induction h with
  | nil => rfl
  | cons x _ ih => rw [List.sum_cons, List.sum_cons, ih]
  | swap x y l =>
    rw [List.sum_cons, List.sum_cons, List.sum_cons, List.sum_cons]
    omega
  | trans _ _ h1 h2 => rw [h1, h2]
theorem perm_ins (ps : List (Int × Int)) (x : Int × Int) (d : Nat) : (ps.take d ++ [x] ++ ps.drop d).Perm (ps ++ [x]) := by
  have h1 : (ps.take d ++ [x] ++ ps.drop d).Perm (x :: (ps.take d ++ ps.drop d)) := by
    rw [List.append_assoc]
    exact List.perm_middle
  rw [List.take_append_drop] at h1
  exact h1.trans (List.perm_append_singleton x ps).symm
theorem okPairs_of {ss ps : List (Int × Int)} {ms : List Int} {z ri a0 : Int} (hm : ss.map (·.2) = ms) (h1 : ∀ m ∈ ms, 1 ≤ m) (hz : ms.sum = z) (z1 : z ≤ 400) (r0 : 0 ≤ ri) (r1 : ri ≤ 10000 - a0) (hx : ∀ s ∈ ss, 0 ≤ s.1 ∧ s.1 + s.2 ≤ a0)
    (hp : ss.Pairwise fun s t => s.1 + s.2 ≤ t.1) (e : ps.Perm (ss.map fun s => (s.1 + ri, s.2))) : okPairs ps z := by
  have l1 := len_sum ms h1
  have l2 : ss.length = ms.length := by
    rw [← hm, List.length_map]
  refine ⟨?_, fun s hs => ?_, ?_, ?_⟩
  · rw [e.length_eq, List.length_map]
    omega
  · obtain ⟨t, ht, rfl⟩ := List.mem_map.mp (e.mem_iff.mp hs)
    have k1 := hx t ht
    have m2 : t.2 ∈ ms := by
      rw [← hm]
      exact List.mem_map_of_mem ht
    have k2 := h1 _ m2
    have k3 := mem_sum h1 m2
    exact ⟨by show 0 ≤ t.1 + ri; omega, k2, by show t.2 ≤ 400; omega, by show t.1 + ri + t.2 ≤ 10000; omega⟩
  · rw [perm_sum (e.map (·.2)), List.map_map]
    exact (congrArg List.sum hm).trans hz
  · refine (e.pairwise_iff fun h => h.symm).mpr ?_
    rw [List.pairwise_map]
    refine hp.imp fun {s t} h => .inl ?_
    show s.1 + ri + s.2 ≤ t.1 + ri
    omega
theorem Occ.dr {S : Av} {H H' : Hp} {p : Addr} {n : Nat} (o : Occ S H) (d : Dr p n H H') : Occ S H' := fun b z e => by
  by_cases q : b = p
  · obtain ⟨i, j, k, e2, _⟩ := d.box
    rw [q, e2] at e
    cases e
  · cases h : H b with
    | none => exact o b z h
    | some x =>
      rw [d.bt b x q h] at e
      cases e
end My
set_option Elab.async false
set_option linter.all false
set_option maxRecDepth 100000
set_option maxHeartbeats 4000000
namespace My
open PySem PySem.Spec PyProof.Rows L2
def topS (i : Nat) : Stmt := PySem.Challenge.pw_bookplaces_k37_divided_and_merged.main.body.getD i (.Pass ⟨0, 0, 0, 0⟩)
abbrev s__wall : Stmt := topS 0
abbrev N__wall : List Str := ["k"]
theorem sc__wall : FnScope N__wall ["k"] (defScope s__wall) := ⟨rfl, rfl, rfl, by decide +kernel, rfl, by decide +kernel, by decide +kernel⟩
abbrev s_PlaceError___init__ : Stmt := inClass (topS 2) 0
abbrev N_PlaceError___init__ : List Str := ["self", "text"]
theorem sc_PlaceError___init__ : FnScope N_PlaceError___init__ ["self", "text"] (defScope s_PlaceError___init__) := ⟨rfl, rfl, rfl, by decide +kernel, rfl, by decide +kernel, by decide +kernel⟩
abbrev s_LostError___init__ : Stmt := inClass (topS 3) 0
abbrev N_LostError___init__ : List Str := ["self", "text"]
theorem sc_LostError___init__ : FnScope N_LostError___init__ ["self", "text"] (defScope s_LostError___init__) := ⟨rfl, rfl, rfl, by decide +kernel, rfl, by decide +kernel, by decide +kernel⟩
abbrev s_NoNumber___init__ : Stmt := inClass (topS 4) 0
abbrev N_NoNumber___init__ : List Str := ["self", "found"]
theorem sc_NoNumber___init__ : FnScope N_NoNumber___init__ ["self", "found"] (defScope s_NoNumber___init__) := ⟨rfl, rfl, rfl, by decide +kernel, rfl, by decide +kernel, by decide +kernel⟩
abbrev s_NoName___init__ : Stmt := inClass (topS 5) 0
abbrev N_NoName___init__ : List Str := ["self", "found"]
theorem sc_NoName___init__ : FnScope N_NoName___init__ ["self", "found"] (defScope s_NoName___init__) := ⟨rfl, rfl, rfl, by decide +kernel, rfl, by decide +kernel, by decide +kernel⟩
abbrev s_Doubled___init__ : Stmt := inClass (topS 6) 0
abbrev N_Doubled___init__ : List Str := ["self", "found"]
theorem sc_Doubled___init__ : FnScope N_Doubled___init__ ["self", "found"] (defScope s_Doubled___init__) := ⟨rfl, rfl, rfl, by decide +kernel, rfl, by decide +kernel, by decide +kernel⟩
abbrev s_NoEdition___init__ : Stmt := inClass (topS 7) 0
abbrev N_NoEdition___init__ : List Str := ["self", "found"]
theorem sc_NoEdition___init__ : FnScope N_NoEdition___init__ ["self", "found"] (defScope s_NoEdition___init__) := ⟨rfl, rfl, rfl, by decide +kernel, rfl, by decide +kernel, by decide +kernel⟩
abbrev s_TooMany___init__ : Stmt := inClass (topS 8) 0
abbrev N_TooMany___init__ : List Str := ["self", "found"]
theorem sc_TooMany___init__ : FnScope N_TooMany___init__ ["self", "found"] (defScope s_TooMany___init__) := ⟨rfl, rfl, rfl, by decide +kernel, rfl, by decide +kernel, by decide +kernel⟩
abbrev s_NoLines___init__ : Stmt := inClass (topS 9) 0
abbrev N_NoLines___init__ : List Str := ["self", "found"]
theorem sc_NoLines___init__ : FnScope N_NoLines___init__ ["self", "found"] (defScope s_NoLines___init__) := ⟨rfl, rfl, rfl, by decide +kernel, rfl, by decide +kernel, by decide +kernel⟩
abbrev s_NoSpot___init__ : Stmt := inClass (topS 10) 0
abbrev N_NoSpot___init__ : List Str := ["self", "found"]
theorem sc_NoSpot___init__ : FnScope N_NoSpot___init__ ["self", "found"] (defScope s_NoSpot___init__) := ⟨rfl, rfl, rfl, by decide +kernel, rfl, by decide +kernel, by decide +kernel⟩
abbrev s_NoBook___init__ : Stmt := inClass (topS 11) 0
abbrev N_NoBook___init__ : List Str := ["self", "found"]
theorem sc_NoBook___init__ : FnScope N_NoBook___init__ ["self", "found"] (defScope s_NoBook___init__) := ⟨rfl, rfl, rfl, by decide +kernel, rfl, by decide +kernel, by decide +kernel⟩
abbrev s_NoChapter___init__ : Stmt := inClass (topS 12) 0
abbrev N_NoChapter___init__ : List Str := ["self", "found"]
theorem sc_NoChapter___init__ : FnScope N_NoChapter___init__ ["self", "found"] (defScope s_NoChapter___init__) := ⟨rfl, rfl, rfl, by decide +kernel, rfl, by decide +kernel, by decide +kernel⟩
abbrev s_NoVerse___init__ : Stmt := inClass (topS 13) 0
abbrev N_NoVerse___init__ : List Str := ["self", "found"]
theorem sc_NoVerse___init__ : FnScope N_NoVerse___init__ ["self", "found"] (defScope s_NoVerse___init__) := ⟨rfl, rfl, rfl, by decide +kernel, rfl, by decide +kernel, by decide +kernel⟩
abbrev s_NoPart___init__ : Stmt := inClass (topS 14) 0
abbrev N_NoPart___init__ : List Str := ["self", "found"]
theorem sc_NoPart___init__ : FnScope N_NoPart___init__ ["self", "found"] (defScope s_NoPart___init__) := ⟨rfl, rfl, rfl, by decide +kernel, rfl, by decide +kernel, by decide +kernel⟩
abbrev s_is_number : Stmt := topS 18
abbrev N_is_number : List Str := ["thing"]
theorem sc_is_number : FnScope N_is_number ["thing"] (defScope s_is_number) := ⟨rfl, rfl, rfl, by decide +kernel, rfl, by decide +kernel, by decide +kernel⟩
abbrev s_is_whole : Stmt := topS 19
abbrev N_is_whole : List Str := ["thing", "low", "high"]
theorem sc_is_whole : FnScope N_is_whole ["thing", "low", "high"] (defScope s_is_whole) := ⟨rfl, rfl, rfl, by decide +kernel, rfl, by decide +kernel, by decide +kernel⟩
abbrev s_is_name : Stmt := topS 20
abbrev N_is_name : List Str := ["thing"]
theorem sc_is_name : FnScope N_is_name ["thing"] (defScope s_is_name) := ⟨rfl, rfl, rfl, by decide +kernel, rfl, by decide +kernel, by decide +kernel⟩
abbrev s_is_made_of : Stmt := topS 21
abbrev N_is_made_of : List Str := ["thing", "signs", "most", "sign"]
theorem sc_is_made_of : FnScope N_is_made_of ["thing", "signs", "most"] (defScope s_is_made_of) := ⟨rfl, rfl, rfl, by decide +kernel, rfl, by decide +kernel, by decide +kernel⟩
abbrev s_is_tuple : Stmt := topS 22
abbrev N_is_tuple : List Str := ["thing", "fewest", "most"]
theorem sc_is_tuple : FnScope N_is_tuple ["thing", "fewest", "most"] (defScope s_is_tuple) := ⟨rfl, rfl, rfl, by decide +kernel, rfl, by decide +kernel, by decide +kernel⟩
abbrev s_is_row : Stmt := topS 23
abbrev N_is_row : List Str := ["thing", "fewest", "most"]
theorem sc_is_row : FnScope N_is_row ["thing", "fewest", "most"] (defScope s_is_row) := ⟨rfl, rfl, rfl, by decide +kernel, rfl, by decide +kernel, by decide +kernel⟩
abbrev s_Edition___init__ : Stmt := inClass (topS 33) 0
abbrev N_Edition___init__ : List Str := ["self", "books", "lines", "name", "chapters", "number", "line"]
theorem sc_Edition___init__ : FnScope N_Edition___init__ ["self", "books", "lines"] (defScope s_Edition___init__) := ⟨rfl, rfl, rfl, by decide +kernel, rfl, by decide +kernel, by decide +kernel⟩
abbrev s_Edition_names : Stmt := inClass (topS 33) 1
abbrev N_Edition_names : List Str := ["self"]
theorem sc_Edition_names : FnScope N_Edition_names ["self"] (defScope s_Edition_names) := ⟨rfl, rfl, rfl, by decide +kernel, rfl, by decide +kernel, by decide +kernel⟩
abbrev s_Edition_size : Stmt := inClass (topS 33) 2
abbrev N_Edition_size : List Str := ["self"]
theorem sc_Edition_size : FnScope N_Edition_size ["self"] (defScope s_Edition_size) := ⟨rfl, rfl, rfl, by decide +kernel, rfl, by decide +kernel, by decide +kernel⟩
abbrev s_Edition_lines : Stmt := inClass (topS 33) 3
abbrev N_Edition_lines : List Str := ["self"]
theorem sc_Edition_lines : FnScope N_Edition_lines ["self"] (defScope s_Edition_lines) := ⟨rfl, rfl, rfl, by decide +kernel, rfl, by decide +kernel, by decide +kernel⟩
abbrev s_Edition_chapters : Stmt := inClass (topS 33) 4
abbrev N_Edition_chapters : List Str := ["self", "name"]
theorem sc_Edition_chapters : FnScope N_Edition_chapters ["self", "name"] (defScope s_Edition_chapters) := ⟨rfl, rfl, rfl, by decide +kernel, rfl, by decide +kernel, by decide +kernel⟩
abbrev s_Edition_verses : Stmt := inClass (topS 33) 5
abbrev N_Edition_verses : List Str := ["self", "name", "chapter"]
theorem sc_Edition_verses : FnScope N_Edition_verses ["self", "name", "chapter"] (defScope s_Edition_verses) := ⟨rfl, rfl, rfl, by decide +kernel, rfl, by decide +kernel, by decide +kernel⟩
abbrev s_Edition_parts : Stmt := inClass (topS 33) 6
abbrev N_Edition_parts : List Str := ["self", "name", "chapter", "verse", "verses"]
theorem sc_Edition_parts : FnScope N_Edition_parts ["self", "name", "chapter", "verse"] (defScope s_Edition_parts) := ⟨rfl, rfl, rfl, by decide +kernel, rfl, by decide +kernel, by decide +kernel⟩
abbrev s_Edition_line_at : Stmt := inClass (topS 33) 7
abbrev N_Edition_line_at : List Str := ["self", "number"]
theorem sc_Edition_line_at : FnScope N_Edition_line_at ["self", "number"] (defScope s_Edition_line_at) := ⟨rfl, rfl, rfl, by decide +kernel, rfl, by decide +kernel, by decide +kernel⟩
abbrev s_Edition_part_of : Stmt := inClass (topS 33) 8
abbrev N_Edition_part_of : List Str := ["self", "thing"]
theorem sc_Edition_part_of : FnScope N_Edition_part_of ["self", "thing"] (defScope s_Edition_part_of) := ⟨rfl, rfl, rfl, by decide +kernel, rfl, by decide +kernel, by decide +kernel⟩
abbrev s_Edition_told : Stmt := inClass (topS 33) 9
abbrev N_Edition_told : List Str := ["self"]
theorem sc_Edition_told : FnScope N_Edition_told ["self"] (defScope s_Edition_told) := ⟨rfl, rfl, rfl, by decide +kernel, rfl, by decide +kernel, by decide +kernel⟩
abbrev s_Edition_same : Stmt := inClass (topS 33) 10
abbrev N_Edition_same : List Str := ["self", "thing"]
theorem sc_Edition_same : FnScope N_Edition_same ["self", "thing"] (defScope s_Edition_same) := ⟨rfl, rfl, rfl, by decide +kernel, rfl, by decide +kernel, by decide +kernel⟩
abbrev s_Edition_stretch : Stmt := inClass (topS 33) 11
abbrev N_Edition_stretch : List Str := ["self", "spot"]
theorem sc_Edition_stretch : FnScope N_Edition_stretch ["self", "spot"] (defScope s_Edition_stretch) := ⟨rfl, rfl, rfl, by decide +kernel, rfl, by decide +kernel, by decide +kernel⟩
abbrev s_Edition_number : Stmt := inClass (topS 33) 12
abbrev N_Edition_number : List Str := ["self", "spot", "first", "_"]
theorem sc_Edition_number : FnScope N_Edition_number ["self", "spot"] (defScope s_Edition_number) := ⟨rfl, rfl, rfl, by decide +kernel, rfl, by decide +kernel, by decide +kernel⟩
abbrev s_Edition_place : Stmt := inClass (topS 33) 13
abbrev N_Edition_place : List Str := ["self", "number"]
theorem sc_Edition_place : FnScope N_Edition_place ["self", "number"] (defScope s_Edition_place) := ⟨rfl, rfl, rfl, by decide +kernel, rfl, by decide +kernel, by decide +kernel⟩
abbrev s_Edition_verse_of : Stmt := inClass (topS 33) 14
abbrev N_Edition_verse_of : List Str := ["self", "number"]
theorem sc_Edition_verse_of : FnScope N_Edition_verse_of ["self", "number"] (defScope s_Edition_verse_of) := ⟨rfl, rfl, rfl, by decide +kernel, rfl, by decide +kernel, by decide +kernel⟩
abbrev s_Edition_begins : Stmt := inClass (topS 33) 15
abbrev N_Edition_begins : List Str := ["self", "number"]
theorem sc_Edition_begins : FnScope N_Edition_begins ["self", "number"] (defScope s_Edition_begins) := ⟨rfl, rfl, rfl, by decide +kernel, rfl, by decide +kernel, by decide +kernel⟩
abbrev s_Edition_ends : Stmt := inClass (topS 33) 16
abbrev N_Edition_ends : List Str := ["self", "number"]
theorem sc_Edition_ends : FnScope N_Edition_ends ["self", "number"] (defScope s_Edition_ends) := ⟨rfl, rfl, rfl, by decide +kernel, rfl, by decide +kernel, by decide +kernel⟩
abbrev s_Edition__book : Stmt := inClass (topS 33) 17
abbrev N_Edition__book : List Str := ["self", "name"]
theorem sc_Edition__book : FnScope N_Edition__book ["self", "name"] (defScope s_Edition__book) := ⟨rfl, rfl, rfl, by decide +kernel, rfl, by decide +kernel, by decide +kernel⟩
abbrev s_Edition__chapter : Stmt := inClass (topS 33) 18
abbrev N_Edition__chapter : List Str := ["self", "name", "chapter", "chapters"]
theorem sc_Edition__chapter : FnScope N_Edition__chapter ["self", "name", "chapter"] (defScope s_Edition__chapter) := ⟨rfl, rfl, rfl, by decide +kernel, rfl, by decide +kernel, by decide +kernel⟩
abbrev s_Edition__spots_around : Stmt := inClass (topS 33) 19
abbrev N_Edition__spots_around : List Str := ["self", "number"]
theorem sc_Edition__spots_around : FnScope N_Edition__spots_around ["self", "number"] (defScope s_Edition__spots_around) := ⟨rfl, rfl, rfl, by decide +kernel, rfl, by decide +kernel, by decide +kernel⟩
abbrev s_Edition__check_number : Stmt := inClass (topS 33) 20
abbrev N_Edition__check_number : List Str := ["self", "number"]
theorem sc_Edition__check_number : FnScope N_Edition__check_number ["self", "number"] (defScope s_Edition__check_number) := ⟨rfl, rfl, rfl, by decide +kernel, rfl, by decide +kernel, by decide +kernel⟩
abbrev s_Edition__check_spot : Stmt := inClass (topS 33) 21
abbrev N_Edition__check_spot : List Str := ["self", "spot", "many"]
theorem sc_Edition__check_spot : FnScope N_Edition__check_spot ["self", "spot"] (defScope s_Edition__check_spot) := ⟨rfl, rfl, rfl, by decide +kernel, rfl, by decide +kernel, by decide +kernel⟩
abbrev s_check_edition : Stmt := topS 34
abbrev N_check_edition : List Str := ["thing"]
theorem sc_check_edition : FnScope N_check_edition ["thing"] (defScope s_check_edition) := ⟨rfl, rfl, rfl, by decide +kernel, rfl, by decide +kernel, by decide +kernel⟩
abbrev s_kept_books : Stmt := topS 35
abbrev N_kept_books : List Str := ["books", "kept", "book", "names", "name", "chapters"]
theorem sc_kept_books : FnScope N_kept_books ["books"] (defScope s_kept_books) := ⟨rfl, rfl, rfl, by decide +kernel, rfl, by decide +kernel, by decide +kernel⟩
abbrev s_kept_book : Stmt := topS 36
abbrev N_kept_book : List Str := ["book", "names", "name", "chapters", "chapter"]
theorem sc_kept_book : FnScope N_kept_book ["book", "names"] (defScope s_kept_book) := ⟨rfl, rfl, rfl, by decide +kernel, rfl, by decide +kernel, by decide +kernel⟩
abbrev s_kept_chapter : Stmt := topS 37
abbrev N_kept_chapter : List Str := ["chapter", "parts"]
theorem sc_kept_chapter : FnScope N_kept_chapter ["chapter"] (defScope s_kept_chapter) := ⟨rfl, rfl, rfl, by decide +kernel, rfl, by decide +kernel, by decide +kernel⟩
abbrev s_check_counts : Stmt := topS 38
abbrev N_check_counts : List Str := ["books", "counts", "parts", "name", "chapters", "chapter"]
theorem sc_check_counts : FnScope N_check_counts ["books"] (defScope s_check_counts) := ⟨rfl, rfl, rfl, by decide +kernel, rfl, by decide +kernel, by decide +kernel⟩
abbrev s_kept_lines : Stmt := topS 39
abbrev N_kept_lines : List Str := ["lines", "size", "taken", "pair", "line"]
theorem sc_kept_lines : FnScope N_kept_lines ["lines", "size"] (defScope s_kept_lines) := ⟨rfl, rfl, rfl, by decide +kernel, rfl, by decide +kernel, by decide +kernel⟩
abbrev s_lines_of_pair : Stmt := topS 40
abbrev N_lines_of_pair : List Str := ["pair", "first", "many"]
theorem sc_lines_of_pair : FnScope N_lines_of_pair ["pair"] (defScope s_lines_of_pair) := ⟨rfl, rfl, rfl, by decide +kernel, rfl, by decide +kernel, by decide +kernel⟩
abbrev s_fewest_pairs : Stmt := topS 41
abbrev N_fewest_pairs : List Str := ["lines", "pairs", "line", "first", "many"]
theorem sc_fewest_pairs : FnScope N_fewest_pairs ["lines"] (defScope s_fewest_pairs) := ⟨rfl, rfl, rfl, by decide +kernel, rfl, by decide +kernel, by decide +kernel⟩
abbrev s_places_in : Stmt := topS 42
abbrev N_places_in : List Str := ["books", "places", "name", "chapters", "chapter", "verses", "verse", "parts", "part"]
theorem sc_places_in : FnScope N_places_in ["books"] (defScope s_places_in) := ⟨rfl, rfl, rfl, by decide +kernel, rfl, by decide +kernel, by decide +kernel⟩
abbrev s_stretches_of : Stmt := topS 43
abbrev N_stretches_of : List Str := ["places", "stretches", "number", "place", "many", "spot", "first"]
theorem sc_stretches_of : FnScope N_stretches_of ["places"] (defScope s_stretches_of) := ⟨rfl, rfl, rfl, by decide +kernel, rfl, by decide +kernel, by decide +kernel⟩
abbrev s_divided : Stmt := topS 45
abbrev N_divided : List Str := ["edition", "spot", "many", "parts", "name", "chapter", "_", "verses"]
theorem sc_divided : FnScope N_divided ["edition", "spot", "many"] (defScope s_divided) := ⟨rfl, rfl, rfl, by decide +kernel, rfl, by decide +kernel, by decide +kernel⟩
abbrev s_merged : Stmt := topS 46
abbrev N_merged : List Str := ["edition", "spot", "parts", "name", "chapter", "verse"]
theorem sc_merged : FnScope N_merged ["edition", "spot"] (defScope s_merged) := ⟨rfl, rfl, rfl, by decide +kernel, rfl, by decide +kernel, by decide +kernel⟩
abbrev s_parts_of_verse : Stmt := topS 47
abbrev N_parts_of_verse : List Str := ["edition", "spot"]
theorem sc_parts_of_verse : FnScope N_parts_of_verse ["edition", "spot"] (defScope s_parts_of_verse) := ⟨rfl, rfl, rfl, by decide +kernel, rfl, by decide +kernel, by decide +kernel⟩
abbrev s_with_verses : Stmt := topS 48
abbrev N_with_verses : List Str := ["edition", "spot", "gone", "counts", "name", "chapter", "verse", "books", "pairs", "copies", "verses", "book", "chapters"]
theorem sc_with_verses : FnScope N_with_verses ["edition", "spot", "gone", "counts"] (defScope s_with_verses) := ⟨rfl, rfl, rfl, by decide +kernel, rfl, by decide +kernel, by decide +kernel⟩
abbrev s__law_cell_at : Stmt := topS 50
abbrev N__law_cell_at : List Str := ["script", "k"]
theorem sc__law_cell_at : FnScope N__law_cell_at ["script", "k"] (defScope s__law_cell_at) := ⟨rfl, rfl, rfl, by decide +kernel, rfl, by decide +kernel, by decide +kernel⟩
abbrev s__law_row : Stmt := topS 51
abbrev N__law_row : List Str := ["cell", "count", "salt", "row", "rest", "k", "mixed"]
theorem sc__law_row : FnScope N__law_row ["cell", "count", "salt"] (defScope s__law_row) := ⟨rfl, rfl, rfl, by decide +kernel, rfl, by decide +kernel, by decide +kernel⟩
abbrev s__law_names : Stmt := topS 52
abbrev N__law_names : List Str := ["row", "count", "letters", "stem", "at", "step", "names", "k", "long", "letter", "number"]
theorem sc__law_names : FnScope N__law_names ["row", "count"] (defScope s__law_names) := ⟨rfl, rfl, rfl, by decide +kernel, rfl, by decide +kernel, by decide +kernel⟩
abbrev s__law_books : Stmt := topS 53
abbrev N__law_books : List Str := ["cell", "salt", "row", "names", "count", "books", "k", "chapters", "j", "number", "size", "v"]
theorem sc__law_books : FnScope N__law_books ["cell", "salt"] (defScope s__law_books) := ⟨rfl, rfl, rfl, by decide +kernel, rfl, by decide +kernel, by decide +kernel⟩
abbrev s__law_copy : Stmt := topS 54
abbrev N__law_copy : List Str := ["books", "chapter", "name", "chapters"]
theorem sc__law_copy : FnScope N__law_copy ["books"] (defScope s__law_copy) := ⟨rfl, rfl, rfl, by decide +kernel, rfl, by decide +kernel, by decide +kernel⟩
abbrev s__law_spots : Stmt := topS 55
abbrev N__law_spots : List Str := ["books", "spots", "name", "chapters", "c", "v", "p"]
theorem sc__law_spots : FnScope N__law_spots ["books"] (defScope s__law_spots) := ⟨rfl, rfl, rfl, by decide +kernel, rfl, by decide +kernel, by decide +kernel⟩
abbrev s__law_threads : Stmt := topS 56
abbrev N__law_threads : List Str := ["row", "size", "span", "low", "way", "threads", "taken", "number", "first", "count", "thread", "n", "k"]
theorem sc__law_threads : FnScope N__law_threads ["row", "size", "span", "low", "way"] (defScope s__law_threads) := ⟨rfl, rfl, rfl, by decide +kernel, rfl, by decide +kernel, by decide +kernel⟩
abbrev s__law_edition : Stmt := topS 57
abbrev N__law_edition : List Str := ["books", "threads", "way", "spans", "thread"]
theorem sc__law_edition : FnScope N__law_edition ["books", "threads", "way"] (defScope s__law_edition) := ⟨rfl, rfl, rfl, by decide +kernel, rfl, by decide +kernel, by decide +kernel⟩
abbrev s__law_one : Stmt := topS 58
abbrev N__law_one : List Str := ["script", "books", "size", "way", "low", "threads"]
theorem sc__law_one : FnScope N__law_one ["script"] (defScope s__law_one) := ⟨rfl, rfl, rfl, by decide +kernel, rfl, by decide +kernel, by decide +kernel⟩
abbrev s__law_told : Stmt := topS 59
abbrev N__law_told : List Str := ["books", "threads", "spans", "thread", "due", "chapter", "name", "chapters"]
theorem sc__law_told : FnScope N__law_told ["books", "threads"] (defScope s__law_told) := ⟨rfl, rfl, rfl, by decide +kernel, rfl, by decide +kernel, by decide +kernel⟩
abbrev s__law_alike : Stmt := topS 60
abbrev N__law_alike : List Str := ["found", "due", "k"]
theorem sc__law_alike : FnScope N__law_alike ["found", "due"] (defScope s__law_alike) := ⟨rfl, rfl, rfl, by decide +kernel, rfl, by decide +kernel, by decide +kernel⟩
abbrev s__law_divisions : Stmt := topS 61
abbrev N__law_divisions : List Str := ["books", "found", "b", "book", "c", "chapter", "v", "parts"]
theorem sc__law_divisions : FnScope N__law_divisions ["books"] (defScope s__law_divisions) := ⟨rfl, rfl, rfl, by decide +kernel, rfl, by decide +kernel, by decide +kernel⟩
abbrev s__law_divide : Stmt := topS 62
abbrev N__law_divide : List Str := ["books", "choice", "cell", "way", "b", "c", "v", "other", "chapter", "spot", "first"]
theorem sc__law_divide : FnScope N__law_divide ["books", "choice", "cell"] (defScope s__law_divide) := ⟨rfl, rfl, rfl, by decide +kernel, rfl, by decide +kernel, by decide +kernel⟩
abbrev s__law_asked : Stmt := topS 63
abbrev N__law_asked : List Str := ["edition", "deed", "cell"]
theorem sc__law_asked : FnScope N__law_asked ["edition", "deed", "cell"] (defScope s__law_asked) := ⟨rfl, rfl, rfl, by decide +kernel, rfl, by decide +kernel, by decide +kernel⟩
abbrev s__law_kept : Stmt := topS 64
abbrev N__law_kept : List Str := ["edition", "threads", "n", "thread"]
theorem sc__law_kept : FnScope N__law_kept ["edition", "threads"] (defScope s__law_kept) := ⟨rfl, rfl, rfl, by decide +kernel, rfl, by decide +kernel, by decide +kernel⟩
abbrev s__law_right : Stmt := topS 65
abbrev N__law_right : List Str := ["edition", "books", "threads", "choice", "cell", "deed", "other", "told", "parts"]
theorem sc__law_right : FnScope N__law_right ["edition", "books", "threads", "choice", "cell"] (defScope s__law_right) := ⟨rfl, rfl, rfl, by decide +kernel, rfl, by decide +kernel, by decide +kernel⟩
abbrev s_law : Stmt := topS 66
abbrev N_law : List Str := ["script", "books", "threads", "edition", "choices", "due", "cell", "choice", "deed", "other"]
theorem sc_law : FnScope N_law ["script"] (defScope s_law) := ⟨rfl, rfl, rfl, by decide +kernel, rfl, by decide +kernel, by decide +kernel⟩
/-- what the top leaves: names that are not its own, constants -/
structure Txt (K : PySem.W.Frag) (mg : Str → Option Value) : Prop where
  b_LookupError : mg "LookupError" = none
  b_ValueError : mg "ValueError" = none
  b_abs : mg "abs" = none
  b_all : mg "all" = none
  b_bool : mg "bool" = none
  b_enumerate : mg "enumerate" = none
  b_int : mg "int" = none
  b_isinstance : mg "isinstance" = none
  b_len : mg "len" = none
  b_list : mg "list" = none
  b_range : mg "range" = none
  b_str : mg "str" = none
  b_sum : mg "sum" = none
  b_tuple : mg "tuple" = none
  g_LAST_LINE : ∃ u, mg "LAST_LINE" = some u ∧ RelV (.int 9999) u
  g_LONGEST_NAME : ∃ u, mg "LONGEST_NAME" = some u ∧ RelV (.int 6) u
  g_MOST_BOOKS : ∃ u, mg "MOST_BOOKS" = some u ∧ RelV (.int 6) u
  g_MOST_BOOK_CHAPTERS : ∃ u, mg "MOST_BOOK_CHAPTERS" = some u ∧ RelV (.int 12) u
  g_MOST_CHAPTERS : ∃ u, mg "MOST_CHAPTERS" = some u ∧ RelV (.int 40) u
  g_MOST_PAIRS : ∃ u, mg "MOST_PAIRS" = some u ∧ RelV (.int 400) u
  g_MOST_PARTS : ∃ u, mg "MOST_PARTS" = some u ∧ RelV (.int 400) u
  g_MOST_VERSES : ∃ u, mg "MOST_VERSES" = some u ∧ RelV (.int 30) u
  g_MOST_VERSE_PARTS : ∃ u, mg "MOST_VERSE_PARTS" = some u ∧ RelV (.int 4) u
  g_SMALL_LETTERS : ∃ u, mg "SMALL_LETTERS" = some u ∧ RelV (.str "abcdefghijklmnopqrstuvwxyz") u
end My
set_option Elab.async false
set_option linter.all false
set_option maxRecDepth 100000
set_option maxHeartbeats 4000000
namespace My
open PySem PySem.Spec PyProof.Rows L2
def looseM_0 : List Str := ["_wall",
  "PlaceError",
  "LostError",
  "NoNumber",
  "NoName",
  "Doubled",
  "NoEdition",
  "TooMany",
  "NoLines",
  "NoSpot",
  "NoBook",
  "NoChapter",
  "NoVerse",
  "NoPart",
  "SMALL_LETTERS",
  "LONGEST_NAME",
  "is_number",
  "is_whole",
  "is_name",
  "is_made_of",
  "is_tuple",
  "is_row",
  "MOST_BOOKS",
  "MOST_BOOK_CHAPTERS",
  "MOST_VERSES",
  "MOST_VERSE_PARTS",
  "MOST_CHAPTERS",
  "MOST_PARTS",
  "MOST_PAIRS",
  "LAST_LINE"]
def looseM_1 : List Str := ["Edition",
  "check_edition",
  "kept_books",
  "kept_book",
  "kept_chapter",
  "check_counts",
  "kept_lines",
  "lines_of_pair",
  "fewest_pairs",
  "places_in",
  "stretches_of",
  "divided",
  "merged",
  "parts_of_verse",
  "with_verses",
  "_law_cell_at",
  "_law_row",
  "_law_names",
  "_law_books",
  "_law_copy",
  "_law_spots",
  "_law_threads",
  "_law_edition",
  "_law_one",
  "_law_told",
  "_law_alike",
  "_law_divisions",
  "_law_divide",
  "_law_asked",
  "_law_kept"]
def looseM_2 : List Str := ["_law_right"]
def looseM : List Str := looseM_0 ++ looseM_1 ++ looseM_2
def fnM_0 : He.DefD := ⟨("_wall", none), "_wall", "_wall", defArgs s__wall, defBody s__wall, defScope s__wall, [], []⟩
def fnM_1 : He.DefD := ⟨("is_number", none), "is_number", "is_number", defArgs s_is_number, defBody s_is_number, defScope s_is_number, [], []⟩
def fnM_2 : He.DefD := ⟨("is_whole", none), "is_whole", "is_whole", defArgs s_is_whole, defBody s_is_whole, defScope s_is_whole, [], []⟩
def fnM_3 : He.DefD := ⟨("is_name", none), "is_name", "is_name", defArgs s_is_name, defBody s_is_name, defScope s_is_name, [], []⟩
def fnM_4 : He.DefD := ⟨("is_made_of", none), "is_made_of", "is_made_of", defArgs s_is_made_of, defBody s_is_made_of, defScope s_is_made_of, [], []⟩
def fnM_5 : He.DefD := ⟨("is_tuple", none), "is_tuple", "is_tuple", defArgs s_is_tuple, defBody s_is_tuple, defScope s_is_tuple, [], []⟩
def fnM_6 : He.DefD := ⟨("is_row", none), "is_row", "is_row", defArgs s_is_row, defBody s_is_row, defScope s_is_row, [], []⟩
def fnM_7 : He.DefD := ⟨("check_edition", none), "check_edition", "check_edition", defArgs s_check_edition, defBody s_check_edition, defScope s_check_edition, [], []⟩
def fnM_8 : He.DefD := ⟨("kept_books", none), "kept_books", "kept_books", defArgs s_kept_books, defBody s_kept_books, defScope s_kept_books, [], []⟩
def fnM_9 : He.DefD := ⟨("kept_book", none), "kept_book", "kept_book", defArgs s_kept_book, defBody s_kept_book, defScope s_kept_book, [], []⟩
def fnM_10 : He.DefD := ⟨("kept_chapter", none), "kept_chapter", "kept_chapter", defArgs s_kept_chapter, defBody s_kept_chapter, defScope s_kept_chapter, [], []⟩
def fnM_11 : He.DefD := ⟨("check_counts", none), "check_counts", "check_counts", defArgs s_check_counts, defBody s_check_counts, defScope s_check_counts, [], []⟩
def fnM_12 : He.DefD := ⟨("kept_lines", none), "kept_lines", "kept_lines", defArgs s_kept_lines, defBody s_kept_lines, defScope s_kept_lines, [], []⟩
def fnM_13 : He.DefD := ⟨("lines_of_pair", none), "lines_of_pair", "lines_of_pair", defArgs s_lines_of_pair, defBody s_lines_of_pair, defScope s_lines_of_pair, [], []⟩
def fnM_14 : He.DefD := ⟨("fewest_pairs", none), "fewest_pairs", "fewest_pairs", defArgs s_fewest_pairs, defBody s_fewest_pairs, defScope s_fewest_pairs, [], []⟩
def fnM_15 : He.DefD := ⟨("places_in", none), "places_in", "places_in", defArgs s_places_in, defBody s_places_in, defScope s_places_in, [], []⟩
def fnM_16 : He.DefD := ⟨("stretches_of", none), "stretches_of", "stretches_of", defArgs s_stretches_of, defBody s_stretches_of, defScope s_stretches_of, [], []⟩
def fnM_17 : He.DefD := ⟨("merged", none), "merged", "merged", defArgs s_merged, defBody s_merged, defScope s_merged, [], []⟩
def fnM_18 : He.DefD := ⟨("parts_of_verse", none), "parts_of_verse", "parts_of_verse", defArgs s_parts_of_verse, defBody s_parts_of_verse, defScope s_parts_of_verse, [], []⟩
def fnM_19 : He.DefD := ⟨("with_verses", none), "with_verses", "with_verses", defArgs s_with_verses, defBody s_with_verses, defScope s_with_verses, [], []⟩
def fnM_20 : He.DefD := ⟨("_law_cell_at", none), "_law_cell_at", "_law_cell_at", defArgs s__law_cell_at, defBody s__law_cell_at, defScope s__law_cell_at, [], []⟩
def fnM_21 : He.DefD := ⟨("_law_row", none), "_law_row", "_law_row", defArgs s__law_row, defBody s__law_row, defScope s__law_row, [], []⟩
def fnM_22 : He.DefD := ⟨("_law_names", none), "_law_names", "_law_names", defArgs s__law_names, defBody s__law_names, defScope s__law_names, [], []⟩
def fnM_23 : He.DefD := ⟨("_law_books", none), "_law_books", "_law_books", defArgs s__law_books, defBody s__law_books, defScope s__law_books, [], []⟩
def fnM_24 : He.DefD := ⟨("_law_copy", none), "_law_copy", "_law_copy", defArgs s__law_copy, defBody s__law_copy, defScope s__law_copy, [], []⟩
def fnM_25 : He.DefD := ⟨("_law_spots", none), "_law_spots", "_law_spots", defArgs s__law_spots, defBody s__law_spots, defScope s__law_spots, [], []⟩
def fnM_26 : He.DefD := ⟨("_law_threads", none), "_law_threads", "_law_threads", defArgs s__law_threads, defBody s__law_threads, defScope s__law_threads, [], []⟩
def fnM_27 : He.DefD := ⟨("_law_edition", none), "_law_edition", "_law_edition", defArgs s__law_edition, defBody s__law_edition, defScope s__law_edition, [], []⟩
def fnM_28 : He.DefD := ⟨("_law_one", none), "_law_one", "_law_one", defArgs s__law_one, defBody s__law_one, defScope s__law_one, [], []⟩
def fnM_29 : He.DefD := ⟨("_law_told", none), "_law_told", "_law_told", defArgs s__law_told, defBody s__law_told, defScope s__law_told, [], []⟩
def fnM_30 : He.DefD := ⟨("_law_alike", none), "_law_alike", "_law_alike", defArgs s__law_alike, defBody s__law_alike, defScope s__law_alike, [], []⟩
def fnM_31 : He.DefD := ⟨("_law_divisions", none), "_law_divisions", "_law_divisions", defArgs s__law_divisions, defBody s__law_divisions, defScope s__law_divisions, [], []⟩
def fnM_32 : He.DefD := ⟨("_law_divide", none), "_law_divide", "_law_divide", defArgs s__law_divide, defBody s__law_divide, defScope s__law_divide, [], []⟩
def fnM_33 : He.DefD := ⟨("_law_asked", none), "_law_asked", "_law_asked", defArgs s__law_asked, defBody s__law_asked, defScope s__law_asked, [], []⟩
def fnM_34 : He.DefD := ⟨("_law_kept", none), "_law_kept", "_law_kept", defArgs s__law_kept, defBody s__law_kept, defScope s__law_kept, [], []⟩
def fnM_35 : He.DefD := ⟨("_law_right", none), "_law_right", "_law_right", defArgs s__law_right, defBody s__law_right, defScope s__law_right, [], []⟩
def fnM_36 : He.DefD := ⟨("law", none), "law", "law", defArgs s_law, defBody s_law, defScope s_law, [], []⟩
def fnM_37 : He.DefD := ⟨("divided", none), "divided", "divided", defArgs s_divided, defBody s_divided, defScope s_divided, [.int 1], []⟩
def fnM_38 : He.DefD := ⟨("Edition", some "__init__"), "__init__", "Edition.__init__", defArgs s_Edition___init__, defBody s_Edition___init__, defScope s_Edition___init__, [.non], []⟩
def fnM_39 : He.DefD := ⟨("Edition", some "size"), "size", "Edition.size", defArgs s_Edition_size, defBody s_Edition_size, defScope s_Edition_size, [], []⟩
def fnM_40 : He.DefD := ⟨("Edition", some "lines"), "lines", "Edition.lines", defArgs s_Edition_lines, defBody s_Edition_lines, defScope s_Edition_lines, [], []⟩
def fnM_41 : He.DefD := ⟨("Edition", some "_check_number"), "_check_number", "Edition._check_number", defArgs s_Edition__check_number, defBody s_Edition__check_number, defScope s_Edition__check_number, [], []⟩
def fnM_42 : He.DefD := ⟨("Edition", some "line_at"), "line_at", "Edition.line_at", defArgs s_Edition_line_at, defBody s_Edition_line_at, defScope s_Edition_line_at, [], []⟩
def fnM_43 : He.DefD := ⟨("Edition", some "part_of"), "part_of", "Edition.part_of", defArgs s_Edition_part_of, defBody s_Edition_part_of, defScope s_Edition_part_of, [], []⟩
def fnM_44 : He.DefD := ⟨("Edition", some "told"), "told", "Edition.told", defArgs s_Edition_told, defBody s_Edition_told, defScope s_Edition_told, [], []⟩
def fnM_45 : He.DefD := ⟨("Edition", some "same"), "same", "Edition.same", defArgs s_Edition_same, defBody s_Edition_same, defScope s_Edition_same, [], []⟩
def fnM_46 : He.DefD := ⟨("Edition", some "_book"), "_book", "Edition._book", defArgs s_Edition__book, defBody s_Edition__book, defScope s_Edition__book, [], []⟩
def fnM_47 : He.DefD := ⟨("Edition", some "_chapter"), "_chapter", "Edition._chapter", defArgs s_Edition__chapter, defBody s_Edition__chapter, defScope s_Edition__chapter, [], []⟩
def fnM_48 : He.DefD := ⟨("Edition", some "parts"), "parts", "Edition.parts", defArgs s_Edition_parts, defBody s_Edition_parts, defScope s_Edition_parts, [], []⟩
def fnM_49 : He.DefD := ⟨("Edition", some "verses"), "verses", "Edition.verses", defArgs s_Edition_verses, defBody s_Edition_verses, defScope s_Edition_verses, [], []⟩
def fsM0_0 : List Fct := [fun K => He.eqO (PySem.W.nsIn K mainGlobals "_wall") (some (some (.ref (He.ga K "_wall")))),
  fun K => He.eqO (PySem.W.nsIn K mainGlobals "is_number") (some (some (.ref (He.ga K "is_number")))),
  fun K => He.eqO (PySem.W.nsIn K mainGlobals "is_whole") (some (some (.ref (He.ga K "is_whole")))),
  fun K => He.eqO (PySem.W.nsIn K mainGlobals "is_name") (some (some (.ref (He.ga K "is_name")))),
  fun K => He.eqO (PySem.W.nsIn K mainGlobals "is_made_of") (some (some (.ref (He.ga K "is_made_of")))),
  fun K => He.eqO (PySem.W.nsIn K mainGlobals "is_tuple") (some (some (.ref (He.ga K "is_tuple")))),
  fun K => He.eqO (PySem.W.nsIn K mainGlobals "is_row") (some (some (.ref (He.ga K "is_row")))),
  fun K => He.eqO (PySem.W.nsIn K mainGlobals "check_edition") (some (some (.ref (He.ga K "check_edition")))),
  fun K => He.eqO (PySem.W.nsIn K mainGlobals "kept_books") (some (some (.ref (He.ga K "kept_books")))),
  fun K => He.eqO (PySem.W.nsIn K mainGlobals "kept_book") (some (some (.ref (He.ga K "kept_book")))),
  fun K => He.eqO (PySem.W.nsIn K mainGlobals "kept_chapter") (some (some (.ref (He.ga K "kept_chapter")))),
  fun K => He.eqO (PySem.W.nsIn K mainGlobals "check_counts") (some (some (.ref (He.ga K "check_counts")))),
  fun K => He.eqO (PySem.W.nsIn K mainGlobals "kept_lines") (some (some (.ref (He.ga K "kept_lines")))),
  fun K => He.eqO (PySem.W.nsIn K mainGlobals "lines_of_pair") (some (some (.ref (He.ga K "lines_of_pair")))),
  fun K => He.eqO (PySem.W.nsIn K mainGlobals "fewest_pairs") (some (some (.ref (He.ga K "fewest_pairs")))),
  fun K => He.eqO (PySem.W.nsIn K mainGlobals "places_in") (some (some (.ref (He.ga K "places_in")))),
  fun K => He.eqO (PySem.W.nsIn K mainGlobals "stretches_of") (some (some (.ref (He.ga K "stretches_of")))),
  fun K => He.eqO (PySem.W.nsIn K mainGlobals "merged") (some (some (.ref (He.ga K "merged")))),
  fun K => He.eqO (PySem.W.nsIn K mainGlobals "parts_of_verse") (some (some (.ref (He.ga K "parts_of_verse")))),
  fun K => He.eqO (PySem.W.nsIn K mainGlobals "with_verses") (some (some (.ref (He.ga K "with_verses")))),
  fun K => He.eqO (PySem.W.nsIn K mainGlobals "_law_cell_at") (some (some (.ref (He.ga K "_law_cell_at")))),
  fun K => He.eqO (PySem.W.nsIn K mainGlobals "_law_row") (some (some (.ref (He.ga K "_law_row")))),
  fun K => He.eqO (PySem.W.nsIn K mainGlobals "_law_names") (some (some (.ref (He.ga K "_law_names")))),
  fun K => He.eqO (PySem.W.nsIn K mainGlobals "_law_books") (some (some (.ref (He.ga K "_law_books")))),
  fun K => He.eqO (PySem.W.nsIn K mainGlobals "_law_copy") (some (some (.ref (He.ga K "_law_copy")))),
  fun K => He.eqO (PySem.W.nsIn K mainGlobals "_law_spots") (some (some (.ref (He.ga K "_law_spots")))),
  fun K => He.eqO (PySem.W.nsIn K mainGlobals "_law_threads") (some (some (.ref (He.ga K "_law_threads")))),
  fun K => He.eqO (PySem.W.nsIn K mainGlobals "_law_edition") (some (some (.ref (He.ga K "_law_edition")))),
  fun K => He.eqO (PySem.W.nsIn K mainGlobals "_law_one") (some (some (.ref (He.ga K "_law_one")))),
  fun K => He.eqO (PySem.W.nsIn K mainGlobals "_law_told") (some (some (.ref (He.ga K "_law_told"))))]
def fsM0_1 : List Fct := [fun K => He.eqO (PySem.W.nsIn K mainGlobals "_law_alike") (some (some (.ref (He.ga K "_law_alike")))),
  fun K => He.eqO (PySem.W.nsIn K mainGlobals "_law_divisions") (some (some (.ref (He.ga K "_law_divisions")))),
  fun K => He.eqO (PySem.W.nsIn K mainGlobals "_law_divide") (some (some (.ref (He.ga K "_law_divide")))),
  fun K => He.eqO (PySem.W.nsIn K mainGlobals "_law_asked") (some (some (.ref (He.ga K "_law_asked")))),
  fun K => He.eqO (PySem.W.nsIn K mainGlobals "_law_kept") (some (some (.ref (He.ga K "_law_kept")))),
  fun K => He.eqO (PySem.W.nsIn K mainGlobals "_law_right") (some (some (.ref (He.ga K "_law_right")))),
  fun K => He.eqO (PySem.W.nsIn K mainGlobals "law") (some (some (.ref (He.ga K "law")))),
  fun K => He.eqO (PySem.W.nsIn K mainGlobals "divided") (some (some (.ref (He.ga K "divided")))),
  fun K => He.eqO (PySem.W.nsIn K mainGlobals "LookupError") (some none),
  fun K => He.eqO (PySem.W.nsIn K mainGlobals "ValueError") (some none),
  fun K => He.eqO (PySem.W.nsIn K mainGlobals "abs") (some none),
  fun K => He.eqO (PySem.W.nsIn K mainGlobals "all") (some none),
  fun K => He.eqO (PySem.W.nsIn K mainGlobals "bool") (some none),
  fun K => He.eqO (PySem.W.nsIn K mainGlobals "enumerate") (some none),
  fun K => He.eqO (PySem.W.nsIn K mainGlobals "int") (some none),
  fun K => He.eqO (PySem.W.nsIn K mainGlobals "isinstance") (some none),
  fun K => He.eqO (PySem.W.nsIn K mainGlobals "len") (some none),
  fun K => He.eqO (PySem.W.nsIn K mainGlobals "list") (some none),
  fun K => He.eqO (PySem.W.nsIn K mainGlobals "range") (some none),
  fun K => He.eqO (PySem.W.nsIn K mainGlobals "str") (some none),
  fun K => He.eqO (PySem.W.nsIn K mainGlobals "sum") (some none),
  fun K => He.eqO (PySem.W.nsIn K mainGlobals "tuple") (some none),
  intF "LAST_LINE" 9999,
  intF "LONGEST_NAME" 6,
  intF "MOST_BOOKS" 6,
  intF "MOST_BOOK_CHAPTERS" 12,
  intF "MOST_CHAPTERS" 40,
  intF "MOST_PAIRS" 400,
  intF "MOST_PARTS" 400,
  intF "MOST_VERSES" 30]
def fsM0_2 : List Fct := [intF "MOST_VERSE_PARTS" 4,
  strF "SMALL_LETTERS" "abcdefghijklmnopqrstuvwxyz",
  fun K => He.eqO (PySem.W.nsIn K mainGlobals "Edition") (some (some (.ref (He.ga K "Edition")))),
  fun K => He.eqO (PySem.W.findIn K (.ref (He.ga K "Edition")) "__init__") (some (some (.ref (He.ma K (He.ga K "Edition") "__init__")))),
  fun K => PySem.W.isFn K (.ref (He.ma K (He.ga K "Edition") "__init__")),
  fun K => PySem.W.makesIn K (He.ga K "Edition"),
  fun K => PySem.W.keepIn K (.ref (He.ga K "Edition")),
  fun K => PySem.W.plainGet K (He.ga K "Edition") Str.empty,
  fun K => PySem.W.hasDictIn K (He.ga K "Edition"),
  fun K => PySem.W.plainOver K (He.ga K "Edition"),
  fun K => He.eqO (PySem.W.findIn K (.ref (He.ga K "Edition")) "__setattr__") (some (some (.builtin "object.__setattr__"))),
  fun K => He.eqO (PySem.W.findIn K (.ref (He.ga K "Edition")) "_books") (some none),
  fun K => He.eqO (PySem.W.findIn K (.ref (He.ga K "Edition")) "_chapters") (some none),
  fun K => He.eqO (PySem.W.findIn K (.ref (He.ga K "Edition")) "_places") (some none),
  fun K => He.eqO (PySem.W.findIn K (.ref (He.ga K "Edition")) "_stretches") (some none),
  fun K => He.eqO (PySem.W.findIn K (.ref (He.ga K "Edition")) "_lines") (some none),
  fun K => He.eqO (PySem.W.findIn K (.ref (He.ga K "Edition")) "_numbers") (some none),
  fun K => He.eqO (PySem.W.findIn K (.ref (He.ga K "Edition")) "_told") (some none),
  fun K => He.eqO (PySem.W.findIn K (.ref (He.ga K "Edition")) "__class__") (some (some (.builtin "object.__class__"))),
  fun K => He.eqO (PySem.W.specialIn K (.builtin "object.__class__") "__get__") (some (some (.builtin "getset_descriptor.__get__"))),
  fun K => decide (PySem.W.takesIn K (.builtin "object.__class__") = some true),
  fun K => decide (PySem.W.mroIn K (He.ga K "Edition") (.type "object") = some true),
  fun K => decide (PySem.W.subIn K (.ref (He.ga K "Edition")) (.type "int") = some false),
  fun K => decide (PySem.W.subIn K (.ref (He.ga K "Edition")) (.type "bool") = some false),
  fun K => decide (PySem.W.subIn K (.ref (He.ga K "Edition")) (.type "str") = some false),
  fun K => He.eqO (PySem.W.findIn K (.ref (He.ga K "Edition")) "size") (some (some (.ref (He.ma K (He.ga K "Edition") "size")))),
  fun K => PySem.W.isFn K (.ref (He.ma K (He.ga K "Edition") "size")),
  fun K => He.eqO (PySem.W.findIn K (.ref (He.ga K "Edition")) "lines") (some (some (.ref (He.ma K (He.ga K "Edition") "lines")))),
  fun K => PySem.W.isFn K (.ref (He.ma K (He.ga K "Edition") "lines")),
  fun K => He.eqO (PySem.W.findIn K (.ref (He.ga K "Edition")) "_check_number") (some (some (.ref (He.ma K (He.ga K "Edition") "_check_number"))))]
def fsM0_3 : List Fct := [fun K => PySem.W.isFn K (.ref (He.ma K (He.ga K "Edition") "_check_number")),
  fun K => He.eqO (PySem.W.findIn K (.ref (He.ga K "Edition")) "line_at") (some (some (.ref (He.ma K (He.ga K "Edition") "line_at")))),
  fun K => PySem.W.isFn K (.ref (He.ma K (He.ga K "Edition") "line_at")),
  fun K => He.eqO (PySem.W.findIn K (.ref (He.ga K "Edition")) "part_of") (some (some (.ref (He.ma K (He.ga K "Edition") "part_of")))),
  fun K => PySem.W.isFn K (.ref (He.ma K (He.ga K "Edition") "part_of")),
  fun K => He.eqO (PySem.W.findIn K (.ref (He.ga K "Edition")) "told") (some (some (.ref (He.ma K (He.ga K "Edition") "told")))),
  fun K => PySem.W.isFn K (.ref (He.ma K (He.ga K "Edition") "told")),
  fun K => He.eqO (PySem.W.findIn K (.ref (He.ga K "Edition")) "same") (some (some (.ref (He.ma K (He.ga K "Edition") "same")))),
  fun K => PySem.W.isFn K (.ref (He.ma K (He.ga K "Edition") "same")),
  fun K => He.eqO (PySem.W.findIn K (.ref (He.ga K "Edition")) "_book") (some (some (.ref (He.ma K (He.ga K "Edition") "_book")))),
  fun K => PySem.W.isFn K (.ref (He.ma K (He.ga K "Edition") "_book")),
  fun K => He.eqO (PySem.W.findIn K (.ref (He.ga K "Edition")) "_chapter") (some (some (.ref (He.ma K (He.ga K "Edition") "_chapter")))),
  fun K => PySem.W.isFn K (.ref (He.ma K (He.ga K "Edition") "_chapter")),
  fun K => He.eqO (PySem.W.findIn K (.ref (He.ga K "Edition")) "parts") (some (some (.ref (He.ma K (He.ga K "Edition") "parts")))),
  fun K => PySem.W.isFn K (.ref (He.ma K (He.ga K "Edition") "parts")),
  fun K => He.eqO (PySem.W.findIn K (.ref (He.ga K "Edition")) "verses") (some (some (.ref (He.ma K (He.ga K "Edition") "verses")))),
  fun K => PySem.W.isFn K (.ref (He.ma K (He.ga K "Edition") "verses")),
  fun K => He.eqO (PySem.W.specialIn K (.ref (He.ma K (He.ga K "Edition") "parts")) "__get__") (some (some (.builtin "function.__get__"))),
  fun K => decide (PySem.W.takesIn K (.ref (He.ma K (He.ga K "Edition") "parts")) = some false),
  fun K => PySem.W.fnIn K (He.ma K (He.ga K "Edition") "parts")]
def fsM0 : List Fct := fsM0_0 ++ fsM0_1 ++ fsM0_2 ++ fsM0_3
def fnsM1 : List He.DefD := [fnM_0, fnM_1, fnM_2, fnM_3, fnM_4, fnM_5, fnM_6, fnM_7, fnM_8, fnM_9, fnM_10, fnM_11, fnM_12, fnM_13, fnM_14, fnM_15, fnM_16, fnM_17, fnM_18, fnM_19, fnM_20, fnM_21, fnM_22, fnM_23, fnM_24, fnM_25, fnM_26, fnM_27, fnM_28, fnM_29, fnM_30, fnM_31, fnM_32, fnM_33, fnM_34, fnM_35, fnM_36, fnM_37, fnM_38, fnM_39, fnM_40, fnM_41, fnM_42, fnM_43, fnM_44, fnM_45, fnM_46, fnM_47, fnM_48, fnM_49]
def psM : List (List Fct × List He.DefD) := [(fsM0, []), ([], fnsM1)]
abbrev RM : PySem.W.OpenRow := PySem.W.OpenLaw.row PySem.Challenge.rw_bookplaces_k37_divided_and_merged
abbrev hkM : PySem.W.Hook := hookL 4 psM
def obM (s : PySem.W.SharedT) : List AlM := obsLG 4 psM (HandSHeadRun.getT s)
theorem obM_eq (s : PySem.W.SharedT) : obM s = hkM.obs s.abs := obsLG_eq (HandSHeadRun.getT_eq s)
section
open PySem.W PySem.Calls
theorem runA (w : World) (os : OsState) : (HandSHeadRun.endF (HandSHeadRun.stepQ (HandSHeadRun.denQ HandSHeadRun.tabQ) RM.prog w) 40000 RM.prog w os).map (fun s => HandSHeadRun.looksF RM.prog (boot_heap w.params) s.abs) = some true := by
  kernel_rfl
theorem runB (w : World) (os : OsState) : (HandSHeadRun.endF (HandSHeadRun.stepQ (HandSHeadRun.denQ HandSHeadRun.tabQ) RM.prog w) 40000 RM.prog w os).map (fun s => HandSHeadRun.seenQ (PySem.W.view RM.prog [66]) looseM (importedModules RM.prog.main.body) (fun s => xlAt (PySem.W.view RM.prog [66]) [] s && recOk RM.toRowW.records s) s.abs) = some (openGood (PySem.W.view RM.prog [66]) looseM) := by
  kernel_rfl
theorem runC0 (w : World) (os : OsState) : (HandSHeadRun.endF (HandSHeadRun.stepQ (HandSHeadRun.denQ HandSHeadRun.tabQ) RM.prog w) 40000 RM.prog w os).map (fun s => obsMG 4 fsM0 [] (HandSHeadRun.getT s)) = some (valM []) := by
  kernel_rfl
theorem runC1 (w : World) (os : OsState) : (HandSHeadRun.endF (HandSHeadRun.stepQ (HandSHeadRun.denQ HandSHeadRun.tabQ) RM.prog w) 40000 RM.prog w os).map (fun s => obsMG 4 [] fnsM1 (HandSHeadRun.getT s)) = some (valM fnsM1) := by
  kernel_rfl
end
theorem runM (w : World) : HandSHeadRun.RunEq RM (PySem.W.view RM.prog [66]) hkM obM 40000 looseM w := run_parts (runA w) (runB w) (by
  intro p hp
  unfold psM at hp
  simp only [List.mem_cons, List.not_mem_nil, or_false] at hp
  rcases hp with rfl | rfl
  · exact runC0 w
  · exact runC1 w)
theorem saysM0 {K : PySem.W.Frag} (c : ∀ p ∈ psM, SaysM p.1 p.2 K) : SaysM fsM0 [] K := c _ (by unfold psM; exact List.mem_of_getElem? (i := 0) rfl)
theorem saysM1 {K : PySem.W.Frag} (c : ∀ p ∈ psM, SaysM p.1 p.2 K) : SaysM [] fnsM1 K := c _ (by unfold psM; exact List.mem_of_getElem? (i := 1) rfl)
end My
set_option Elab.async false
set_option linter.all false
set_option maxRecDepth 100000
set_option maxHeartbeats 4000000
namespace My
open PySem PySem.Spec PyProof.Rows L2
def isNum : V → Bool
  | .int _ => true
  | _ => false
def sp_num (K : PySem.W.Frag) : Sp := fun vs H Q _ => ∃ x : V, vs = [x] ∧ Th K H x ∧ Q (.bl (isNum x)) H
def sp_isTup : Sp := fun vs H Q _ => ∃ (a : Addr) (xs : List V) (lo hi : Int), vs = [.ref a, .int lo, .int hi] ∧ H a = some (.tup xs) ∧ Q (.bl (decide (lo ≤ (xs.length : Int)) && decide ((xs.length : Int) ≤ hi))) H
def sp_isRow : Sp := fun vs H Q _ => ∃ (a : Addr) (xs : List V) (lo hi : Int), vs = [.ref a, .int lo, .int hi] ∧ Rw H a xs ∧ ∀ H', Same H H' → Q (.bl (decide (lo ≤ (xs.length : Int)) && decide ((xs.length : Int) ≤ hi))) H'
section
variable {P : Program} {w : World} {K : PySem.W.Frag} {mg : Str → Option Value} {base : Heap}
theorem ok_isNum (T : Txt K mg) (D : Df K mg "is_number" s_is_number ["thing"]) : Cl P w K mg base 1 "is_number" ["thing"] (sp_num K) := by
  refine ok_of D sc_is_number (fun vs H Q E h => ?_) (fun f cdv A outer s H vs Q E hr h => ?_)
  · obtain ⟨x, rfl, _⟩ := h
    rfl
  · obtain ⟨x, rfl, hx, q⟩ := h
    refine ⟨_, (pss_one (ps_ret (pe_and (pe_callB call_isb (by rfl) T.b_isinstance (by decide +kernel) (pa_cons (pv 0) (pa_cons (pe_bltn (v := .ty "int") (u := .type "int") (by rfl) T.b_int (by decide +kernel) rfl) pa_nil))) (pe_one (pe_not (pe_callB call_isb (by rfl) T.b_isinstance (by decide +kernel) (pa_cons (pv 0) (pa_cons (pe_bltn (v := .ty "bool") (u := .type "bool") (by rfl) T.b_bool (by decide +kernel) rfl) pa_nil)))))))), ?_⟩
    refine ⟨x, rfl, hx.int? ⟨_, rfl, ite2 (fun e => ?_) (fun e => ?_)⟩⟩
    · refine ⟨x, rfl, hx.bl? ⟨_, rfl, ?_⟩⟩
      have e2 : isNum x = !vBl x := by
        cases x with
        | int i => rfl
        | bl b => rfl
        | _ => exact absurd e Bool.false_ne_true
      exact e2 ▸ q
    · have e2 : isNum x = false := by
        cases x with
        | int i => exact absurd rfl e
        | _ => rfl
      exact e2 ▸ q
theorem ok_whole (T : Txt K mg) (c_is_number : Cl P w K mg base 1 "is_number" ["thing"] (sp_num K)) (D : Df K mg "is_whole" s_is_whole ["thing", "low", "high"]) : Cl P w K mg base 2 "is_whole" ["thing", "low", "high"] (sp_whole K) := by
  refine ok_of D sc_is_whole (fun vs H Q E h => ?_) (fun f cdv A outer s H vs Q E hr h => ?_)
  · obtain ⟨p, n, z, rfl, _⟩ := h
    rfl
  · obtain ⟨x, lo, hi, rfl, hx, q⟩ := h
    refine ⟨_, (pss_one (ps_ret (pe_and (pe_cl c_is_number hr (by decide) (by rfl) (pa_cons (pv 0) pa_nil)) (pe_one (pe_chain op_le op_le (pv 1) (pv 0) (pv 2)))))), ?_⟩
    have qf : whole x lo hi = false → Q (.bl false) H := fun e => e ▸ q
    refine ⟨x, rfl, x, rfl, hx, _, rfl, ite2 (fun e => ?_) (fun e => ?_)⟩
    · cases x with
      | int i =>
        refine ⟨.int lo, rfl, .int i, rfl, lo, i, rfl, rfl, _, rfl, ite2 (fun e3 => ?_) (fun e3 => ?_)⟩
        · refine ⟨.int hi, rfl, i, hi, rfl, rfl, ?_⟩
          have e4 : whole (.int i) lo hi = decide (i ≤ hi) := by
            show (decide (lo ≤ i) && decide (i ≤ hi)) = _
            rw [e3, Bool.true_and]
          show Q (.bl (decide (i ≤ hi))) H
          rw [← e4]
          exact q
        · refine qf ?_
          show (decide (lo ≤ i) && decide (i ≤ hi)) = _
          rw [Bool.eq_false_iff.mpr e3, Bool.false_and]
      | _ => exact absurd e Bool.false_ne_true
    · refine qf ?_
      cases x with
      | int i => exact absurd rfl e
      | _ => rfl
theorem ok_made (T : Txt K mg) (D : Df K mg "is_made_of" s_is_made_of ["thing", "signs", "most"]) : Cl P w K mg base 2 "is_made_of" ["thing", "signs", "most"] (sp_made K) := by
  refine ok_of D sc_is_made_of (fun vs H Q E h => ?_) (fun f cdv A outer s H vs Q E hr h => ?_)
  · obtain ⟨x, rfl, _⟩ := h
    rfl
  · obtain ⟨x, rfl, hx, q⟩ := h
    refine ⟨_, (pss_one (ps_ret (pe_and (pe_callB call_isb (by rfl) T.b_isinstance (by decide +kernel) (pa_cons (pv 0) (pa_cons (pe_bltn (v := .ty "str") (u := .type "str") (by rfl) T.b_str (by decide +kernel) rfl) pa_nil))) (pe_and (pe_chain op_le op_le pe_int (pe_callB call_len (by rfl) T.b_len (by decide +kernel) (pa_cons (pv 0) pa_nil)) (pv 2)) (pe_one (pe_callB (cr_all rfl) (by rfl) T.b_all (by decide +kernel) (pa_cons (pe_lc (own := [("sign", 3)]) rfl sc_is_made_of.nd (pi_str (pv 0)) (blkOk_by (own := [("sign", 3)]) (N := N_is_made_of) (sc := defScope s_is_made_of) (by decide +kernel)) (fun _ _ _ _ _ => (pg_name (i := 3) sc_is_made_of.nd rfl (.inl rfl))) (fun _ _ _ _ _ => pts_nil) (fun _ _ _ _ _ => (pe_cmpR op_in_sign (pv 3) (pv 1) rfl))) pa_nil))))))), ?_⟩
    have qf : ∀ H', Same H H' → nameV x = false → Q (.bl false) H' := fun H' s e => e ▸ q H' s
    refine ⟨x, rfl, hx.str? ⟨_, rfl, ite2 (fun e => ?_) (fun e => ?_)⟩⟩
    · obtain ⟨l, rfl, hl, ha⟩ := hx.str_of e
      refine ⟨.str (SX.S l), rfl, _, _, rfl, ⟨S_le hl, rfl⟩, 1, _, rfl, rfl, _, rfl, ite2 (fun e2 => ?_) (fun e2 => ?_)⟩
      · have f2 := of_decide_eq_true e2
        rw [SX.S_len] at f2
        refine ⟨.int 6, rfl, _, 6, rfl, rfl, _, rfl, ite2 (fun e3 => ?_) (fun e3 => ?_)⟩
        · have f3 := of_decide_eq_true e3
          rw [SX.S_len] at f3
          refine ⟨.str (SX.S l), rfl, _, rfl, fun Dl hDl => ?_⟩
          refine lc_it walk_str (fun i H' => Same H H' ∧ H' Dl = some (.lst ((l.take i).map fun c => .bl (decide (c ∈ letters26))))) ⟨same_new hDl, upd_same⟩ (fun _ _ _ _ => trivial) ?_ ?_
          · rintro i x H1 H2 hi ⟨hs, hD⟩ ⟨rfl, c, hc, rfl⟩
            refine ⟨rfl, .str ⟨#[c]⟩, rfl, .str "abcdefghijklmnopqrstuvwxyz", rfl, c, _, rfl, rfl, _, hD, ?_, ?_, ?_⟩
            · rw [List.length_map, List.length_take]
              exact Evl.sz_lt (by omega)
            · exact fun b o e => by
                rw [upd_ne (ne_of_none e hDl)]
                exact hs b o e
            · have hc' : l[i]? = some c := by
                rw [← hc]
                simp
              rw [upd_same, List.take_add_one, hc', List.map_append]
              rfl
          · rintro H1 ⟨hs, hD⟩
            have hsz : (SX.S l).cps.size = l.length := SX.S_len l
            rw [hsz, List.take_length] at hD
            refine ⟨Dl, l.map fun c => decide (c ∈ letters26), rfl, .inl (.inl (by rw [hD, List.map_map]; rfl)), ?_⟩
            have e5 : nameV (.str (SX.S l)) = (l.map fun c => decide (c ∈ letters26)).all id := by
              rw [nameV_S]
              unfold nameL
              rw [decide_eq_true (by omega), decide_eq_true (by omega), List.all_map]
              rfl
            exact e5 ▸ q H1 hs
        · refine qf H (Same.refl H) ?_
          rw [nameV_S]
          unfold nameL
          have f3 : ¬ l.length ≤ 6 := fun z => e3 (decide_eq_true (by rw [SX.S_len]; omega))
          rw [decide_eq_false f3, Bool.and_false, Bool.false_and]
      · refine ⟨_, rfl, ite2 (fun z => absurd z (by decide)) fun _ => qf H (Same.refl H) ?_⟩
        rw [nameV_S]
        unfold nameL
        have f3 : ¬ 1 ≤ l.length := fun z => e2 (decide_eq_true (by rw [SX.S_len]; omega))
        rw [decide_eq_false f3, Bool.false_and, Bool.false_and]
    · exact qf H (Same.refl H) (nameV_no e)
theorem ok_name (T : Txt K mg) (c_is_made_of : Cl P w K mg base 2 "is_made_of" ["thing", "signs", "most"] (sp_made K)) (D : Df K mg "is_name" s_is_name ["thing"]) : Cl P w K mg base 3 "is_name" ["thing"] (sp_name K) := by
  refine ok_of D sc_is_name (fun vs H Q E h => ?_) (fun f cdv A outer s H vs Q E hr h => ?_)
  · obtain ⟨x, rfl, _⟩ := h
    rfl
  · obtain ⟨x, rfl, hx, q⟩ := h
    refine ⟨_, (pss_one (ps_ret (pe_cl c_is_made_of hr (by decide) (by rfl) (pa_cons (pv 0) (pa_cons (C8.pe_gc (by rfl) T.g_SMALL_LETTERS) (pa_cons (C8.pe_gc (by rfl) T.g_LONGEST_NAME) pa_nil)))))), ?_⟩
    exact ⟨x, rfl, x, rfl, hx, q⟩
theorem ok_isTup (T : Txt K mg) (D : Df K mg "is_tuple" s_is_tuple ["thing", "fewest", "most"]) : Cl P w K mg base 2 "is_tuple" ["thing", "fewest", "most"] sp_isTup := by
  refine ok_of D sc_is_tuple (fun vs H Q E h => ?_) (fun f cdv A outer s H vs Q E hr h => ?_)
  · obtain ⟨a, xs, lo, hi, rfl, _⟩ := h
    rfl
  · obtain ⟨a, xs, lo, hi, rfl, ha, q⟩ := h
    refine ⟨_, (pss_one (ps_ret (pe_and (pe_callB call_isb (by rfl) T.b_isinstance (by decide +kernel) (pa_cons (pv 0) (pa_cons (pe_bltn (v := .ty "tuple") (u := .type "tuple") (by rfl) T.b_tuple (by decide +kernel) rfl) pa_nil))) (pe_one (pe_chain op_le op_le (pv 1) (pe_callB call_len (by rfl) T.b_len (by decide +kernel) (pa_cons (pv 0) pa_nil)) (pv 2)))))), ?_⟩
    refine ⟨.ref a, rfl, isi_b (b := true) (.tup ha) (by decide +kernel) ⟨_, rfl, ite2 (fun _ => ?_) (fun z => absurd rfl z)⟩⟩
    refine ⟨.int lo, rfl, .ref a, rfl, _, _, rfl, .inr ⟨_, .inl (.inl ha), rfl⟩, lo, _, rfl, rfl, _, rfl, ite2 (fun e => ?_) (fun e => ?_)⟩
    · refine ⟨.int hi, rfl, _, _, rfl, rfl, ?_⟩
      rw [e, Bool.true_and] at q
      exact q
    · rw [Bool.eq_false_iff.mpr e, Bool.false_and] at q
      exact q
theorem ok_isRow (T : Txt K mg) (D : Df K mg "is_row" s_is_row ["thing", "fewest", "most"]) : Cl P w K mg base 2 "is_row" ["thing", "fewest", "most"] sp_isRow := by
  refine ok_of D sc_is_row (fun vs H Q E h => ?_) (fun f cdv A outer s H vs Q E hr h => ?_)
  · obtain ⟨a, xs, lo, hi, rfl, _⟩ := h
    rfl
  · obtain ⟨a, xs, lo, hi, rfl, ha, q⟩ := h
    refine ⟨_, (pss_one (ps_ret (pe_and (pe_callB call_isiT (by rfl) T.b_isinstance (by decide +kernel) (pa_cons (pv 0) (pa_cons (pe_tup (pa_cons (pe_bltn (v := .ty "list") (u := .type "list") (by rfl) T.b_list (by decide +kernel) rfl) (pa_cons (pe_bltn (v := .ty "tuple") (u := .type "tuple") (by rfl) T.b_tuple (by decide +kernel) rfl) pa_nil))) pa_nil))) (pe_one (pe_chain op_le op_le (pv 1) (pe_callB call_len (by rfl) T.b_len (by decide +kernel) (pa_cons (pv 0) pa_nil)) (pv 2)))))), ?_⟩
    refine ⟨.ref a, rfl, by show 2 ≤ sizeLine; decide, fun t ht => ?_⟩
    have S1 := same_new (o := .tup [.ty "list", .ty "tuple"]) ht
    obtain ⟨ty, h1, h2⟩ := row_kit (K := K) (ha.same S1)
    refine ⟨.ref a, t, _, ty, _, true, rfl, upd_same, two_ty, h1, h2, _, rfl, ite2 (fun _ => ?_) (fun z => absurd rfl z)⟩
    refine ⟨.int lo, rfl, .ref a, rfl, ?_⟩
    obtain ⟨b, hq⟩ := (ha.same S1).sq (K := K)
    refine ⟨_, _, rfl, hq.lenV, lo, _, rfl, rfl, _, rfl, ite2 (fun e => ?_) (fun e => ?_)⟩
    · refine ⟨.int hi, rfl, _, _, rfl, rfl, ?_⟩
      have q := q _ S1
      rw [e, Bool.true_and] at q
      exact q
    · have q := q _ S1
      rw [Bool.eq_false_iff.mpr e, Bool.false_and] at q
      exact q
end
end My
set_option Elab.async false
set_option linter.all false
set_option maxRecDepth 100000
set_option maxHeartbeats 4000000
namespace My
open PySem PySem.Spec PyProof.Rows L2
def sp_keptCh : Sp := fun vs H Q _ => ∃ (S : Av) (v : V) (c : List Int), vs = [v] ∧ Occ S H ∧ ChIn S H v c ∧ okRow c ∧ ∀ v' H', Same H H' → At S H' v' (chD c) → Q v' H'
section
variable {P : Program} {w : World} {K : PySem.W.Frag} {mg : Str → Option Value} {base : Heap}
theorem ok_keptCh (T : Txt K mg) (c_is_whole : Cl P w K mg base 2 "is_whole" ["thing", "low", "high"] (sp_whole K)) (c_is_row : Cl P w K mg base 2 "is_row" ["thing", "fewest", "most"] sp_isRow) (D : Df K mg "kept_chapter" s_kept_chapter ["chapter"]) : Cl P w K mg base 3 "kept_chapter" ["chapter"] sp_keptCh := by
  refine ok_of D sc_kept_chapter (fun vs H Q E h => ?_) (fun f cdv A outer s H vs Q E hr h => ?_)
  · obtain ⟨S, v, c, rfl, _⟩ := h
    rfl
  · obtain ⟨S, v, c, rfl, ho, ⟨a, rfl, na, ra⟩, ok, q⟩ := h
    refine ⟨_, (pss_cons (ps_if (pt_not (pt_val (pe_cl c_is_row hr (by decide) (by rfl) (pa_cons (pv 0) (pa_cons pe_int (pa_cons (C8.pe_gc (by rfl) T.g_MOST_VERSES) pa_nil)))))) (pss_one ps_never) pss_nil)
      (pss_cons (ps_if (pt_not (pt_val (pe_callB (cr_all rfl) (by rfl) T.b_all (by decide +kernel) (pa_cons (pe_lc (own := [("parts", 1)]) rfl sc_kept_chapter.nd (pi_row (pv 0)) (blkOk_by (own := [("parts", 1)]) (N := N_kept_chapter) (sc := defScope s_kept_chapter) (by decide +kernel)) (fun _ _ _ _ _ => (pg_name (i := 1) sc_kept_chapter.nd rfl (.inl rfl))) (fun _ _ _ _ _ => pts_nil) (fun _ _ _ _ _ => (pe_cl c_is_whole hr (by decide) (by rfl) (pa_cons (pv 1) (pa_cons pe_int (pa_cons (C8.pe_gc (by rfl) T.g_MOST_VERSE_PARTS) pa_nil)))))) pa_nil)))) (pss_one ps_never) pss_nil)
      (pss_one (ps_ret (pe_callTy call_tuple_of (by rfl) T.b_tuple (by decide +kernel) (pa_cons (pv 0) pa_nil)))))), ?_⟩
    have l1 : ((c.map V.int).length : Int) ≤ 30 := by
      rw [List.length_map]
      have := ok.l1
      omega
    have l0 : (1 : Int) ≤ ((c.map V.int).length : Int) := by
      rw [List.length_map]
      have := ok.l0
      omega
    refine ⟨.ref a, rfl, a, _, 1, 30, rfl, ra, fun H1 S1 => ?_⟩
    rw [decide_eq_true l0, decide_eq_true l1]
    refine ⟨_, rfl, ite2 (fun z => absurd z (by decide)) fun _ => ?_⟩
    obtain ⟨b, hq⟩ := (ra.same S1).sq (K := K)
    refine ⟨.ref a, rfl, a, b, _, rfl, hq, fun Dl hDl => ?_⟩
    refine lc_it walk_row (fun i H' => Same H1 H' ∧ H' Dl = some (.lst ((c.take i).map fun _ => .bl true))) ⟨same_new hDl, upd_same⟩ (fun i H' _ ⟨z, _⟩ => hq.same z) ?_ ?_
    · rintro i x H2 H2' hi ⟨hs, hD⟩ ⟨rfl, hx⟩
      rw [List.length_map] at hi
      have hci : c[i]? = some c[i] := List.getElem?_eq_getElem hi
      rw [List.getElem?_map, hci] at hx
      cases hx
      have hz := ok.x c[i] (List.getElem_mem hi)
      have ew : whole (.int c[i]) 1 4 = true := by
        show (decide (1 ≤ c[i]) && decide (c[i] ≤ 4)) = true
        rw [decide_eq_true hz.1, decide_eq_true hz.2, Bool.true_and]
      refine ⟨rfl, .int c[i], rfl, .int c[i], 1, 4, rfl, .int _, ?_⟩
      rw [ew]
      refine ⟨_, hD, ?_, ?_, ?_⟩
      · rw [List.length_map, List.length_take]
        exact Evl.sz_lt (by have := ok.l1; omega)
      · exact fun b o e => by
          rw [upd_ne (ne_of_none e hDl)]
          exact hs b o e
      · rw [upd_same, List.take_add_one, hci, List.map_append]
        rfl
    · rintro H2 ⟨hs, hD⟩
      rw [List.length_map, List.take_length] at hD
      refine ⟨Dl, c.map fun _ => true, rfl, .inl (.inl (by rw [hD, List.map_map]; rfl)), ?_⟩
      have e5 : (c.map fun _ => true).all id = true := by
        rw [List.all_map]
        exact List.all_eq_true.mpr fun _ _ => rfl
      rw [e5]
      refine ⟨_, rfl, ite2 (fun z => absurd z (by decide)) fun _ => ?_⟩
      exact ⟨.ref a, rfl, row_tuple (ho.same (S1.trans hs)) na (ra.same (S1.trans hs)) (AtAll.ints c) fun v H' s' hv => q v H' ((S1.trans hs).trans s') hv⟩
theorem okName.name {w : List Nat} (h : okName w) : nameL w = true := by
  unfold nameL
  rw [decide_eq_true h.l0, decide_eq_true h.l1, Bool.true_and, Bool.true_and]
  exact List.all_eq_true.mpr fun c hc => decide_eq_true (h.a c hc)
def sp_keptBk : Sp := fun vs H Q _ => ∃ (S : Av) (v : V) (nm : List Nat) (C : List (List Int)) (n : Addr) (nms : List (List Nat)), vs = [v, .ref n] ∧ Occ S H ∧ BkIn S H v nm C ∧ H n = some (.lst (nmV nms)) ∧ okName nm ∧ nm ∉ nms ∧ 1 ≤ C.length ∧ C.length ≤ 12 ∧ (∀ c ∈ C, okRow c) ∧
  ∀ v' H', Same H H' → At S H' v' (bkD (nm, C)) → Q v' H'
theorem ok_keptBk (T : Txt K mg) (c_is_name : Cl P w K mg base 3 "is_name" ["thing"] (sp_name K)) (c_is_tuple : Cl P w K mg base 2 "is_tuple" ["thing", "fewest", "most"] sp_isTup) (c_is_row : Cl P w K mg base 2 "is_row" ["thing", "fewest", "most"] sp_isRow) (c_kept_chapter : Cl P w K mg base 3 "kept_chapter" ["chapter"] sp_keptCh) (D : Df K mg "kept_book" s_kept_book ["book", "names"]) : Cl P w K mg base 4 "kept_book" ["book", "names"] sp_keptBk := by
  refine ok_of D sc_kept_book (fun vs H Q E h => ?_) (fun f cdv A outer s H vs Q E hr h => ?_)
  · obtain ⟨S, v, nm, C, n, nms, rfl, _⟩ := h
    rfl
  · obtain ⟨S, v, nm, C, n, nms, rfl, ho, ⟨a, c, xs, rfl, ha, hc, hx⟩, hn, on, nn, c0, c1, ok, q⟩ := h
    refine ⟨_, (pss_cons (ps_if (pt_not (pt_val (pe_cl c_is_tuple hr (by decide) (by rfl) (pa_cons (pv 0) (pa_cons pe_int (pa_cons pe_int pa_nil)))))) (pss_one ps_never) pss_nil)
      (pss_cons (ps_asg (pv 0) (pg_tup rfl (pgs_cons (pg_name (i := 2) sc_kept_book.nd rfl (.inl rfl)) (pgs_cons (pg_name (i := 3) sc_kept_book.nd rfl (.inl rfl)) pgs_nil))))
      (pss_cons (ps_if (pt_not (pt_val (pe_cl c_is_name hr (by decide) (by rfl) (pa_cons (pv 2) pa_nil)))) (pss_one ps_never) pss_nil)
      (pss_cons (ps_if (pt_cmpR op_in_seq (pv 2) (pv 1) rfl) (pss_one ps_never) pss_nil)
      (pss_cons (ps_if (pt_not (pt_val (pe_cl c_is_row hr (by decide) (by rfl) (pa_cons (pv 3) (pa_cons pe_int (pa_cons (C8.pe_gc (by rfl) T.g_MOST_BOOK_CHAPTERS) pa_nil)))))) (pss_one ps_never) pss_nil)
      (pss_one (ps_ret (pe_tup (pa_cons (pv 2) (pa_cons (pe_callTy call_tuple_of (by rfl) T.b_tuple (by decide +kernel) (pa_cons (pe_lc (own := [("chapter", 4)]) rfl sc_kept_book.nd (pi_row (pv 3)) (blkOk_by (own := [("chapter", 4)]) (N := N_kept_book) (sc := defScope s_kept_book) (by decide +kernel)) (fun _ _ _ _ _ => (pg_name (i := 4) sc_kept_book.nd rfl (.inl rfl))) (fun _ _ _ _ _ => pts_nil) (fun _ _ _ _ _ => (pe_cl c_kept_chapter hr (by decide) (by rfl) (pa_cons (pv 4) pa_nil)))) pa_nil)) pa_nil)))))))))), ?_⟩
    have lx := hx.1
    have l1 : (xs.length : Int) ≤ 12 := by omega
    have l0 : (1 : Int) ≤ (xs.length : Int) := by omega
    have eN : nameV (.str (SX.S nm)) = true := on.name
    refine ⟨.ref a, rfl, a, _, 2, 2, rfl, ha, _, rfl, ite2 (fun z => absurd (show false = true from z) Bool.false_ne_true) fun _ => ?_⟩
    refine ⟨.ref a, rfl, a, _, rfl, .inl (.inl ha), rfl, _, _, rfl, _, _, rfl, rfl, ?_⟩
    refine ⟨_, rfl, _, rfl, .str nm (by have := on.l1; omega) (fun c h => let128 c (on.a c h)), fun H1 S1 => ?_⟩
    rw [eN]
    refine ⟨_, rfl, ite2 (fun z => absurd z (by decide)) fun _ => ?_⟩
    refine ⟨_, rfl, .ref n, rfl, n, _, rfl, .inl (.inl (.inl (S1 _ _ hn))), rfl, flat_nm nms, _, rfl, ?_⟩
    rw [if_neg Bool.false_ne_true, inV_nm, decide_eq_false nn]
    refine ite2 (fun z => absurd z (by decide)) fun _ => ?_
    refine ⟨.ref c, rfl, c, _, 1, 12, rfl, hc.same S1, fun H2 S2 => ?_⟩
    rw [decide_eq_true l0, decide_eq_true l1]
    refine ⟨_, rfl, ite2 (fun z => absurd z (by decide)) fun _ => ?_⟩
    have S12 := S1.trans S2
    obtain ⟨b, hq⟩ := (hc.same S12).sq (K := K)
    refine ⟨_, rfl, .ref c, rfl, c, b, _, rfl, hq, fun Dl hDl => ?_⟩
    have hfr := Same.fresh S12 hDl
    refine lc_it walk_row (fun i H' => ∃ rows : List V, LcS S H2 Dl rows ((C.take i).map chD) H') ⟨[], LcS.start hDl⟩ (fun i H' _ ⟨rows, L⟩ => Sq.same hq L.s) ?_ ?_
    · rintro i x H3 H3' hi ⟨rows, L⟩ ⟨rfl, hxi⟩
      have hci : C[i]? = some C[i] := List.getElem?_eq_getElem (by omega)
      have hch := ((hx.plusN hfr).2 i x _ hxi hci).same (S12.trans L.s)
      refine ⟨rfl, x, rfl, Plus S Dl, x, C[i], rfl, L.occ (ho.same S12), hch, ok _ (List.getElem_mem _), fun v' H4 S4 hv => ?_⟩
      have L4 := L.keep S4
      refine ⟨rows, L4.at_, ?_, rows ++ [v'], ?_⟩
      · rw [L.len, List.length_map, List.length_take]
        exact Evl.sz_lt (by omega)
      · have := L4.step hv
        rw [List.take_add_one, hci, List.map_append]
        exact this
    · rintro H3 ⟨rows, L⟩
      rw [lx, List.take_length] at L
      have nD : ¬ S Dl := ho.free hfr
      refine ⟨Dl, rows, rfl, .inl ⟨.inl (.inl L.at_), fun l hl => ?_⟩⟩
      have S4 := same_new (o := .tup rows) hl
      have hl0 : H l = none := Same.fresh (S12.trans L.s) hl
      have hv : At S (upd H3 l (.tup rows)) (.ref l) (chsD C) := .tup (ho.free hl0) upd_same (AtAll.same L.done S4)
      refine ⟨by show 2 ≤ sizeLine; decide, fun t ht => ?_⟩
      have S5 := same_new (o := .tup [.str (SX.S nm), .ref l]) ht
      have ht0 : H t = none := Same.fresh (S12.trans (L.s.trans S4)) ht
      exact q _ _ (S12.trans (L.s.trans (S4.trans S5))) (.tup (ho.free ht0) upd_same (.cons (.str _) (.cons (At.same hv S5) .nil)))
theorem flat_le {α : Type} {β : Type} (f : α → List β) (n : Nat) : ∀ l : List α, (∀ b ∈ l, (f b).length ≤ n) → (l.flatMap f).length ≤ n * l.length
  | [], _ => Nat.zero_le _
  | b :: r, h => by
    have h1 := h b (List.mem_cons_self ..)
    have h2 := flat_le f n r fun c hc => h c (List.mem_cons_of_mem _ hc)
    rw [List.flatMap_cons, List.length_append, List.length_cons, Nat.mul_add]
    omega
theorem flat_sum : ∀ B : List (List Nat × List (List Int)), (B.flatMap fun b => b.2.map List.sum).sum = (B.map fun b => (b.2.map List.sum).sum).sum
  | [] => rfl
  | b :: r => by
    rw [List.flatMap_cons, List.sum_append, flat_sum r, List.map_cons, List.sum_cons]
theorem int_sumL : ∀ (B : List (List Nat × List (List Int))), ((B.map fun b => (b.2.length : Int)).sum) = (((B.map fun b => b.2.length).sum : Nat) : Int)
  | [] => rfl
  | b :: r => by
    rw [List.map_cons, List.sum_cons, List.map_cons, List.sum_cons, int_sumL r]
    omega
def sp_counts : Sp := fun vs H Q _ => ∃ (S : Av) (k : Addr) (xs : List V) (B : List (List Nat × List (List Int))), vs = [.ref k] ∧ H k = some (.lst xs) ∧ AtAll S H xs (B.map bkD) ∧ B.length ≤ 6 ∧ (∀ b ∈ B, b.2.length ≤ 12 ∧ ∀ c ∈ b.2, c.length ≤ 30) ∧ (B.map fun b => b.2.length).sum ≤ 40 ∧ (B.map fun b => (b.2.map List.sum).sum).sum ≤ 400 ∧ ∀ H', Same H H' → Q .non H'
theorem ok_counts (T : Txt K mg) (D : Df K mg "check_counts" s_check_counts ["books"]) : Cl P w K mg base 2 "check_counts" ["books"] sp_counts := by
  refine ok_of D sc_check_counts (fun vs H Q E h => ?_) (fun f cdv A outer s H vs Q E hr h => ?_)
  · obtain ⟨S, k, xs, B, rfl, _⟩ := h
    rfl
  · obtain ⟨S, k, xs, B, rfl, hk, ha, hB, hC, s1, s2, q⟩ := h
    refine ⟨_, (pss_cons (ps_setLc (i := 1) (own := [("name", 3), ("chapters", 4)]) rfl sc_check_counts.nd rfl rfl (sw_true rfl rfl rfl (by decide +kernel)) (pi_list (pv 0)) (blkOk_by (own := [("name", 3), ("chapters", 4)]) (N := N_check_counts) (sc := defScope s_check_counts) (by decide +kernel)) (fun _ _ _ _ _ => (pg_tupK (K := K) (n := 2) rfl rfl (pgs_cons (pg_name (i := 3) sc_check_counts.nd rfl (.inl rfl)) (pgs_cons (pg_name (i := 4) sc_check_counts.nd rfl (.inl rfl)) pgs_nil)))) (fun _ _ _ _ _ => pts_nil) (fun _ _ _ _ _ => (pe_callB (call_lenK (K := K) rfl) (by rfl) T.b_len (by decide +kernel) (pa_cons (pv 4) pa_nil))))
      (pss_cons (ps_if (pt_cmpR op_gt (pe_callB (cr_sum rfl) (by rfl) T.b_sum (by decide +kernel) (pa_cons (pv 1) pa_nil)) (C8.pe_gc (by rfl) T.g_MOST_CHAPTERS) (nomark _)) (pss_one ps_never) pss_nil)
      (pss_cons (ps_set (i := 2) sc_check_counts.nd rfl (.inl rfl) (pe_callB (cr_sum rfl) (by rfl) T.b_sum (by decide +kernel) (pa_cons (pe_lc2 (own := [("name", 3), ("chapters", 4), ("chapter", 5)]) (vs1 := [5]) rfl sc_check_counts.nd (pi_list (pv 0)) (blkOk_by (own := [("name", 3), ("chapters", 4), ("chapter", 5)]) (N := N_check_counts) (sc := defScope s_check_counts) (by decide +kernel)) (by decide) (fun _ _ _ _ _ => (pg_tupK (K := K) (n := 2) rfl rfl (pgs_cons (pg_name (i := 3) sc_check_counts.nd rfl (.inl rfl)) (pgs_cons (pg_name (i := 4) sc_check_counts.nd rfl (.inl rfl)) pgs_nil)))) (fun _ _ _ _ _ => pts_nil) (fun _ _ _ _ _ => (pi_tupK (K := K) rfl (pv 4))) (fun _ _ _ _ _ => (pg_name (i := 5) sc_check_counts.nd rfl (.inl rfl))) (fun _ _ _ _ _ => pts_nil) (fun _ _ _ _ _ => (pe_callB (cr_sumTK (K := K) rfl rfl) (by rfl) T.b_sum (by decide +kernel) (pa_cons (pv 5) pa_nil)))) pa_nil)))
      (pss_one (ps_if (pt_cmpR op_gt (pv 2) (C8.pe_gc (by rfl) T.g_MOST_PARTS) (nomark _)) (pss_one ps_never) pss_nil))))), ?_⟩
    have lx : xs.length = B.length := by rw [ha.len, List.length_map]
    refine ⟨.ref k, rfl, k, rfl, ⟨_, .inl (.inl hk)⟩, fun Dl hDl => ?_⟩
    refine lc_it (walk_list (xs := xs)) (fun i H' => Same H H' ∧ H' Dl = some (.lst (((B.take i).map fun b => (b.2.length : Int)).map V.int))) ⟨same_new hDl, upd_same⟩ (fun i H' _ ⟨z, _⟩ => z.seq (.inl (.inl hk))) ?_ ?_
    · rintro i x H1 H1' hi ⟨S1, hD⟩ ⟨rfl, hx⟩
      obtain ⟨b, hb, hv⟩ := ha.at_ hx
      obtain ⟨a, c, zs, rfl, na, ea, nc, ec, kz⟩ := (At.same hv S1).bk
      refine ⟨a, _, rfl, .inl (.inl ea), rfl, _, _, rfl, _, _, rfl, rfl, rfl, .ref c, rfl, _, _, rfl, .inr ⟨_, .inl (.inl ec), rfl⟩, _, hD, ?_, ?_, ?_⟩
      · rw [List.length_map, List.length_map, List.length_take]
        exact Evl.sz_lt (by omega)
      · exact fun b o e => by
          rw [upd_ne (ne_of_none e hDl)]
          exact S1 b o e
      · rw [upd_same, List.take_add_one, hb, kz.len, List.length_map, List.map_append, List.map_append]
        rfl
    · rintro H1 ⟨S1, hD⟩
      rw [lx, List.take_length] at hD
      refine ⟨.ref Dl, rfl, Dl, _, rfl, .inl (.inl hD), _, 40, rfl, rfl, _, rfl, ite2 (fun z => ?_) (fun _ => ?_)⟩
      · have z := of_decide_eq_true z
        rw [int_sumL] at z
        omega
      · refine ⟨.ref k, rfl, k, rfl, ⟨_, .inl (.inl (S1 _ _ hk))⟩, fun De hDe => ?_⟩
        have hDe0 : H De = none := Same.fresh S1 hDe
        refine lc2_it (walk_list (xs := xs)) (fun i H' => Same H H' ∧ H' De = some (.lst (((B.take i).flatMap fun b => b.2.map List.sum).map V.int))) ⟨S1.trans (same_new hDe), upd_same⟩ (fun i H' _ ⟨z, _⟩ => z.seq (.inl (.inl hk))) ?_ ?_
        · rintro i x H2 H2' hi ⟨S2, hD2⟩ ⟨rfl, hx⟩
          obtain ⟨b, hb, hv⟩ := ha.at_ hx
          have hbm : b ∈ B := List.mem_of_getElem? hb
          have hBi : ((B.take i).flatMap fun b => b.2.map List.sum).length ≤ 12 * i := by
            have := flat_le (fun b : List Nat × List (List Int) => b.2.map List.sum) 12 (B.take i) fun b hb => by
              rw [List.length_map]
              exact (hC b (List.mem_of_mem_take hb)).1
            rw [List.length_take] at this
            have : min i B.length ≤ i := Nat.min_le_left ..
            omega
          obtain ⟨a, c, zs, rfl, na, ea, nc, ec, kz⟩ := hv.bk
          have lz : zs.length = b.2.length := by rw [kz.len, List.length_map]
          refine ⟨a, _, rfl, .inl (.inl (S2 _ _ ea)), rfl, _, _, rfl, _, _, rfl, rfl, rfl, .ref c, rfl, c, rfl, ⟨_, .inl (.inl (S2 _ _ ec))⟩, ?_⟩
          refine turn1_it (walk_tup (xs := zs)) (fun j H' => Same H H' ∧ H' De = some (.lst (((B.take i).flatMap (fun b => b.2.map List.sum) ++ (b.2.take j).map List.sum).map V.int))) ?_ ?_ ?_ ?_
          · refine ⟨S2, ?_⟩
            rw [List.take_zero, List.map_nil, List.append_nil]
            exact hD2
          · exact fun j H' _ ⟨z, _⟩ => .inl (.inl (z _ _ ec))
          · rintro j y H3 H3' hj ⟨S3, hD3⟩ ⟨rfl, hy⟩
            obtain ⟨c', hc', hv'⟩ := kz.at_ hy
            obtain ⟨a', rfl, na', ea'⟩ := (At.same hv' S3).ch
            refine ⟨rfl, .ref a', rfl, a', c', rfl, .inl (.inl ea'), _, hD3, ?_, ?_, ?_⟩
            · have := (hC b hbm).1
              rw [List.length_map, List.length_append, List.length_map, List.length_take]
              exact Evl.sz_lt (by omega)
            · exact fun q o e => by
                rw [upd_ne (ne_of_none e hDe0)]
                exact S3 q o e
            · rw [upd_same, List.take_add_one, hc', List.map_append, List.map_append, List.map_append, List.map_append, List.append_assoc]
              rfl
          · rintro H3 ⟨S3, hD3⟩
            refine ⟨S3, ?_⟩
            rw [hD3, lz, List.take_length, List.take_add_one, hb, List.flatMap_append]
            simp
        · rintro H2 ⟨S2, hD2⟩
          rw [lx, List.take_length] at hD2
          refine ⟨De, _, rfl, .inl (.inl hD2), _, rfl, _, 400, rfl, rfl, _, rfl, ite2 (fun z => ?_) (fun _ => ?_)⟩
          · have z := of_decide_eq_true z
            rw [flat_sum] at z
            omega
          · exact q H2 S2
end
end My
set_option Elab.async false
set_option linter.all false
set_option maxRecDepth 100000
set_option maxHeartbeats 4000000
namespace My
open PySem PySem.Spec PyProof.Rows L2
abbrev Bks := List (List Nat × List (List Int))
/-- books of which an edition is made -/
structure okBks (B : Bks) : Prop where
  l0 : 1 ≤ B.length
  l1 : B.length ≤ 6
  nd : (B.map (·.1)).Nodup
  nm : ∀ b ∈ B, okName b.1
  ch : ∀ b ∈ B, 1 ≤ b.2.length ∧ b.2.length ≤ 12 ∧ ∀ c ∈ b.2, okRow c
  chs : (B.map fun b => b.2.length).sum ≤ 40
  prs : (B.map fun b => (b.2.map List.sum).sum).sum ≤ 400
/-- books handed in -/
def BksIn (S : Av) (H : Hp) (v : V) (B : Bks) : Prop := ∃ a xs, v = .ref a ∧ Rw H a xs ∧ xs.length = B.length ∧ ∀ (i : Nat) (x : V) (b : List Nat × List (List Int)), xs[i]? = some x → B[i]? = some b → BkIn S H x b.1 b.2
theorem BksIn.same {S : Av} {H H' : Hp} {v : V} {B : Bks} (h : BksIn S H v B) (s : Same H H') : BksIn S H' v B := by
  obtain ⟨a, xs, e, r, l, k⟩ := h
  exact ⟨a, xs, e, r.same s, l, fun i x b h1 h2 => (k i x b h1 h2).same s⟩
def sp_keptBks : Sp := fun vs H Q _ => ∃ (S : Av) (v : V) (B : Bks), vs = [v] ∧ Occ S H ∧ BksIn S H v B ∧ okBks B ∧ ∀ v' H', Same H H' → At S H' v' (bksD B) → Q v' H'
section
variable {P : Program} {w : World} {K : PySem.W.Frag} {mg : Str → Option Value} {base : Heap}
theorem ok_keptBks (T : Txt K mg) (c_is_row : Cl P w K mg base 2 "is_row" ["thing", "fewest", "most"] sp_isRow) (c_kept_book : Cl P w K mg base 4 "kept_book" ["book", "names"] sp_keptBk) (c_check_counts : Cl P w K mg base 2 "check_counts" ["books"] sp_counts) (D : Df K mg "kept_books" s_kept_books ["books"]) : Cl P w K mg base 5 "kept_books" ["books"] sp_keptBks := by
  refine ok_of D sc_kept_books (fun vs H Q E h => ?_) (fun f cdv A outer s H vs Q E hr h => ?_)
  · obtain ⟨S, v, B, rfl, _⟩ := h
    rfl
  · obtain ⟨S, v, B, rfl, ho, ⟨a, xs, rfl, ra, lx, hx⟩, ok, q⟩ := h
    refine ⟨_, (pss_cons (ps_if (pt_not (pt_val (pe_cl c_is_row hr (by decide) (by rfl) (pa_cons (pv 0) (pa_cons pe_int (pa_cons (C8.pe_gc (by rfl) T.g_MOST_BOOKS) pa_nil)))))) (pss_one ps_never) pss_nil)
      (pss_cons (ps_set (i := 1) sc_kept_books.nd rfl (.inl rfl) (pe_lst pa_nil))
      (pss_cons (ps_for PassesOwn.never rfl (pi_row (pv 0)) (pg_name (i := 2) sc_kept_books.nd rfl (.inl rfl))
        (pss_cons (ps_setLc (i := 3) (own := [("name", 4), ("chapters", 5)]) rfl sc_kept_books.nd rfl rfl (sw_true rfl rfl rfl (by decide +kernel)) (pi_list (pv 1)) (blkOk_by (own := [("name", 4), ("chapters", 5)]) (N := N_kept_books) (sc := defScope s_kept_books) (by decide +kernel)) (fun _ _ _ _ _ => (pg_tupK (K := K) (n := 2) rfl rfl (pgs_cons (pg_name (i := 4) sc_kept_books.nd rfl (.inl rfl)) (pgs_cons (pg_name (i := 5) sc_kept_books.nd rfl (.inl rfl)) pgs_nil)))) (fun _ _ _ _ _ => pts_nil) (fun _ _ _ _ _ => (pv 4)))
        (pss_one (ps_expr (pe_bm PySem.F.plainAttrs_list PySem.F.slot_list_append PySem.F.type_list_append mt_append (pv 1) (pa_cons (pe_cl c_kept_book hr (by decide) (by rfl) (pa_cons (pv 2) (pa_cons (pv 3) pa_nil))) pa_nil))))))
      (pss_cons (ps_expr (pe_cl c_check_counts hr (by decide) (by rfl) (pa_cons (pv 1) pa_nil)))
      (pss_one (ps_ret (pe_callTy call_tuple_of (by rfl) T.b_tuple (by decide +kernel) (pa_cons (pv 1) pa_nil)))))))), ?_⟩
    have l1 : (xs.length : Int) ≤ 6 := by
      have := ok.l1
      omega
    have l0 : (1 : Int) ≤ (xs.length : Int) := by
      have := ok.l0
      omega
    refine ⟨.ref a, rfl, a, _, 1, 6, rfl, ra, fun H1 S1 => ?_⟩
    rw [decide_eq_true l0, decide_eq_true l1]
    refine ⟨_, rfl, ite2 (fun z => absurd z (by decide)) fun _ => ?_⟩
    refine ⟨Nat.zero_le _, fun k hk => ?_⟩
    have hk0 : H k = none := Same.fresh S1 hk
    obtain ⟨bb, hq⟩ := (ra.same S1).sq (K := K)
    refine ⟨.ref a, rfl, a, bb, _, rfl, Sq.same hq (same_new hk), for_it walk_row (fun i σ H' => ∃ (t2 t3 t4 t5 : Option V) (rows : List V), σ = [some (.ref a), some (.ref k), t2, t3, t4, t5] ∧ LcS S H1 k rows ((B.take i).map bkD) H') ⟨_, _, _, _, _, rfl, LcS.start hk⟩ (fun i σ H' _ ⟨_, _, _, _, _, _, L⟩ => Sq.same hq L.s) ?_ ?_⟩
    · rintro i x σ H2 H2' hi ⟨t2, t3, t4, t5, rows, rfl, L⟩ ⟨rfl, hxi⟩
      have hbi : B[i]? = some B[i] := List.getElem?_eq_getElem (by omega)
      have hbm : B[i] ∈ B := List.getElem_mem _
      refine ⟨.ref k, rfl, k, rfl, ⟨_, .inl (.inl L.at_)⟩, fun n hn => ?_⟩
      have nk : n ≠ k := fun z => by
        rw [z, L.at_] at hn
        cases hn
      refine lc_it (walk_list (xs := rows)) (fun j H' => Same H2' H' ∧ H' n = some (.lst (nmV ((B.take j).map (·.1))))) ⟨same_new hn, upd_same⟩ (fun i H' _ ⟨z, _⟩ => z.seq (.inl (.inl L.at_))) ?_ ?_
      · rintro j y H3 H3' hj ⟨S3, hD⟩ ⟨rfl, hy⟩
        obtain ⟨b, hb, hv⟩ := L.a.at_ hy
        have hb' : B[j]? = some b := by
          rw [List.getElem?_take] at hb
          split at hb
          · exact hb
          · cases hb
        obtain ⟨a', c, zs, rfl, na, ea, nc, ec, kz⟩ := (At.same hv S3).bk
        refine ⟨a', _, rfl, .inl (.inl ea), rfl, _, _, rfl, _, _, rfl, rfl, rfl, _, rfl, _, hD, ?_, ?_, ?_⟩
        · unfold nmV
          rw [List.length_map, List.length_map, List.length_take]
          exact Evl.sz_lt (by have := ok.l1; omega)
        · exact fun b o e => by
            rw [upd_ne (ne_of_none e hn)]
            exact S3 b o e
        · rw [upd_same, List.take_add_one, hb', List.map_append]
          unfold nmV
          rw [List.map_append]
          rfl
      · rintro H3 ⟨S3, hD⟩
        have lr : rows.length = i := by
          rw [L.len, List.length_map, List.length_take]
          omega
        rw [lr] at hD
        have L3 := L.keep S3
        refine ⟨.ref k, rfl, .inl ⟨rfl, _, .inl (.inl L3.at_)⟩, ?_⟩
        refine ⟨x, rfl, .ref n, rfl, Plus S k, x, B[i].1, B[i].2, n, (B.take i).map (·.1), rfl, L3.occ (ho.same S1), ?_, hD, ok.nm _ hbm, ?_, (ok.ch _ hbm).1, (ok.ch _ hbm).2.1, (ok.ch _ hbm).2.2, fun v' H4 S4 hv' => ?_⟩
        · exact ((hx i x _ hxi hbi).plusN hk0).same (S1.trans L3.s)
        · intro z
          obtain ⟨b', hb', e'⟩ := List.mem_map.mp z
          obtain ⟨j, hj⟩ := List.mem_iff_getElem?.mp hb'
          rw [List.getElem?_take] at hj
          split at hj
          · rename_i hji
            have h1 : (B.map (·.1))[j]? = some B[i].1 := by
              rw [List.getElem?_map, hj, ← e']
              rfl
            have h2 : (B.map (·.1))[i]? = some B[i].1 := by
              rw [List.getElem?_map, hbi]
              rfl
            have := (List.getElem?_inj (i := j) (by rw [List.length_map]; omega) ok.nd).mp (h1.trans h2.symm)
            omega
          · cases hj
        · have L4 := L3.keep S4
          refine ⟨k, _, _, rfl, rfl, L4.at_, ?_, ?_⟩
          · rw [lr]
            exact Evl.sz_lt (by have := ok.l1; omega)
          · refine ⟨_, _, _, _, rows ++ [v'], rfl, ?_⟩
            have := L4.step hv'
            rw [List.take_add_one, hbi, List.map_append]
            exact this
    · rintro σ H2 ⟨t2, t3, t4, t5, rows, rfl, L⟩
      rw [lx, List.take_length] at L
      refine ⟨.ref k, rfl, S, k, rows, B, rfl, L.at_, L.done, ok.l1, fun b hb => ⟨(ok.ch b hb).2.1, fun c hc => ((ok.ch b hb).2.2 c hc).l1⟩, ok.chs, ok.prs, fun H3 S3 => ?_⟩
      have L3 := L.keep S3
      refine ⟨.ref k, rfl, k, rows, rfl, .inl ⟨.inl (.inl L3.at_), fun l hl => ?_⟩⟩
      have S4 := same_new (o := .tup rows) hl
      have hl0 : H l = none := Same.fresh (S1.trans L3.s) hl
      exact q _ _ (S1.trans (L3.s.trans S4)) (.tup (ho.free hl0) upd_same (AtAll.same L3.done S4))
end
end My
set_option Elab.async false
set_option linter.all false
set_option maxRecDepth 100000
set_option maxHeartbeats 4000000
namespace My
open PySem PySem.Spec PyProof.Rows L2
def lnP (s : Int × Int) : List Int := (List.range s.2.toNat).map fun (i : Nat) => s.1 + (i : Int)
def lnOf (ps : List (Int × Int)) : List Int := ps.flatMap lnP
theorem lnP_len (s : Int × Int) : (lnP s).length = s.2.toNat := by
  unfold lnP
  rw [List.length_map, List.length_range]
theorem rg_ln (a b : Int) : rgV a b = (lnP (a, b - a)).map V.int := by
  unfold rgV lnP
  rw [List.map_map]
  rfl
theorem mem_lnP {s : Int × Int} {z : Int} (h : z ∈ lnP s) : s.1 ≤ z ∧ z < s.1 + s.2 := by
  obtain ⟨i, hi, rfl⟩ := List.mem_map.mp h
  have := List.mem_range.mp hi
  omega
def sp_lnPair : Sp := fun vs H Q _ => ∃ (a : Addr) (s : Int × Int), vs = [.ref a] ∧ H a = some (.tup [.int s.1, .int s.2]) ∧ 0 ≤ s.1 ∧ 1 ≤ s.2 ∧ s.2 ≤ 400 ∧ s.1 + s.2 ≤ 10000 ∧ ∀ l, H l = none → Q (.ref l) (upd H l (.lst ((lnP s).map V.int)))
section
variable {P : Program} {w : World} {K : PySem.W.Frag} {mg : Str → Option Value} {base : Heap}
theorem ok_lnPair (T : Txt K mg) (c_is_whole : Cl P w K mg base 2 "is_whole" ["thing", "low", "high"] (sp_whole K)) (c_is_tuple : Cl P w K mg base 2 "is_tuple" ["thing", "fewest", "most"] sp_isTup) (D : Df K mg "lines_of_pair" s_lines_of_pair ["pair"]) : Cl P w K mg base 3 "lines_of_pair" ["pair"] sp_lnPair := by
  refine ok_of D sc_lines_of_pair (fun vs H Q E h => ?_) (fun f cdv A outer s H vs Q E hr h => ?_)
  · obtain ⟨a, s, rfl, _⟩ := h
    rfl
  · obtain ⟨a, ⟨s1, s2⟩, rfl, ha, h0, h1, h2, h3, q⟩ := h
    have h0 : 0 ≤ s1 := h0
    have h1 : 1 ≤ s2 := h1
    have h2 : s2 ≤ 400 := h2
    have h3 : s1 + s2 ≤ 10000 := h3
    refine ⟨_, (pss_cons (ps_if (pt_not (pt_val (pe_cl c_is_tuple hr (by decide) (by rfl) (pa_cons (pv 0) (pa_cons pe_int (pa_cons pe_int pa_nil)))))) (pss_one ps_never) pss_nil)
      (pss_cons (ps_asg (pv 0) (pg_tup rfl (pgs_cons (pg_name (i := 1) sc_lines_of_pair.nd rfl (.inl rfl)) (pgs_cons (pg_name (i := 2) sc_lines_of_pair.nd rfl (.inl rfl)) pgs_nil))))
      (pss_cons (ps_if (pt_not (PW.pt (pw_and (pt_val (pe_cl c_is_whole hr (by decide) (by rfl) (pa_cons (pv 1) (pa_cons pe_int (pa_cons (C8.pe_gc (by rfl) T.g_LAST_LINE) pa_nil))))) (pw_and1 (pt_val (pe_cl c_is_whole hr (by decide) (by rfl) (pa_cons (pv 2) (pa_cons pe_int (pa_cons (C8.pe_gc (by rfl) T.g_MOST_PARTS) pa_nil))))))))) (pss_one ps_never) pss_nil)
      (pss_cons (ps_if (pt_cmpR op_gt (pe_op op_sub (pe_op op_add (pv 1) (pv 2)) pe_int) (C8.pe_gc (by rfl) T.g_LAST_LINE) (nomark _)) (pss_one ps_never) pss_nil)
      (pss_one (ps_ret (pe_listRg rfl (by rfl) T.b_list (prg_2 (by rfl) T.b_range (pv 1) (pe_op op_add (pv 1) (pv 2)))))))))), ?_⟩
    refine ⟨.ref a, rfl, a, _, 2, 2, rfl, ha, _, rfl, ite2 (fun z => absurd (show false = true from z) Bool.false_ne_true) fun _ => ?_⟩
    refine ⟨.ref a, rfl, a, _, rfl, .inl (.inl ha), rfl, _, _, rfl, _, _, rfl, rfl, ?_⟩
    have e1 : whole (.int s1) 0 9999 = true := by
      show (decide (0 ≤ s1) && decide (s1 ≤ 9999)) = true
      rw [decide_eq_true h0, decide_eq_true (by omega), Bool.true_and]
    have e2 : whole (.int s2) 1 400 = true := by
      show (decide (1 ≤ s2) && decide (s2 ≤ 400)) = true
      rw [decide_eq_true h1, decide_eq_true h2, Bool.true_and]
    refine ⟨_, rfl, .int s1, 0, 9999, rfl, .int _, ?_⟩
    rw [e1]
    refine ⟨_, rfl, ite2 (fun _ => ?_) (fun z => absurd rfl z)⟩
    refine ⟨_, rfl, .int s2, 1, 400, rfl, .int _, ?_⟩
    rw [e2]
    refine ⟨_, rfl, ite2 (fun z => absurd z (by decide)) fun _ => ?_⟩
    refine ⟨_, rfl, _, rfl, s1, s2, rfl, rfl, s1 + s2, 1, rfl, rfl, _, 9999, rfl, rfl, _, rfl, ite2 (fun z => ?_) fun _ => ?_⟩
    · have z := of_decide_eq_true z
      omega
    · refine ⟨_, rfl, _, rfl, _, rfl, s1, s2, rfl, rfl, s1, s1 + s2, rfl, rfl, RgOk.of_le (by omega) (by omega) (by omega) (by omega), fun l hl => ?_⟩
      have e : s1 + s2 - s1 = s2 := by omega
      have := q l hl
      rw [rg_ln, e]
      exact this
/-- the dict of what is taken -/
def tkD (L : List Int) : List (Key × V) := L.map fun z => ((Sum.inl z : Key), V.bl true)
theorem tk_any (L : List Int) (z : Int) : ((tkD L).any fun kv => decide (kv.1 = (Sum.inl z : Key))) = decide (z ∈ L) := by
  unfold tkD
  rw [List.any_map]
  induction L with
  | nil => rfl
  | cons y r ih =>
    rw [List.any_cons, ih]
    show (decide ((Sum.inl y : Key) = Sum.inl z) || _) = _
    by_cases e : y = z
    · subst e
      rw [decide_eq_true rfl, Bool.true_or]
      exact (decide_eq_true (List.mem_cons_self ..)).symm
    · rw [decide_eq_false (fun h => e (Sum.inl.inj h)), Bool.false_or]
      exact decide_eq_decide.mpr ⟨fun h => List.mem_cons_of_mem _ h, fun h => (List.mem_cons.mp h).resolve_left fun q => e q.symm⟩
theorem tk_val {L : List Int} {z : Int} (h : z ∉ L) : valV (tkD L) (Sum.inl z : Key) = none := by
  unfold valV
  have e : (tkD L).find? (fun kv => decide (kv.1 = (Sum.inl z : Key))) = none := by
    rw [List.find?_eq_none]
    intro kv hk hd
    have : ((tkD L).any fun kv => decide (kv.1 = (Sum.inl z : Key))) = true := List.any_eq_true.mpr ⟨kv, hk, hd⟩
    rw [tk_any] at this
    exact h (of_decide_eq_true this)
  rw [e]
  rfl
theorem tk_put {L : List Int} {z : Int} (h : z ∉ L) : putK (tkD L) (Sum.inl z : Key) (.bl true) = tkD (L ++ [z]) := by
  unfold putK
  rw [tk_any, decide_eq_false h, if_neg Bool.false_ne_true]
  unfold tkD
  rw [List.map_append]
  rfl
theorem tk_keys (L : List Int) : (tkD L).map (fun kv => kV kv.1) = L.map V.int := by
  unfold tkD
  rw [List.map_map]
  rfl
theorem lnOf_len : ∀ ps : List (Int × Int), (∀ s ∈ ps, 1 ≤ s.2) → ((lnOf ps).length : Int) = (ps.map (·.2)).sum
  | [], _ => rfl
  | s :: r, h => by
    have h1 := lnOf_len r fun x hx => h x (List.mem_cons_of_mem _ hx)
    have h2 := h s (List.mem_cons_self ..)
    unfold lnOf at h1 ⊢
    rw [List.flatMap_cons, List.length_append, List.map_cons, List.sum_cons, ← h1, lnP_len]
    omega
/-- lines handed in: none, or pairs -/
def LnIn (H : Hp) (v : V) : Option (List (Int × Int)) → Prop
  | none => v = .non
  | some ps => ∃ a xs, v = .ref a ∧ Rw H a xs ∧ xs.length = ps.length ∧ ∀ (i : Nat) (x : V) (s : Int × Int), xs[i]? = some x → ps[i]? = some s → ∃ t, x = .ref t ∧ H t = some (.tup [.int s.1, .int s.2])
theorem LnIn.same {H H' : Hp} {v : V} {o : Option (List (Int × Int))} (h : LnIn H v o) (z : Same H H') : LnIn H' v o := by
  cases o with
  | none => exact h
  | some ps =>
    obtain ⟨a, xs, e, r, l, k⟩ := h
    exact ⟨a, xs, e, r.same z, l, fun i x s h1 h2 => let ⟨t, e1, e2⟩ := k i x s h1 h2; ⟨t, e1, z _ _ e2⟩⟩
def okLn (o : Option (List (Int × Int))) (n : Int) : Prop := 0 ≤ n ∧ n ≤ 400 ∧ match o with
  | none => True
  | some ps => okPairs ps n
def lnsD (o : Option (List (Int × Int))) (n : Int) : List Int := match o with
  | none => lnP (0, n)
  | some ps => lnOf ps
def sp_keptLn : Sp := fun vs H Q _ => ∃ (v : V) (o : Option (List (Int × Int))) (n : Int), vs = [v, .int n] ∧ LnIn H v o ∧ okLn o n ∧ ∀ l H', H l = none → Same H H' → H' l = some (.lst ((lnsD o n).map V.int)) → Q (.ref l) H'
theorem ok_keptLn (T : Txt K mg) (c_is_row : Cl P w K mg base 2 "is_row" ["thing", "fewest", "most"] sp_isRow) (c_lines_of_pair : Cl P w K mg base 3 "lines_of_pair" ["pair"] sp_lnPair) (D : Df K mg "kept_lines" s_kept_lines ["lines", "size"]) : Cl P w K mg base 4 "kept_lines" ["lines", "size"] sp_keptLn := by
  refine ok_of D sc_kept_lines (fun vs H Q E h => ?_) (fun f cdv A outer s H vs Q E hr h => ?_)
  · obtain ⟨v, o, n, rfl, _⟩ := h
    rfl
  · obtain ⟨v, o, n, rfl, hi, ⟨n0, n1, ok⟩, q⟩ := h
    refine ⟨_, (pss_cons (ps_if (pt_cmpR op_isN (pv 0) pe_non (nomark _)) (pss_one (ps_ret (pe_listRg rfl (by rfl) T.b_list (prg_1 (by rfl) T.b_range (pv 1))))) pss_nil)
      (pss_cons (ps_if (pt_not (pt_val (pe_cl c_is_row hr (by decide) (by rfl) (pa_cons (pv 0) (pa_cons pe_int (pa_cons (C8.pe_gc (by rfl) T.g_MOST_PAIRS) pa_nil)))))) (pss_one ps_never) pss_nil)
      (pss_cons (ps_set (i := 2) sc_kept_lines.nd rfl (.inl rfl) pe_dnewK)
      (pss_cons (ps_for PassesOwn.never rfl (pi_row (pv 0)) (pg_name (i := 3) sc_kept_lines.nd rfl (.inl rfl))
        (pss_one (ps_for PassesOwn.never rfl (pi_list (pe_cl c_lines_of_pair hr (by decide) (by rfl) (pa_cons (pv 3) pa_nil))) (pg_name (i := 4) sc_kept_lines.nd rfl (.inl rfl))
          (pss_cons (ps_if (pt_cmp (pc_din (hu_of hr) (pv 4) (pv 2))) (pss_one ps_never) pss_nil)
          (pss_one (ps_dput (hu_of hr) (pv 2) (pv 4) pe_bl rfl))))))
      (pss_cons (ps_if (pt_cmpR op_ne (pe_callB call_lenD (by rfl) T.b_len (by decide +kernel) (pa_cons (pv 2) pa_nil)) (pv 1) (nomark _)) (pss_one ps_never) pss_nil)
      (pss_one (ps_ret (pe_callTy (call_listD rfl) (by rfl) T.b_list (by decide +kernel) (pa_cons (pv 2) pa_nil))))))))), ?_⟩
    cases o with
    | none =>
      cases (show v = .non from hi)
      refine ⟨_, rfl, rfl, _, rfl, ite2 (fun _ => ?_) (fun z => absurd (decide_eq_true rfl) z)⟩
      refine ⟨_, rfl, n, rfl, RgOk.of_le (by omega) (by omega) (by omega) (by omega), fun l hl => ?_⟩
      have e : rgV 0 n = (lnsD none n).map V.int := by
        rw [rg_ln, Int.sub_zero]
        rfl
      rw [e]
      exact q l _ hl (same_new hl) upd_same
    | some ps =>
      obtain ⟨a, xs, rfl, ra, lx, hx⟩ := hi
      have ok : okPairs ps n := ok
      refine ⟨_, rfl, rfl, _, rfl, ite2 (fun z => nomatch (show V.ref a = V.non from of_decide_eq_true z)) (fun _ => ?_)⟩
      have l1 : (xs.length : Int) ≤ 400 := by
        have := ok.l0
        omega
      refine ⟨.ref a, rfl, a, _, 0, 400, rfl, ra, fun H1 S1 => ?_⟩
      rw [decide_eq_true (show (0 : Int) ≤ (xs.length : Int) by omega), decide_eq_true l1]
      refine ⟨_, rfl, ite2 (fun z => absurd z (by decide)) fun _ => ?_⟩
      intro d hd
      have hd0 : H d = none := Same.fresh S1 hd
      obtain ⟨bb, hq⟩ := ra.sq (K := K)
      have lz : ∀ L : List Int, (tkD L).length = L.length := fun L => by
        unfold tkD
        rw [List.length_map]
      have pos : ∀ s ∈ ps, 1 ≤ s.2 := fun s hs => (ok.x s hs).2.1
      have tot : ((lnOf ps).length : Int) = n := (lnOf_len ps pos).trans ok.sum
      refine ⟨.ref a, rfl, a, bb, _, rfl, Sq.same hq (S1.trans (same_new hd)), for_it walk_row (fun i σ H' => ∃ (t3 t4 : Option V), σ = [some (.ref a), some (.int n), some (.ref d), t3, t4] ∧ Same H H' ∧ H' d = some (.dK (tkD (lnOf (ps.take i))))) ⟨_, _, rfl, S1.trans (same_new hd), upd_same⟩ (fun i σ H' _ ⟨_, _, _, z, _⟩ => Sq.same hq z) ?_ ?_⟩
      · rintro i x σ H2 H2' hi ⟨t3, t4, rfl, S2, hD⟩ ⟨rfl, hxi⟩
        have hpi : ps[i]? = some ps[i] := List.getElem?_eq_getElem (by omega)
        have hpm : ps[i] ∈ ps := List.getElem_mem _
        obtain ⟨t, rfl, et⟩ := hx i x _ hxi hpi
        obtain ⟨x0, x1, x2, x3⟩ := ok.x _ hpm
        refine ⟨.ref t, rfl, t, ps[i], rfl, S2 _ _ et, x0, x1, x2, x3, fun l hl => ?_⟩
        have ld : l ≠ d := fun z => by
          rw [z, hD] at hl
          cases hl
        have hl0 : H l = none := Same.fresh S2 hl
        have pre : ((lnOf (ps.take i)).length : Int) + ps[i].2 ≤ n := by
          have h1 := lnOf_len (ps.take i) fun s hs => pos s (List.mem_of_mem_take hs)
          have h2 : ((ps.take (i + 1)).map (·.2)).sum + ((ps.drop (i + 1)).map (·.2)).sum = n := by
            rw [← List.sum_append, ← List.map_append, List.take_append_drop]
            exact ok.sum
          have h3 := len_sum ((ps.drop (i + 1)).map (·.2)) fun m hm => by
            obtain ⟨s, hs, rfl⟩ := List.mem_map.mp hm
            exact pos s (List.mem_of_mem_drop hs)
          rw [List.take_add_one, hpi, List.map_append, List.sum_append] at h2
          have h4 : ((some ps[i]).toList.map (·.2)).sum = ps[i].2 := by
            show ps[i].2 + 0 = _
            omega
          rw [h4] at h2
          omega
        refine ⟨l, rfl, ⟨_, .inl (.inl upd_same)⟩, for_it (walk_list (xs := (lnP ps[i]).map V.int)) (fun j σ H' => ∃ (t4 : Option V), σ = [some (.ref a), some (.int n), some (.ref d), some (.ref t), t4] ∧ Same H H' ∧ H' l = some (.lst ((lnP ps[i]).map V.int)) ∧ H' d = some (.dK (tkD (lnOf (ps.take i) ++ (lnP ps[i]).take j)))) ?_ ?_ ?_ ?_⟩
        · refine ⟨_, rfl, S2.trans (same_new hl), upd_same, ?_⟩
          rw [List.take_zero, List.append_nil, upd_ne ld.symm]
          exact hD
        · exact fun j σ H' _ ⟨_, _, _, z, _⟩ => .inl (.inl z)
        · rintro j y σ H3 H3' hj ⟨t4, rfl, S3, hL, hD3⟩ ⟨rfl, hy⟩
          rw [List.length_map, lnP_len] at hj
          have hlj : (lnP ps[i])[j]? = some (ps[i].1 + (j : Int)) := by
            unfold lnP
            rw [List.getElem?_map, List.getElem?_range hj]
            rfl
          rw [List.getElem?_map, hlj] at hy
          cases hy
          have nin : ps[i].1 + (j : Int) ∉ lnOf (ps.take i) ++ (lnP ps[i]).take j := fun z => by
            rcases List.mem_append.mp z with z | z
            · obtain ⟨s, hs, hz⟩ := List.mem_flatMap.mp z
              have b1 := mem_lnP hz
              obtain ⟨m, hm, em⟩ := List.mem_iff_getElem.mp hs
              rw [List.length_take] at hm
              have ap := List.pairwise_iff_getElem.mp ok.ap m i (by omega) (by omega) (by omega)
              rw [List.getElem_take] at em
              rw [em] at ap
              rcases ap with ap | ap <;> omega
            · obtain ⟨m, hm, em⟩ := List.mem_iff_getElem.mp z
              rw [List.length_take] at hm
              rw [List.getElem_take] at em
              unfold lnP at em
              rw [List.getElem_map, List.getElem_range] at em
              omega
          refine ⟨_, rfl, .ref d, rfl, d, _, rfl, DGet.k (k := Sum.inl (ps[i].1 + (j : Int))) hD3, _, rfl, ?_⟩
          rw [tk_val nin]
          refine ite2 (fun z => absurd z (by decide)) fun _ => ?_
          refine ⟨.ref d, rfl, _, rfl, d, _, rfl, DPut.k (k := Sum.inl (ps[i].1 + (j : Int))) hD3 ?_, _, rfl, ?_, ?_, ?_⟩
          · rw [lz, List.length_append, List.length_take]
            exact Evl.sz_lt (by omega)
          · exact fun q o e => by
              rw [upd_ne (ne_of_none e hd0)]
              exact S3 q o e
          · rw [upd_ne ld]
            exact hL
          · rw [upd_same, tk_put nin, List.take_add_one, hlj, List.append_assoc]
            rfl
        · rintro σ H3 ⟨t4, rfl, S3, hL, hD3⟩
          refine ⟨_, _, rfl, S3, ?_⟩
          rw [List.length_map, List.take_length] at hD3
          rw [hD3, List.take_add_one, hpi]
          unfold lnOf
          rw [List.flatMap_append]
          show some (HO.dK (tkD (_ ++ lnP ps[i]))) = some (HO.dK (tkD (_ ++ (lnP ps[i] ++ []))))
          rw [List.append_nil]
      · rintro σ H2 ⟨t3, t4, rfl, S2, hD⟩
        rw [lx, List.take_length] at hD
        refine ⟨.ref d, rfl, d, _, rfl, hD, _, rfl, rfl, _, rfl, ?_⟩
        rw [lz, tot]
        refine ite2 (fun z => absurd z (by simp)) fun _ => ?_
        refine ⟨.ref d, rfl, d, _, rfl, .inl hD, fun l hl => ?_⟩
        rw [tk_keys]
        exact q l _ (Same.fresh S2 hl) (S2.trans (same_new hl)) upd_same
end
end My
set_option Elab.async false
set_option linter.all false
set_option maxRecDepth 100000
set_option maxHeartbeats 4000000
namespace My
open PySem PySem.Spec PyProof.Rows L2
/-- the pairs so far with one line more -/
def fpStep (ps : List (Int × Int)) (z : Int) : List (Int × Int) := match ps.getLast? with
  | none => [(z, 1)]
  | some s => if z = s.1 + s.2 then ps.dropLast ++ [(s.1, s.2 + 1)] else ps ++ [(z, 1)]
def fewest (L : List Int) : List (Int × Int) := L.foldl fpStep []
theorem AtAll.snoc {S : Av} {H : Hp} : ∀ {ds : List PyData} {d : PyData} {xs : List V}, AtAll S H xs (ds ++ [d]) → ∃ ys y, xs = ys ++ [y] ∧ AtAll S H ys ds ∧ At S H y d
  | [], d, _, h => by
    cases h with
    | cons h1 h2 =>
      cases h2
      exact ⟨[], _, rfl, .nil, h1⟩
  | e :: ds, d, _, h => by
    cases h with
    | cons h1 h2 =>
      obtain ⟨ys, y, rfl, k1, k2⟩ := AtAll.snoc h2
      exact ⟨_ :: ys, y, rfl, .cons h1 k1, k2⟩
theorem fp_nil (z : Int) : fpStep [] z = [(z, 1)] := rfl
theorem fp_snoc (ps : List (Int × Int)) (s : Int × Int) (z : Int) : fpStep (ps ++ [s]) z = if z = s.1 + s.2 then ps ++ [(s.1, s.2 + 1)] else ps ++ [s] ++ [(z, 1)] := by
  unfold fpStep
  rw [List.getLast?_concat, List.dropLast_concat]
theorem fewest_succ {L : List Int} {i : Nat} {z : Int} (h : L[i]? = some z) : fewest (L.take (i + 1)) = fpStep (fewest (L.take i)) z := by
  unfold fewest
  rw [List.take_add_one, h, List.foldl_append]
  rfl
theorem fp_len (ps : List (Int × Int)) (z : Int) : (fpStep ps z).length ≤ ps.length + 1 := by
  rcases List.eq_nil_or_concat ps with rfl | ⟨qs, s, rfl⟩
  · rw [fp_nil]
    exact Nat.le_refl _
  · rw [List.concat_eq_append, fp_snoc]
    split
    · simp
    · simp
theorem fewest_len : ∀ (L : List Int) (ps : List (Int × Int)), (L.foldl fpStep ps).length ≤ ps.length + L.length
  | [], ps => Nat.le_refl _
  | z :: r, ps => by
    have h1 := fewest_len r (fpStep ps z)
    have h2 := fp_len ps z
    rw [List.foldl_cons, List.length_cons]
    omega
def sp_fewest (K : PySem.W.Frag) : Sp := fun vs H Q _ => ∃ (S : Av) (l : Addr) (L : List Int), vs = [.ref l] ∧ Occ S H ∧ SqL K H l (L.map V.int) ∧ L.length ≤ 1000 ∧ ∀ v H', Same H H' → At S H' v (.tuple ((fewest L).map prD)) → Q v H'
section
variable {P : Program} {w : World} {K : PySem.W.Frag} {mg : Str → Option Value} {base : Heap}
theorem ok_fewest (T : Txt K mg) (D : Df K mg "fewest_pairs" s_fewest_pairs ["lines"]) : Cl P w K mg base 2 "fewest_pairs" ["lines"] (sp_fewest K) := by
  refine ok_of D sc_fewest_pairs (fun vs H Q E h => ?_) (fun f cdv A outer s H vs Q E hr h => ?_)
  · obtain ⟨S, l, L, rfl, _⟩ := h
    rfl
  · obtain ⟨S, l, L, rfl, ho, hL, lL, q⟩ := h
    refine ⟨_, (pss_cons (ps_set (i := 1) sc_fewest_pairs.nd rfl (.inl rfl) (pe_lst pa_nil))
      (pss_cons (ps_for PassesOwn.never rfl (pi_list (pv 0)) (pg_name (i := 2) sc_fewest_pairs.nd rfl (.inl rfl))
        (pss_one (ps_if (PW.pt (pw_and (pt_truth (pv 1) (by intro _; rfl)) (pw_and1 (pt_cmpR op_eq (pv 2) (pe_callB (cr_sumT rfl) (by rfl) T.b_sum (by decide +kernel) (pa_cons (pe_ix ix_list (pv 1) (pe_un un_neg pe_int) (fun _ _ => rfl)) pa_nil)) (nomark _))))) (pss_cons (ps_asg (pe_bm0 PySem.F.plainAttrs_list PySem.F.slot_list_pop PySem.F.type_list_pop mt_pop (pv 1)) (pg_tup rfl (pgs_cons (pg_name (i := 3) sc_fewest_pairs.nd rfl (.inl rfl)) (pgs_cons (pg_name (i := 4) sc_fewest_pairs.nd rfl (.inl rfl)) pgs_nil))))
          (pss_one (ps_expr (pe_bm PySem.F.plainAttrs_list PySem.F.slot_list_append PySem.F.type_list_append mt_append (pv 1) (pa_cons (pe_tup (pa_cons (pv 3) (pa_cons (pe_op op_add (pv 4) pe_int) pa_nil))) pa_nil))))) (pss_one (ps_expr (pe_bm PySem.F.plainAttrs_list PySem.F.slot_list_append PySem.F.type_list_append mt_append (pv 1) (pa_cons (pe_tup (pa_cons (pv 2) (pa_cons pe_int pa_nil))) pa_nil)))))))
      (pss_one (ps_ret (pe_callTy call_tuple_of (by rfl) T.b_tuple (by decide +kernel) (pa_cons (pv 1) pa_nil)))))), ?_⟩
    refine ⟨Nat.zero_le _, fun k hk => ?_⟩
    refine ⟨.ref l, rfl, l, rfl, ⟨_, (same_new hk).seq hL⟩, for_it (walk_list (xs := L.map V.int)) (fun i σ H' => ∃ (t2 t3 t4 : Option V) (rows : List V), σ = [some (.ref l), some (.ref k), t2, t3, t4] ∧ LcS S H k rows ((fewest (L.take i)).map prD) H') ⟨_, _, _, _, rfl, LcS.start hk⟩ (fun i σ H' _ ⟨_, _, _, _, _, L⟩ => L.s.seq hL) ?_ ?_⟩
    · rintro i x σ H2 H2' hi ⟨t2, t3, t4, rows, rfl, c⟩ ⟨rfl, hxi⟩
      rw [List.length_map] at hi
      have hLi : L[i]? = some L[i] := List.getElem?_eq_getElem hi
      rw [List.getElem?_map, hLi] at hxi
      cases hxi
      rw [fewest_succ hLi]
      have lr : rows.length ≤ 1000 := by
        have := fewest_len (L.take i) []
        rw [c.len, List.length_map]
        unfold fewest
        rw [List.length_take] at this
        have : min i L.length ≤ i := Nat.min_le_left ..
        simp at *
        omega
      rcases List.eq_nil_or_concat (fewest (L.take i)) with e | ⟨ps, s, e⟩
      · rw [e] at c ⊢
        have er : rows = [] := List.eq_nil_of_length_eq_zero (by rw [c.len]; rfl)
        subst er
        refine ⟨_, rfl, false, .inl ⟨_, .inl (.inl c.at_), rfl⟩, ite2 (fun z => absurd z Bool.false_ne_true) fun _ => ite2 (fun z => absurd z Bool.false_ne_true) fun _ => ?_⟩
        refine ⟨.ref k, rfl, .inl ⟨rfl, _, .inl (.inl c.at_)⟩, _, rfl, by show 2 ≤ sizeLine; decide, fun t ht => ?_⟩
        have c2 := c.keep (same_new (o := .tup [.int L[i], .int 1]) ht)
        refine ⟨k, _, _, rfl, rfl, c2.at_, by show 0 < sizeLine; decide, _, _, _, [.ref t], rfl, ?_⟩
        have nt : ¬ Plus S k t := (c.occ ho).free ht
        exact c2.step (.ofpair nt upd_same)
      · rw [List.concat_eq_append] at e
        rw [e] at c ⊢
        have ca := c.a
        rw [List.map_append] at ca
        obtain ⟨ys, y, rfl, a1, a2⟩ := AtAll.snoc ca
        obtain ⟨t, rfl, nt, et⟩ := a2.pair
        rw [fp_snoc]
        refine ⟨_, rfl, true, .inl ⟨_, .inl (.inl c.at_), by cases ys <;> rfl⟩, ite2 (fun _ => ?_) (fun z => absurd rfl z)⟩
        refine ⟨_, rfl, _, rfl, _, rfl, k, _, -1, .ref t, rfl, rfl, .inl (.inl c.at_), atI_last ys _, t, [s.1, s.2], rfl, .inl (.inl et), rfl, _, rfl, ?_⟩
        have es : ([s.1, s.2] : List Int).sum = s.1 + s.2 := by simp
        rw [es]
        by_cases e3 : L[i] = s.1 + s.2
        · rw [if_pos e3]
          refine ite2 (fun _ => ?_) (fun z => absurd (decide_eq_true (by rw [e3])) z)
          refine ⟨.ref k, rfl, .inl ⟨rfl, _, .inl (.inl c.at_)⟩, k, _, .ref t, rfl, rfl, c.at_, by simp, ?_⟩
          rw [List.dropLast_concat]
          have c1 := c.put (ys := ys) (es := ps.map prD) a1
          have tk : t ≠ k := fun z => nt (.inr z)
          refine ⟨t, _, rfl, .inl (.inl (by rw [upd_ne tk]; exact et)), rfl, _, _, rfl, _, _, rfl, rfl, ?_⟩
          refine ⟨.ref k, rfl, .inl ⟨rfl, _, .inl (.inl c1.at_)⟩, _, rfl, _, rfl, _, _, rfl, rfl, by show 2 ≤ sizeLine; decide, fun t' ht' => ?_⟩
          have c2 := c1.keep (same_new (o := .tup [.int s.1, .int (s.2 + 1)]) ht')
          refine ⟨k, _, _, rfl, rfl, c2.at_, ?_, _, _, _, ys ++ [.ref t'], rfl, ?_⟩
          · rw [List.length_append] at lr
            exact Evl.sz_lt (by omega)
          · have nt' : ¬ Plus S k t' := (c1.occ ho).free ht'
            rw [List.map_append]
            exact c2.step (.ofpair nt' upd_same)
        · rw [if_neg e3]
          refine ite2 (fun z => absurd (V.int.inj (of_decide_eq_true z)) e3) (fun _ => ?_)
          refine ⟨.ref k, rfl, .inl ⟨rfl, _, .inl (.inl c.at_)⟩, _, rfl, by show 2 ≤ sizeLine; decide, fun t' ht' => ?_⟩
          have c2 := c.keep (same_new (o := .tup [.int L[i], .int 1]) ht')
          refine ⟨k, _, _, rfl, rfl, c2.at_, Evl.sz_lt (by omega), _, _, _, ys ++ [.ref t] ++ [.ref t'], rfl, ?_⟩
          have nt' : ¬ Plus S k t' := (c.occ ho).free ht'
          rw [List.map_append (l₂ := [(L[i], (1 : Int))])]
          exact c2.step (.ofpair nt' upd_same)
    · rintro σ H2 ⟨t2, t3, t4, rows, rfl, c⟩
      rw [List.length_map, List.take_length] at c
      refine ⟨.ref k, rfl, k, rows, rfl, .inl ⟨.inl (.inl c.at_), fun p hp => ?_⟩⟩
      have S4 := same_new (o := .tup rows) hp
      exact q _ _ (c.s.trans S4) (.tup (ho.free (Same.fresh c.s hp)) upd_same (AtAll.same c.done S4))
end
end My
set_option Elab.async false
set_option linter.all false
set_option maxRecDepth 100000
set_option maxHeartbeats 4000000
namespace My
open PySem PySem.Spec PyProof.Rows L2
/-- a part: the book's name, the chapter, the verse, the part -/
structure Pl where
  nm : List Nat
  c : Int
  v : Int
  p : Int
def plD (x : Pl) : PyData := .tuple [.str (SX.S x.nm), .int x.c, .int x.v, .int x.p]
def plV (nm : List Nat) (ci vi : Nat) (m : Int) : List Pl := (List.range m.toNat).map fun (k : Nat) => ⟨nm, 1 + (ci : Int), 1 + (vi : Int), 1 + (k : Int)⟩
def plC (nm : List Nat) (ci : Nat) (c : List Int) : List Pl := c.zipIdx.flatMap fun x => plV nm ci x.2 x.1
def plB (b : List Nat × List (List Int)) : List Pl := b.2.zipIdx.flatMap fun x => plC b.1 x.2 x.1
def plOf (B : Bks) : List Pl := B.flatMap plB
theorem zi_succ {α : Type} {c : List α} {j : Nat} {x : α} (h : c[j]? = some x) : (c.take (j + 1)).zipIdx = (c.take j).zipIdx ++ [(x, j)] := by
  have hl : j < c.length := (List.getElem?_eq_some_iff.mp h).1
  rw [List.take_add_one, h, List.zipIdx_append, List.length_take, Nat.min_eq_left (by omega), Nat.zero_add]
  rfl
theorem plV_len (nm : List Nat) (ci vi : Nat) (m : Int) : (plV nm ci vi m).length = m.toNat := by
  unfold plV
  rw [List.length_map, List.length_range]
theorem zi_mem {α : Type} {c : List α} {x : α × Nat} (h : x ∈ c.zipIdx) : x.1 ∈ c := by
  obtain ⟨a, i⟩ := x
  have := List.mem_zipIdx h
  exact List.mem_of_getElem? (by simpa using List.mem_zipIdx_iff_getElem?.mp h)
theorem plC_len {nm : List Nat} {ci : Nat} {c : List Int} (h : ∀ m ∈ c, m ≤ 4) : (plC nm ci c).length ≤ 4 * c.length := by
  have := flat_le (fun x : Int × Nat => plV nm ci x.2 x.1) 4 c.zipIdx fun x hx => by
    rw [plV_len]
    have := h x.1 (zi_mem hx)
    omega
  rw [List.length_zipIdx] at this
  exact this
theorem plB_len {b : List Nat × List (List Int)} (h : ∀ c ∈ b.2, c.length ≤ 30 ∧ ∀ m ∈ c, m ≤ 4) : (plB b).length ≤ 120 * b.2.length := by
  have := flat_le (fun x : List Int × Nat => plC b.1 x.2 x.1) 120 b.2.zipIdx fun x hx => by
    have h1 := h x.1 (zi_mem hx)
    have := plC_len (nm := b.1) (ci := x.2) h1.2
    omega
  rw [List.length_zipIdx] at this
  exact this
theorem plOf_len {B : Bks} (h : ∀ b ∈ B, b.2.length ≤ 12 ∧ ∀ c ∈ b.2, c.length ≤ 30 ∧ ∀ m ∈ c, m ≤ 4) : (plOf B).length ≤ 1440 * B.length := by
  exact flat_le plB 1440 B fun b hb => by
    have h1 := h b hb
    have := plB_len h1.2
    omega
def sp_places : Sp := fun vs H Q _ => ∃ (S : Av) (v : V) (B : Bks), vs = [v] ∧ Occ S H ∧ At S H v (bksD B) ∧ okBks B ∧ ∀ l rows H', H l = none → Same H H' → H' l = some (.lst rows) → AtAll S H' rows ((plOf B).map plD) → Q (.ref l) H'
section
variable {P : Program} {w : World} {K : PySem.W.Frag} {mg : Str → Option Value} {base : Heap}
theorem ok_places (T : Txt K mg) (D : Df K mg "places_in" s_places_in ["books"]) : Cl P w K mg base 2 "places_in" ["books"] sp_places := by
  refine ok_of D sc_places_in (fun vs H Q E h => ?_) (fun f cdv A outer s H vs Q E hr h => ?_)
  · obtain ⟨S, v, B, rfl, _⟩ := h
    rfl
  · obtain ⟨S, v, B, rfl, ho, hv, ok, q⟩ := h
    cases hv with
    | tup na ea ka =>
    rename_i a xs
    refine ⟨_, (pss_cons (ps_set (i := 1) sc_places_in.nd rfl (.inl rfl) (pe_lst pa_nil))
      (pss_cons (ps_for PassesOwn.never rfl (pi_tup (pv 0)) (pg_tup rfl (pgs_cons (pg_name (i := 2) sc_places_in.nd rfl (.inr rfl)) (pgs_cons (pg_name (i := 3) sc_places_in.nd rfl (.inl rfl)) pgs_nil)))
        (pss_one (ps_for PassesOwn.never rfl (pi_enumC true (by rfl) T.b_enumerate (pa_cons (pv 3) pa_nil) (pk_cons pe_int pk_nil)) (pg_tup rfl (pgs_cons (pg_name (i := 4) sc_places_in.nd rfl (.inr rfl)) (pgs_cons (pg_name (i := 5) sc_places_in.nd rfl (.inl rfl)) pgs_nil)))
          (pss_one (ps_for PassesOwn.never rfl (pi_enumC true (by rfl) T.b_enumerate (pa_cons (pv 5) pa_nil) (pk_cons pe_int pk_nil)) (pg_tup rfl (pgs_cons (pg_name (i := 6) sc_places_in.nd rfl (.inr rfl)) (pgs_cons (pg_name (i := 7) sc_places_in.nd rfl (.inl rfl)) pgs_nil)))
            (pss_one (ps_expr (pe_bm PySem.F.plainAttrs_list PySem.F.slot_list_extend PySem.F.type_list_extend mt_extend (pv 1) (pa_cons (pe_lc (own := [("part", 8)]) rfl sc_places_in.nd (pi_range2 (by rfl) T.b_range (pa_cons pe_int (pa_cons (pe_op op_add (pv 7) pe_int) pa_nil))) (blkOk_by (own := [("part", 8)]) (N := N_places_in) (sc := defScope s_places_in) (by decide +kernel)) (fun _ _ _ _ _ => (pg_name (i := 8) sc_places_in.nd rfl (.inl rfl))) (fun _ _ _ _ _ => pts_nil) (fun _ _ _ _ _ => (pe_tup (pa_cons (pv 2) (pa_cons (pv 4) (pa_cons (pv 6) (pa_cons (pv 8) pa_nil))))))) pa_nil)))))))))
      (pss_one (ps_ret (pv 1))))), ?_⟩
    refine ⟨Nat.zero_le _, fun k hk => ?_⟩
    have lx : xs.length = B.length := by rw [ka.len, List.length_map]
    have bnd : ∀ b ∈ B, b.2.length ≤ 12 ∧ ∀ c ∈ b.2, c.length ≤ 30 ∧ ∀ m ∈ c, m ≤ 4 := fun b hb => ⟨(ok.ch b hb).2.1, fun c hc => ⟨((ok.ch b hb).2.2 c hc).l1, fun m hm => (((ok.ch b hb).2.2 c hc).x m hm).2⟩⟩
    refine ⟨.ref a, rfl, a, rfl, ⟨_, .inl (.inl (same_new hk _ _ ea))⟩, for_it (walk_tup (xs := xs)) (fun i σ H' => ∃ (t2 t3 t4 t5 t6 t7 t8 : Option V) (rows : List V), σ = [some (.ref a), some (.ref k), t2, t3, t4, t5, t6, t7, t8] ∧ LcS S H k rows ((plOf (B.take i)).map plD) H')
      ⟨_, _, _, _, _, _, _, _, rfl, LcS.start hk⟩ (fun i σ H' _ ⟨_, _, _, _, _, _, _, _, _, L⟩ => .inl (.inl (L.s _ _ ea))) ?_ ?_⟩
    · rintro i x σ H1 H1' hi ⟨t2, t3, t4, t5, t6, t7, t8, rows, rfl, L1⟩ ⟨rfl, hxi⟩
      obtain ⟨b, hb, hv⟩ := ka.at_ hxi
      have hbm : b ∈ B := List.mem_of_getElem? hb
      obtain ⟨ab, ac, zs, rfl, nb, eb, nc, ec, kz⟩ := hv.bk
      have lz : zs.length = b.2.length := by rw [kz.len, List.length_map]
      have lB := plOf_len (B := B.take i) fun b hb => bnd b (List.mem_of_mem_take hb)
      rw [List.length_take] at lB
      have okl := ok.l1
      refine ⟨ab, _, rfl, .inl (.inl (L1.s _ _ eb)), rfl, _, _, rfl, _, _, rfl, rfl, ?_⟩
      refine ⟨.ref ac, rfl, ac, rfl, 1, zs, rfl, by decide, by decide, .inl (.inl (L1.s _ _ ec)), for_it walk_enumC (fun j σ H' => ∃ (t4 t5 t6 t7 t8 : Option V) (rows : List V), σ = [some (.ref a), some (.ref k), some (.str (SX.S b.1)), some (.ref ac), t4, t5, t6, t7, t8] ∧ LcS S H k rows ((plOf (B.take i) ++ plB (b.1, b.2.take j)).map plD) H')
        ⟨_, _, _, _, _, rows, rfl, ?_⟩ (fun i σ H' _ ⟨_, _, _, _, _, _, _, L⟩ => .inl (.inl (L.s _ _ ec))) ?_ ?_⟩
      · have e0 : plB (b.1, b.2.take 0) = [] := rfl
        rw [e0, List.append_nil]
        exact L1
      · rintro j y σ H2 H2' hj ⟨t4, t5, t6, t7, t8, rows, rfl, L2⟩ ⟨T, x1, y1, rfl, hT, rfl, e1, hy⟩
        cases e1
        have hy : zs[j]? = some y1 := hy
        obtain ⟨c, hc, hcv⟩ := kz.at_ hy
        have hcm : c ∈ b.2 := List.mem_of_getElem? hc
        obtain ⟨ad, rfl, nd, ed⟩ := hcv.ch
        have L2 := L2.keep (same_new (o := .tup [.int (1 + (j : Int)), .ref ad]) hT)
        have lC := plB_len (b := (b.1, b.2.take j)) fun c hc => (bnd b hbm).2 c (List.mem_of_mem_take hc)
        have lC : (plB (b.1, b.2.take j)).length ≤ 120 * (b.2.take j).length := lC
        rw [List.length_take] at lC
        have okc := (bnd b hbm).1
        refine ⟨T, _, rfl, .inl (.inl upd_same), rfl, _, _, rfl, _, _, rfl, rfl, ?_⟩
        refine ⟨.ref ad, rfl, ad, rfl, 1, c.map V.int, rfl, by decide, by decide, .inl (.inl (L2.s _ _ ed)), for_it walk_enumC (fun v σ H' => ∃ (t6 t7 t8 : Option V) (rows : List V), σ = [some (.ref a), some (.ref k), some (.str (SX.S b.1)), some (.ref ac), some (.int (1 + (j : Int))), some (.ref ad), t6, t7, t8] ∧ LcS S H k rows ((plOf (B.take i) ++ plB (b.1, b.2.take j) ++ plC b.1 j (c.take v)).map plD) H')
          ⟨_, _, _, rows, rfl, ?_⟩ (fun i σ H' _ ⟨_, _, _, _, _, L⟩ => .inl (.inl (L.s _ _ ed))) ?_ ?_⟩
        · have e0 : plC b.1 j (c.take 0) = [] := rfl
          rw [e0, List.append_nil]
          exact L2
        · rintro v y σ H3 H3' hv3 ⟨t6, t7, t8, rows, rfl, L3⟩ ⟨T3, x3, y3, rfl, hT3, rfl, e3, hy3⟩
          cases e3
          rw [List.length_map] at hv3
          have hcv3 : c[v]? = some c[v] := List.getElem?_eq_getElem hv3
          have hy3 : (c.map V.int)[v]? = some y3 := hy3
          rw [List.getElem?_map, hcv3] at hy3
          cases hy3
          have okr := (ok.ch b hbm).2.2 c hcm
          have hm4 := okr.x c[v] (List.getElem_mem _)
          have L3 := L3.keep (same_new (o := .tup [.int (1 + (v : Int)), .int c[v]]) hT3)
          have lD := plC_len (nm := b.1) (ci := j) (c := c.take v) fun m hm => (((okr.x m (List.mem_of_mem_take hm))).2)
          rw [List.length_take] at lD
          have okv := okr.l1
          refine ⟨T3, _, rfl, .inl (.inl upd_same), rfl, _, _, rfl, _, _, rfl, rfl, ?_⟩
          refine ⟨.ref k, rfl, .inl ⟨rfl, _, .inl (.inl L3.at_)⟩, ?_⟩
          refine ⟨_, rfl, c[v], 1, rfl, rfl, 1, c[v] + 1, rfl, ⟨by decide, by decide, by omega, by omega⟩, fun n hn => ?_⟩
          have en : (c[v] + 1 - 1).toNat = c[v].toNat := by omega
          rw [en]
          have oS := L3.occ ho
          refine lc_range (lo := 1) (n := c[v].toNat) (fun m H' => ∃ new : List V, LcS (Plus S k) (upd H3 T3 (.tup [.int (1 + (v : Int)), .int c[v]])) n new ((plV b.1 j v (m : Int)).map plD) H') ⟨[], LcS.start hn⟩ ?_ ?_
          · rintro m H4 hm ⟨new, N⟩
            have ln : new.length = m := by
              rw [N.len, List.length_map, plV_len]
              omega
            refine ⟨rfl, _, rfl, _, rfl, _, rfl, _, rfl, by show 4 ≤ sizeLine; decide, fun t ht => ?_⟩
            have N2 := N.keep (same_new (o := .tup [.str (SX.S b.1), .int (1 + (j : Int)), .int (1 + (v : Int)), .int (1 + (m : Int))]) ht)
            refine ⟨new, N2.at_, Evl.sz_lt (by omega), new ++ [.ref t], ?_⟩
            have nt : ¬ Plus (Plus S k) n t := (N.occ oS).free ht
            have hd : At (Plus (Plus S k) n) (upd H4 t (.tup [.str (SX.S b.1), .int (1 + (j : Int)), .int (1 + (v : Int)), .int (1 + (m : Int))])) (.ref t) (plD ⟨b.1, 1 + (j : Int), 1 + (v : Int), 1 + (m : Int)⟩) := .tup nt upd_same (.cons (.str _) (.cons (.int _) (.cons (.int _) (.cons (.int _) .nil))))
            have N3 := N2.step hd
            have ev : plV b.1 j v (((m + 1 : Nat)) : Int) = plV b.1 j v (m : Int) ++ [⟨b.1, 1 + (j : Int), 1 + (v : Int), 1 + (m : Int)⟩] := by
              unfold plV
              rw [Int.toNat_natCast, Int.toNat_natCast, List.range_succ, List.map_append]
              rfl
            rw [ev, List.map_append]
            exact N3
          · rintro H4 ⟨new, N⟩
            have em : ((c[v].toNat : Nat) : Int) = c[v] := Int.toNat_of_nonneg (by omega)
            rw [em] at N
            have L4 := L3.keep N.s
            have ln : new.length = c[v].toNat := by
              rw [N.len, List.length_map, plV_len]
            have lr : rows.length ≤ 1440 * 6 + 120 * 12 + 4 * 30 := by
              rw [L3.len, List.length_map, List.length_append, List.length_append]
              omega
            refine ⟨k, n, _, _, rfl, rfl, L4.at_, N.at_, Nat.le_of_lt (Evl.sz_lt (by omega)), _, _, _, rows ++ new, rfl, ?_⟩
            have ev : plC b.1 j (c.take (v + 1)) = plC b.1 j (c.take v) ++ plV b.1 j v c[v] := by
              unfold plC
              rw [zi_succ hcv3, List.flatMap_append]
              simp
            rw [ev, ← List.append_assoc, List.map_append (l₂ := plV b.1 j v c[v])]
            exact L4.put (L4.a.app N.done)
        · rintro σ H3 ⟨t6, t7, t8, rows, rfl, L3⟩
          rw [List.length_map, List.take_length] at L3
          refine ⟨_, _, _, _, _, rows, rfl, ?_⟩
          have ev : plB (b.1, b.2.take (j + 1)) = plB (b.1, b.2.take j) ++ plC b.1 j c := by
            unfold plB
            show ((b.2.take (j + 1)).zipIdx.flatMap _) = ((b.2.take j).zipIdx.flatMap _) ++ _
            rw [zi_succ hc, List.flatMap_append]
            simp
          rw [ev, ← List.append_assoc]
          exact L3
      · rintro σ H2 ⟨t4, t5, t6, t7, t8, rows, rfl, L2⟩
        rw [lz, List.take_length] at L2
        refine ⟨_, _, _, _, _, _, _, rows, rfl, ?_⟩
        have ev : plOf (B.take (i + 1)) = plOf (B.take i) ++ plB b := by
          unfold plOf
          rw [List.take_add_one, hb, List.flatMap_append]
          simp
        rw [ev]
        exact L2
    · rintro σ H1 ⟨t2, t3, t4, t5, t6, t7, t8, rows, rfl, L⟩
      rw [lx, List.take_length] at L
      exact ⟨.ref k, rfl, q k rows H1 hk L.s L.at_ L.done⟩
end
end My
set_option Elab.async false
set_option linter.all false
set_option maxRecDepth 100000
set_option maxHeartbeats 4000000
namespace My
open PySem PySem.Spec PyProof.Rows L2
def plK (x : Pl) : List Key := [.inr (SX.S x.nm), .inl x.c, .inl x.v, .inl x.p]
abbrev StF := List Key → Option (Int × Int)
def stPut (f : StF) (n : Int) (k : List Key) : StF := fun j => if j = k then some ((match f k with | some s => s.1 | none => n), n) else f j
def stPl (f : StF) (n : Int) (x : Pl) (m : Nat) : StF := (List.range m).foldl (fun f i => stPut f n ((plK x).take (i + 1))) f
def stOf (P : List Pl) : StF := P.zipIdx.foldl (fun f x => stPl f (x.2 : Nat) x.1 4) fun _ => none
/-- the dict's items are told by f -/
def DictF (S : Av) (H : Hp) (kvs : List (List Key × V)) (f : StF) : Prop := ∀ k, match f k with
  | none => valV kvs k = none
  | some s => ∃ v, valV kvs k = some v ∧ At S H v (prD s)
theorem DictF.bt {S : Av} {H H' : Hp} {kvs : List (List Key × V)} {f : StF} (h : DictF S H kvs f) (b : BtS S H H') : DictF S H' kvs f := fun k => by
  have := h k
  cases e : f k with
  | none =>
    rw [e] at this
    exact this
  | some s =>
    rw [e] at this
    obtain ⟨v, h1, h2⟩ := this
    exact ⟨v, h1, At.bt b _ _ h2⟩
theorem DictF.weak {S S' : Av} {H : Hp} {kvs : List (List Key × V)} {f : StF} (h : DictF S H kvs f) (W : ∀ b, S' b → S b) : DictF S' H kvs f := fun k => by
  have := h k
  cases e : f k with
  | none =>
    rw [e] at this
    exact this
  | some s =>
    rw [e] at this
    obtain ⟨v, h1, h2⟩ := this
    exact ⟨v, h1, At.weak W _ _ h2⟩
theorem DictF.put {S : Av} {H : Hp} {kvs : List (List Key × V)} {f : StF} (h : DictF S H kvs f) {v : V} {n a : Int} {k : List Key} (hv : At S H v (prD (a, n))) (ha : a = match f k with | some s => s.1 | none => n) : DictF S H (putK kvs k v) (stPut f n k) := fun j => by
  unfold stPut
  by_cases e : j = k
  · rw [if_pos e]
    refine ⟨v, ?_, ?_⟩
    · rw [valV_put, if_pos e]
    · rw [← ha]
      exact hv
  · rw [if_neg e]
    have := h j
    cases q : f j with
    | none =>
      rw [q] at this
      show valV _ _ = none
      rw [valV_put, if_neg e]
      exact this
    | some s =>
      rw [q] at this
      obtain ⟨v', h1, h2⟩ := this
      exact ⟨v', by rw [valV_put, if_neg e]; exact h1, h2⟩
theorem cut4 (x0 x1 x2 x3 : V) {m : Nat} (h : m < 4) : cutV [x0, x1, x2, x3] none (some (1 + (m : Int))) = [x0, x1, x2, x3].take (m + 1) := by
  rcases m with _ | _ | _ | _ | m
  · rfl
  · rfl
  · rfl
  · rfl
  · omega
theorem six4 {m : Nat} (h : m < 4) : HT.sIx 4 4 (some (1 + (m : Int))) = m + 1 := by
  rcases m with _ | _ | _ | _ | m
  · rfl
  · rfl
  · rfl
  · rfl
  · omega
theorem plK_kV (x : Pl) (m : Nat) : ((plK x).take m).map kV = [V.str (SX.S x.nm), .int x.c, .int x.v, .int x.p].take m := by
  rw [List.map_take]
  rfl
theorem putK_len' {κ : Type} [DecidableEq κ] (c : List (κ × V)) (k : κ) (x : V) : (putK c k x).length ≤ c.length + 1 := by
  unfold putK
  split
  · rw [List.length_map]
    omega
  · rw [List.length_append]
    exact Nat.le_refl _
structure Ds (S : Av) (H : Hp) (d : Addr) (kvs : List (List Key × V)) (f : StF) (n : Nat) (H' : Hp) : Prop where
  fr : H d = none
  s : Same H H'
  at_ : H' d = some (.dT kvs)
  df : DictF (Plus S d) H' kvs f
  len : kvs.length ≤ n
theorem Ds.keep {S : Av} {H H1 H2 : Hp} {d : Addr} {kvs : List (List Key × V)} {f : StF} {n : Nat} (c : Ds S H d kvs f n H1) (k : Same H1 H2) : Ds S H d kvs f n H2 := ⟨c.fr, c.s.trans k, k _ _ c.at_, c.df.bt (Same.btS k), c.len⟩
theorem Ds.put {S : Av} {H H1 : Hp} {d : Addr} {kvs : List (List Key × V)} {f : StF} {m : Nat} (c : Ds S H d kvs f m H1) {v : V} {n a : Int} {k : List Key} (hv : At (Plus S d) H1 v (prD (a, n))) (ha : a = match f k with | some s => s.1 | none => n) : Ds S H d (putK kvs k v) (stPut f n k) (m + 1) (upd H1 d (.dT (putK kvs k v))) := by
  have U : BtS (Plus S d) H1 (upd H1 d (.dT (putK kvs k v))) := BtS.upd (.inr rfl)
  refine ⟨c.fr, fun b o e => ?_, upd_same, (c.df.put hv ha).bt U, ?_⟩
  · rw [upd_ne (ne_of_none e c.fr)]
    exact c.s b o e
  · have := putK_len' kvs k v
    have := c.len
    omega
theorem st_succ {P : List Pl} {i : Nat} {x : Pl} (h : P[i]? = some x) : stOf (P.take (i + 1)) = stPl (stOf (P.take i)) (i : Nat) x 4 := by
  unfold stOf
  rw [zi_succ h, List.foldl_append]
  rfl
theorem stPl_succ (f : StF) (n : Int) (x : Pl) (m : Nat) : stPl f n x (m + 1) = stPut (stPl f n x m) n ((plK x).take (m + 1)) := by
  unfold stPl
  rw [List.range_succ, List.foldl_append]
  rfl
theorem At.pl {S : Av} {H : Hp} {v : V} {x : Pl} (h : At S H v (plD x)) : ∃ a, v = .ref a ∧ ¬ S a ∧ H a = some (.tup [.str (SX.S x.nm), .int x.c, .int x.v, .int x.p]) := by
  cases h with
  | tup n e k =>
    cases k with
    | cons h1 k =>
      cases k with
      | cons h2 k =>
        cases k with
        | cons h3 k =>
          cases k with
          | cons h4 k =>
            cases k
            cases h1
            cases h2
            cases h3
            cases h4
            exact ⟨_, rfl, n, e⟩
def sp_stret : Sp := fun vs H Q _ => ∃ (S : Av) (l : Addr) (rows : List V) (P : List Pl), vs = [.ref l] ∧ Occ S H ∧ H l = some (.lst rows) ∧ AtAll S H rows (P.map plD) ∧ P.length ≤ 9000 ∧ ∀ d kvs H', H d = none → Same H H' → H' d = some (.dT kvs) → DictF S H' kvs (stOf P) → Q (.ref d) H'
section
variable {P : Program} {w : World} {K : PySem.W.Frag} {mg : Str → Option Value} {base : Heap}
theorem ok_stret (T : Txt K mg) (D : Df K mg "stretches_of" s_stretches_of ["places"]) : Cl P w K mg base 2 "stretches_of" ["places"] sp_stret := by
  refine ok_of D sc_stretches_of (fun vs H Q E h => ?_) (fun f cdv A outer s H vs Q E hr h => ?_)
  · obtain ⟨S, l, rows, ps, rfl, _⟩ := h
    rfl
  · obtain ⟨S, l, rows, ps, rfl, ho, hl, ha, lp, q⟩ := h
    refine ⟨_, (pss_cons (ps_set (i := 1) sc_stretches_of.nd rfl (.inl rfl) pe_dnewT)
      (pss_cons (ps_for PassesOwn.never rfl (pi_enum (by rfl) T.b_enumerate (pa_cons (pv 0) pa_nil)) (pg_tup rfl (pgs_cons (pg_name (i := 2) sc_stretches_of.nd rfl (.inl rfl)) (pgs_cons (pg_name (i := 3) sc_stretches_of.nd rfl (.inl rfl)) pgs_nil)))
        (pss_one (ps_for PassesOwn.never rfl (pi_range2 (by rfl) T.b_range (pa_cons pe_int (pa_cons pe_int pa_nil))) (pg_name (i := 4) sc_stretches_of.nd rfl (.inl rfl))
          (pss_cons (ps_set (i := 5) sc_stretches_of.nd rfl (.inl rfl) (pe_slice sl_tupA (pv 3) po_none (po_some (pv 4))))
          (pss_cons (ps_set (i := 6) sc_stretches_of.nd rfl (.inl rfl) (pe_ifExp (pt_cmp (pc_din (hu_of hr) (pv 5) (pv 1))) (pe_ix ix_tup (pe_dget (hu_of hr) (pv 1) (pv 5) (fun _ _ => rfl)) pe_int (fun _ _ => rfl)) (pv 2)))
          (pss_one (ps_dput (hu_of hr) (pv 1) (pv 5) (pe_tup (pa_cons (pv 6) (pa_cons (pv 2) pa_nil))) rfl)))))))
      (pss_one (ps_ret (pv 1))))), ?_⟩
    have lr : rows.length = ps.length := by rw [ha.len, List.length_map]
    intro d hd
    refine ⟨.ref l, rfl, l, rows, rfl, .inl (.inl (same_new hd _ _ hl)), for_it (walk_enum (xs := rows)) (fun i σ H' => ∃ (t2 t3 t4 t5 t6 : Option V) (kvs : List (List Key × V)), σ = [some (.ref l), some (.ref d), t2, t3, t4, t5, t6] ∧ Ds S H d kvs (stOf (ps.take i)) (4 * i) H') ⟨_, _, _, _, _, [], rfl, hd, same_new hd, upd_same, fun _ => rfl, Nat.zero_le _⟩ (fun i σ H' _ ⟨_, _, _, _, _, _, _, L⟩ => .inl (.inl (L.s _ _ hl))) ?_ ?_⟩
    · rintro i x σ H1 H1' hi ⟨t2, t3, t4, t5, t6, kvs, rfl, L1⟩ ⟨T1, x1, y1, rfl, hT, rfl, e1, hy⟩
      cases e1
      have hy : rows[i]? = some y1 := hy
      obtain ⟨pl, hp, hpv⟩ := ha.at_ hy
      obtain ⟨a, rfl, na, ea⟩ := hpv.pl
      have L1 := L1.keep (same_new (o := .tup [.int (i : Nat), .ref a]) hT)
      refine ⟨T1, _, rfl, .inl (.inl upd_same), rfl, _, _, rfl, _, _, rfl, rfl, ?_⟩
      refine ⟨1, 5, rfl, ⟨by decide, by decide, by decide, by decide⟩, for_range (lo := 1) (n := 4) (fun m σ H' => ∃ (t4 t5 t6 : Option V) (kvs : List (List Key × V)), σ = [some (.ref l), some (.ref d), some (.int (i : Nat)), some (.ref a), t4, t5, t6] ∧ Ds S H d kvs (stPl (stOf (ps.take i)) (i : Nat) pl m) (4 * i + m) H') ⟨_, _, _, kvs, rfl, L1⟩ ?_ ?_⟩
      · rintro m σ H2 hm ⟨t4, t5, t6, kvs, rfl, L2⟩
        have e2 := L2.s _ _ ea
        have hlen : [V.str (SX.S pl.nm), .int pl.c, .int pl.v, .int pl.p].length = 4 := rfl
        refine ⟨_, rfl, _, rfl, _, rfl, a, _, rfl, .inl (.inl e2), fun hc => ?_, fun hc b hb => ?_⟩
        · rw [hlen] at hc
          have hc := hc.2
          rw [six4 hm] at hc
          have L3 := L2
          have eb : H2 a = some (.tup (((plK pl).take (m + 1)).map kV)) := by
            rw [plK_kV, e2, hc]
            rfl
          refine ⟨_, rfl, _, rfl, d, _, rfl, DGet.t L3.at_ eb, _, rfl, ?_⟩
          have hk := L3.df ((plK pl).take (m + 1))
          cases e : stPl (stOf (ps.take i)) (i : Nat) pl m ((plK pl).take (m + 1)) with
          | none =>
            rw [e] at hk
            rw [hk]
            refine ite2 (fun z => absurd z (by decide)) fun _ => ?_
            refine ⟨_, rfl, _, rfl, _, rfl, by show 2 ≤ sizeLine; decide, fun t ht => ?_⟩
            have L4 := L3.keep (same_new (o := .tup [.int (i : Nat), .int (i : Nat)]) ht)
            have nt : ¬ Plus S d t := ((ho.same L3.s).plus L3.at_).free ht
            refine ⟨_, rfl, _, rfl, d, _, rfl, DPut.t L4.at_ (same_new ht _ _ eb) (Evl.sz_lt (by have := L4.len; omega)), _, _, _, putK kvs ((plK pl).take (m + 1)) (.ref t), rfl, ?_⟩
            rw [stPl_succ]
            exact L4.put (a := (i : Nat)) (.ofpair nt upd_same) (by rw [e])
          | some s =>
            rw [e] at hk
            obtain ⟨v, h1, h2⟩ := hk
            obtain ⟨t0, rfl, nt0, et0⟩ := h2.pair
            rw [h1]
            refine ite2 (fun _ => ?_) (fun z => absurd rfl z)
            refine ⟨_, rfl, _, rfl, d, _, rfl, h1 ▸ DGet.t L3.at_ eb, t0, _, 0, .int s.1, rfl, rfl, .inl (.inl et0), rfl, ?_⟩
            refine ⟨_, rfl, _, rfl, by show 2 ≤ sizeLine; decide, fun t ht => ?_⟩
            have L4 := L3.keep (same_new (o := .tup [.int s.1, .int (i : Nat)]) ht)
            have nt : ¬ Plus S d t := ((ho.same L3.s).plus L3.at_).free ht
            refine ⟨_, rfl, _, rfl, d, _, rfl, DPut.t L4.at_ (same_new ht _ _ eb) (Evl.sz_lt (by have := L4.len; omega)), _, _, _, putK kvs ((plK pl).take (m + 1)) (.ref t), rfl, ?_⟩
            rw [stPl_succ]
            exact L4.put (a := s.1) (.ofpair nt upd_same) (by rw [e])
        · rw [cut4 _ _ _ _ hm]
          have L3 := L2.keep (same_new (o := .tup ([V.str (SX.S pl.nm), V.int pl.c, V.int pl.v, V.int pl.p].take (m + 1))) hb)
          have eb : upd H2 b (.tup ([V.str (SX.S pl.nm), V.int pl.c, V.int pl.v, V.int pl.p].take (m + 1))) b = some (.tup (((plK pl).take (m + 1)).map kV)) := by
            rw [plK_kV, upd_same]
          refine ⟨_, rfl, _, rfl, d, _, rfl, DGet.t L3.at_ eb, _, rfl, ?_⟩
          have hk := L3.df ((plK pl).take (m + 1))
          cases e : stPl (stOf (ps.take i)) (i : Nat) pl m ((plK pl).take (m + 1)) with
          | none =>
            rw [e] at hk
            rw [hk]
            refine ite2 (fun z => absurd z (by decide)) fun _ => ?_
            refine ⟨_, rfl, _, rfl, _, rfl, by show 2 ≤ sizeLine; decide, fun t ht => ?_⟩
            have L4 := L3.keep (same_new (o := .tup [.int (i : Nat), .int (i : Nat)]) ht)
            have nt : ¬ Plus S d t := ((ho.same L3.s).plus L3.at_).free ht
            refine ⟨_, rfl, _, rfl, d, _, rfl, DPut.t L4.at_ (same_new ht _ _ eb) (Evl.sz_lt (by have := L4.len; omega)), _, _, _, putK kvs ((plK pl).take (m + 1)) (.ref t), rfl, ?_⟩
            rw [stPl_succ]
            exact L4.put (a := (i : Nat)) (.ofpair nt upd_same) (by rw [e])
          | some s =>
            rw [e] at hk
            obtain ⟨v, h1, h2⟩ := hk
            obtain ⟨t0, rfl, nt0, et0⟩ := h2.pair
            rw [h1]
            refine ite2 (fun _ => ?_) (fun z => absurd rfl z)
            refine ⟨_, rfl, _, rfl, d, _, rfl, h1 ▸ DGet.t L3.at_ eb, t0, _, 0, .int s.1, rfl, rfl, .inl (.inl et0), rfl, ?_⟩
            refine ⟨_, rfl, _, rfl, by show 2 ≤ sizeLine; decide, fun t ht => ?_⟩
            have L4 := L3.keep (same_new (o := .tup [.int s.1, .int (i : Nat)]) ht)
            have nt : ¬ Plus S d t := ((ho.same L3.s).plus L3.at_).free ht
            refine ⟨_, rfl, _, rfl, d, _, rfl, DPut.t L4.at_ (same_new ht _ _ eb) (Evl.sz_lt (by have := L4.len; omega)), _, _, _, putK kvs ((plK pl).take (m + 1)) (.ref t), rfl, ?_⟩
            rw [stPl_succ]
            exact L4.put (a := s.1) (.ofpair nt upd_same) (by rw [e])
      · rintro σ H2 ⟨t4, t5, t6, kvs, rfl, L2⟩
        exact ⟨_, _, _, _, _, kvs, rfl, by rw [st_succ hp]; exact L2⟩
    · rintro σ H1 ⟨t2, t3, t4, t5, t6, kvs, rfl, L⟩
      rw [lr, List.take_length] at L
      exact ⟨.ref d, rfl, q d kvs H1 hd L.s L.at_ (L.df.weak fun _ z => .inl z)⟩
end
end My
set_option Elab.async false
set_option linter.all false
set_option maxRecDepth 100000
set_option maxHeartbeats 4000000
namespace My
open PySem PySem.Spec PyProof.Rows L2
/-- what the top leaves of the class -/
structure EdC (K : PySem.W.Frag) (C : Addr) : Prop where
  cl : Cls K C
  n1 : NoAttr K C "_books"
  n2 : NoAttr K C "_chapters"
  n3 : NoAttr K C "_places"
  n4 : NoAttr K C "_stretches"
  n5 : NoAttr K C "_lines"
  n6 : NoAttr K C "_numbers"
  n7 : NoAttr K C "_told"
/-- what an edition tells -/
def toldD (B : Bks) (L : List Int) : PyData := .tuple [bksD B, .tuple ((fewest L).map prD)]
/-- the number of each line -/
def numD (L : List Int) : List (Key × V) := L.zipIdx.map fun x => ((Sum.inl x.1 : Key), V.int (x.2 : Nat))
/-- the chapters by the books' names -/
structure ChF (S : Av) (H : Hp) (kvs : List (Key × V)) (B : Bks) : Prop where
  k : kvs.map (·.1) = B.map fun b => (Sum.inr (SX.S b.1) : Key)
  v : AtAll S H (kvs.map (·.2)) (B.map fun b => chsD b.2)
structure EdW where
  dx : Addr
  vb : V
  dc : Addr
  ckv : List (Key × V)
  dp : Addr
  rows : List V
  ds : Addr
  kvs : List (List Key × V)
  dl : Addr
  dn : Addr
  vt : V
/-- its fields -/
def edF (w : EdW) : List (Str × V) := [("_books", w.vb), ("_chapters", .ref w.dc), ("_places", .ref w.dp), ("_stretches", .ref w.ds), ("_lines", .ref w.dl), ("_numbers", .ref w.dn), ("_told", w.vt)]
theorem edF1 (w : EdW) : (edF w).lookup ("_books" : Str) = some w.vb := rfl
theorem edF2 (w : EdW) : (edF w).lookup ("_chapters" : Str) = some (.ref w.dc) := rfl
theorem edF3 (w : EdW) : (edF w).lookup ("_places" : Str) = some (.ref w.dp) := rfl
theorem edF4 (w : EdW) : (edF w).lookup ("_stretches" : Str) = some (.ref w.ds) := rfl
theorem edF5 (w : EdW) : (edF w).lookup ("_lines" : Str) = some (.ref w.dl) := rfl
theorem edF6 (w : EdW) : (edF w).lookup ("_numbers" : Str) = some (.ref w.dn) := rfl
theorem edF7 (w : EdW) : (edF w).lookup ("_told" : Str) = some w.vt := rfl
/-- an edition of the books B with the lines L stands at e -/
structure EdIn (S : Av) (H : Hp) (C e : Addr) (B : Bks) (L : List Int) (w : EdW) : Prop where
  at_ : H e = some (.ins C w.dx (edF w))
  n0 : ¬ S e
  n2 : ¬ S w.dc
  n3 : ¬ S w.dp
  n4 : ¬ S w.ds
  n5 : ¬ S w.dl
  n6 : ¬ S w.dn
  h1 : At S H w.vb (bksD B)
  h2 : H w.dc = some (.dK w.ckv)
  c2 : ChF S H w.ckv B
  h3 : H w.dp = some (.lst w.rows)
  c3 : AtAll S H w.rows ((plOf B).map plD)
  h4 : H w.ds = some (.dT w.kvs)
  c4 : DictF S H w.kvs (stOf (plOf B))
  h5 : H w.dl = some (.lst (L.map V.int))
  h6 : H w.dn = some (.dK (numD L))
  h7 : At S H w.vt (toldD B L)
def EdAt (S : Av) (H : Hp) (C e : Addr) (B : Bks) (L : List Int) : Prop := ∃ w, EdIn S H C e B L w
theorem EdAt.bt {S : Av} {H H' : Hp} {C e : Addr} {B : Bks} {L : List Int} (h : EdAt S H C e B L) (b : BtS S H H') : EdAt S H' C e B L := by
  obtain ⟨w, h⟩ := h
  exact ⟨w, { h with at_ := b _ _ h.n0 h.at_, h1 := At.bt b _ _ h.h1, h2 := b _ _ h.n2 h.h2, c2 := ⟨h.c2.k, AtAll.bt b _ _ h.c2.v⟩, h3 := b _ _ h.n3 h.h3, c3 := AtAll.bt b _ _ h.c3, h4 := b _ _ h.n4 h.h4, c4 := h.c4.bt b, h5 := b _ _ h.n5 h.h5, h6 := b _ _ h.n6 h.h6, h7 := At.bt b _ _ h.h7 }⟩
/-- books handed in don't stand at an instance -/
theorem BksIn.plusX {S : Av} {H : Hp} {v : V} {B : Bks} {x C dx : Addr} {fs : List (Str × V)} (h : BksIn S H v B) (g : H x = some (.ins C dx fs)) : BksIn (Plus S x) H v B := by
  obtain ⟨a, xs, e, r, l, k⟩ := h
  refine ⟨a, xs, e, r, l, fun i y b h1 h2 => ?_⟩
  obtain ⟨a2, c2, ys, e2, f2, r2, l2, k2⟩ := k i y b h1 h2
  refine ⟨a2, c2, ys, e2, f2, r2, l2, fun j z c h3 h4 => ?_⟩
  obtain ⟨a3, e3, n3, r3⟩ := k2 j z c h3 h4
  refine ⟨a3, e3, fun q => q.elim n3 fun q => ?_, r3⟩
  rcases r3 with r3 | r3
  · rw [q, g] at r3
    cases r3
  · rw [q, g] at r3
    cases r3
theorem LnIn.btx {H H' : Hp} {v : V} {o : Option (List (Int × Int))} {x C dx : Addr} {fs : List (Str × V)} (h : LnIn H v o) (g : H x = some (.ins C dx fs)) (z : Bt x H H') : LnIn H' v o := by
  cases o with
  | none => exact h
  | some ps =>
    obtain ⟨a, xs, e, r, l, k⟩ := h
    refine ⟨a, xs, e, ?_, l, fun i y s h1 h2 => ?_⟩
    · rcases r with r | r
      · exact .inl (z _ _ (fun q => by rw [q, g] at r; cases r) r)
      · exact .inr (z _ _ (fun q => by rw [q, g] at r; cases r) r)
    · obtain ⟨t, e1, e2⟩ := k i y s h1 h2
      exact ⟨t, e1, z _ _ (fun q => by rw [q, g] at e2; cases e2) e2⟩
theorem At.bk2 {S : Av} {H : Hp} {v : V} {b : List Nat × List (List Int)} (h : At S H v (bkD b)) : ∃ a v2, v = .ref a ∧ H a = some (.tup [.str (SX.S b.1), v2]) ∧ At S H v2 (chsD b.2) := by
  cases h with
  | tup n e k =>
    cases k with
    | cons h1 k2 =>
      cases k2 with
      | cons h2 k3 =>
        cases k3
        cases h1
        exact ⟨_, _, rfl, e, h2⟩
theorem numD_succ {L : List Int} {i : Nat} {z : Int} (h : L[i]? = some z) : numD (L.take (i + 1)) = numD (L.take i) ++ [((Sum.inl z : Key), V.int (i : Nat))] := by
  unfold numD
  rw [zi_succ h, List.map_append]
  rfl
theorem zi_fst {α : Type} : ∀ (L : List α) (n : Nat), (L.zipIdx n).map (·.1) = L
  | [], _ => rfl
  | a :: r, n => by
    rw [List.zipIdx_cons, List.map_cons, zi_fst r]
theorem numD_keys (L : List Int) : (numD L).map (·.1) = L.map fun z => (Sum.inl z : Key) := by
  unfold numD
  rw [List.map_map]
  have := zi_fst L 0
  conv => rhs; rw [← this]
  rw [List.map_map]
  rfl
/-- what Edition's __init__ is handed and leaves -/
def sp_init (C : Addr) : Sp := fun vs H Q _ => ∃ (S : Av) (x dx : Addr) (bv lv : V) (B : Bks) (o : Option (List (Int × Int))), vs = [.ref x, bv, lv] ∧ ¬ S x ∧ Occ S H ∧ H x = some (.ins C dx []) ∧ BksIn S H bv B ∧ okBks B ∧ LnIn H lv o ∧ okLn o (plOf B).length ∧ (lnsD o (plOf B).length).Nodup ∧ (lnsD o (plOf B).length).length = (plOf B).length ∧
  ∀ H', Bt x H H' → EdAt S H' C x B (lnsD o (plOf B).length) → Q .non H'
section
variable {P : Program} {w : World} {K : PySem.W.Frag} {mg : Str → Option Value} {base : Heap}
theorem ok_init {C f : Addr} {fd : FuncData} (T : Txt K mg) (EC : EdC K C) (c_kept_books : Cl P w K mg base 5 "kept_books" ["books"] sp_keptBks) (c_places_in : Cl P w K mg base 2 "places_in" ["books"] sp_places) (c_stretches_of : Cl P w K mg base 2 "stretches_of" ["places"] sp_stret) (c_kept_lines : Cl P w K mg base 4 "kept_lines" ["lines", "size"] sp_keptLn) (c_fewest_pairs : Cl P w K mg base 2 "fewest_pairs" ["lines"] (sp_fewest K)) {dvs : List V} {kws : List (Str × V)} (F : FunD K "__init__" "Edition.__init__" (defArgs s_Edition___init__) (defBody s_Edition___init__) (defScope s_Edition___init__) dvs kws f fd) : FnOk P w K mg base CX0 6 f fd ["self", "books", "lines"] (sp_init C) := by
  refine funD_ok0 F sc_Edition___init__ (fun vs H Q E h => ?_) (fun cdv A outer s H vs Q E hr h => ?_)
  · obtain ⟨S, x, dx, bv, lv, B, o, rfl, _⟩ := h
    rfl
  · obtain ⟨S, x, dx, bv, lv, B, o, rfl, nx, ho, hx, hB, okB, hL, okL, nd, ll, q⟩ := h
    refine ⟨_, (pss_cons (ps_fld (pv 0) (pe_cl c_kept_books hr (by decide) (by rfl) (pa_cons (pv 1) pa_nil)) rfl)
      (pss_cons (ps_fld (pv 0) (pe_dc (own := [("name", 3), ("chapters", 4)]) rfl sc_Edition___init__.nd (pi_tup (pe_fld (pv 0) rfl)) (blkOk_by (own := [("name", 3), ("chapters", 4)]) (N := N_Edition___init__) (sc := defScope s_Edition___init__) (by decide +kernel)) (fun _ _ _ _ _ => (pg_tupK (K := K) (n := 2) rfl rfl (pgs_cons (pg_name (i := 3) sc_Edition___init__.nd rfl (.inl rfl)) (pgs_cons (pg_name (i := 4) sc_Edition___init__.nd rfl (.inl rfl)) pgs_nil)))) (fun _ _ _ _ _ => pts_nil) (fun _ _ _ _ _ => (pv 3)) (fun _ _ _ _ _ => (pv 4))) rfl)
      (pss_cons (ps_fld (pv 0) (pe_cl c_places_in hr (by decide) (by rfl) (pa_cons (pe_fld (pv 0) rfl) pa_nil)) rfl)
      (pss_cons (ps_fld (pv 0) (pe_cl c_stretches_of hr (by decide) (by rfl) (pa_cons (pe_fld (pv 0) rfl) pa_nil)) rfl)
      (pss_cons (ps_fld (pv 0) (pe_cl c_kept_lines hr (by decide) (by rfl) (pa_cons (pv 2) (pa_cons (pe_callB call_len (by rfl) T.b_len (by decide +kernel) (pa_cons (pe_fld (pv 0) rfl) pa_nil)) pa_nil))) rfl)
      (pss_cons (ps_fld (pv 0) (pe_dc (own := [("number", 5), ("line", 6)]) rfl sc_Edition___init__.nd (pi_enum (by rfl) T.b_enumerate (pa_cons (pe_fld (pv 0) rfl) pa_nil)) (blkOk_by (own := [("number", 5), ("line", 6)]) (N := N_Edition___init__) (sc := defScope s_Edition___init__) (by decide +kernel)) (fun _ _ _ _ _ => (pg_tupK (K := K) (n := 2) rfl rfl (pgs_cons (pg_name (i := 5) sc_Edition___init__.nd rfl (.inl rfl)) (pgs_cons (pg_name (i := 6) sc_Edition___init__.nd rfl (.inl rfl)) pgs_nil)))) (fun _ _ _ _ _ => pts_nil) (fun _ _ _ _ _ => (pv 6)) (fun _ _ _ _ _ => (pv 5))) rfl)
      (pss_one (ps_fld (pv 0) (pe_tup (pa_cons (pe_fld (pv 0) rfl) (pa_cons (pe_cl c_fewest_pairs hr (by decide) (by rfl) (pa_cons (pe_fld (pv 0) rfl) pa_nil)) pa_nil))) rfl)))))))), ?_⟩
    have oS : Occ (Plus S x) H := ho.plus hx
    have lP := plOf_len (B := B) fun b hb => ⟨(okB.ch b hb).2.1, fun c hc => ⟨((okB.ch b hb).2.2 c hc).l1, fun m hm => (((okB.ch b hb).2.2 c hc).x m hm).2⟩⟩
    have l6 := okB.l1
    -- the books
    refine ⟨bv, rfl, Plus S x, bv, B, rfl, oS, hB.plusX hx, okB, fun vb H1 S1 hvb => ⟨.ref x, rfl, x, C, dx, [], rfl, S1 _ _ hx, EC.cl, EC.n1, by decide, ?_⟩⟩
    have Ax : At (Plus S x) (upd H1 x (.ins C dx (putF "_books" vb []))) vb (bksD B) := At.bt (BtS.upd (.inr rfl)) _ _ hvb
    have xa : upd H1 x (.ins C dx (putF "_books" vb [])) x = some (.ins C dx [("_books", vb)]) := upd_same
    have oa : Occ (Plus S x) (upd H1 x (.ins C dx (putF "_books" vb []))) := (oS.same S1).upd
    have ba : Bt x H (upd H1 x (.ins C dx (putF "_books" vb []))) := (Bt.same S1).trans Bt.upd
    generalize upd H1 x (.ins C dx (putF "_books" vb [])) = Ha at Ax xa oa ba ⊢
    -- the chapters by name
    have Ax' := Ax
    cases Ax' with
    | tup nt et ka =>
    rename_i t xs
    have lx : xs.length = B.length := by rw [ka.len, List.length_map]
    refine ⟨.ref x, rfl, x, C, dx, _, .ref t, rfl, xa, EC.cl, EC.n1, rfl, t, rfl, ⟨_, .inl (.inl et)⟩, fun D hD => ?_⟩
    refine dc_it (walk_tup (xs := xs)) (fun i H' => ∃ kvs, Same Ha H' ∧ H' D = some (.dK kvs) ∧ ChF (Plus (Plus S x) D) H' kvs (B.take i)) ⟨[], same_new hD, upd_same, rfl, .nil⟩ (fun i H' _ ⟨_, z, _⟩ => .inl (.inl (z _ _ et))) ?_ ?_
    · rintro i y H2 H2' hi ⟨kvs, S2, hD2, cf⟩ ⟨rfl, hy⟩
      obtain ⟨b, hb, hv⟩ := ka.at_ hy
      obtain ⟨a2, v2, rfl, e2, h2⟩ := (At.same (hv.plusN hD) S2).bk2
      have lk : kvs.length = i := by
        have := congrArg List.length cf.k
        rw [List.length_map, List.length_map, List.length_take] at this
        omega
      have new : valV kvs (Sum.inr (SX.S b.1) : Key) = none := by
        refine val_no ?_
        rw [cf.k]
        intro z
        obtain ⟨b', hb', e'⟩ := List.mem_map.mp z
        have e' : b'.1 = b.1 := SX.S_inj (Sum.inr.inj e')
        have h1 : (B.map (·.1))[i]? = some b.1 := by
          rw [List.getElem?_map, hb]
          rfl
        refine nodup_take_not okB.nd h1 ?_
        rw [← List.map_take]
        exact List.mem_map.mpr ⟨b', hb', e'⟩
      refine ⟨a2, _, rfl, .inl (.inl e2), rfl, _, _, rfl, _, _, rfl, rfl, rfl, _, rfl, _, rfl, kvs, .inr (SX.S b.1), rfl, hD2, Evl.sz_lt (by omega), kvs ++ [(.inr (SX.S b.1), v2)], ?_, ?_, ?_⟩
      · exact fun q o e => by
          rw [upd_ne (ne_of_none e hD)]
          exact S2 q o e
      · rw [upd_same, putK_new _ new]
      · have U : BtS (Plus (Plus S x) D) H2' (upd H2' D (.dK (putK kvs (.inr (SX.S b.1)) v2))) := BtS.upd (.inr rfl)
        refine ⟨?_, ?_⟩
        · rw [List.map_append, cf.k, List.take_add_one, hb, List.map_append]
          rfl
        · rw [List.map_append, List.take_add_one, hb, List.map_append]
          exact (AtAll.bt U _ _ cf.v).app (.cons (At.bt U _ _ h2) .nil)
    · rintro H2 ⟨ckv, S2, hD2, cf⟩
      rw [lx, List.take_length] at cf
      have cv : AtAll (Plus S x) H2 (ckv.map (·.2)) (B.map fun b => chsD b.2) := AtAll.weak (fun _ z => .inl z) _ _ cf.v
      refine ⟨.ref x, rfl, x, C, dx, _, rfl, S2 _ _ xa, EC.cl, EC.n2, by show 1 < 1000; decide, ?_⟩
      have nD : ¬ Plus S x D := oa.free hD
      have U := BtS.upd (S := Plus S x) (H := H2) (p := x) (o := .ins C dx (putF "_chapters" (.ref D) [("_books", .ref t)])) (.inr rfl)
      have A2 := At.bt U _ _ (At.same Ax S2)
      have c2 : AtAll (Plus S x) (upd H2 x (.ins C dx (putF "_chapters" (.ref D) [("_books", .ref t)]))) (ckv.map (·.2)) (B.map fun b => chsD b.2) := AtAll.bt U _ _ cv
      have d2 := U _ _ nD hD2
      have xb : upd H2 x (.ins C dx (putF "_chapters" (.ref D) [("_books", .ref t)])) x = some (.ins C dx [("_books", .ref t), ("_chapters", .ref D)]) := upd_same
      have ob : Occ (Plus S x) (upd H2 x (.ins C dx (putF "_chapters" (.ref D) [("_books", .ref t)]))) := (oa.same S2).upd
      have bb : Bt x H (upd H2 x (.ins C dx (putF "_chapters" (.ref D) [("_books", .ref t)]))) := (ba.trans (Bt.same S2)).trans Bt.upd
      generalize upd H2 x (.ins C dx (putF "_chapters" (.ref D) [("_books", .ref t)])) = Hb at A2 c2 d2 xb ob bb ⊢
      -- the places
      refine ⟨.ref x, rfl, x, C, dx, _, .ref t, rfl, xb, EC.cl, EC.n1, rfl, Plus S x, .ref t, B, rfl, ob, A2, okB, fun l rows H3 hl S3 el rl => ?_⟩
      refine ⟨.ref x, rfl, x, C, dx, _, rfl, S3 _ _ xb, EC.cl, EC.n3, by show 2 < 1000; decide, ?_⟩
      have nl : ¬ Plus S x l := ob.free hl
      have U3 := BtS.upd (S := Plus S x) (H := H3) (p := x) (o := .ins C dx (putF "_places" (.ref l) [("_books", .ref t), ("_chapters", .ref D)])) (.inr rfl)
      have W3 := (Same.btS S3).trans U3
      have A3 := At.bt W3 _ _ A2
      have c3 := AtAll.bt W3 _ _ c2
      have d3 := W3 _ _ nD d2
      have l3 := U3 _ _ nl el
      have r3 := AtAll.bt U3 _ _ rl
      have xc : upd H3 x (.ins C dx (putF "_places" (.ref l) [("_books", .ref t), ("_chapters", .ref D)])) x = some (.ins C dx [("_books", .ref t), ("_chapters", .ref D), ("_places", .ref l)]) := upd_same
      have oc : Occ (Plus S x) (upd H3 x (.ins C dx (putF "_places" (.ref l) [("_books", .ref t), ("_chapters", .ref D)]))) := (ob.same S3).upd
      have bc : Bt x H (upd H3 x (.ins C dx (putF "_places" (.ref l) [("_books", .ref t), ("_chapters", .ref D)]))) := (bb.trans (Bt.same S3)).trans Bt.upd
      generalize upd H3 x (.ins C dx (putF "_places" (.ref l) [("_books", .ref t), ("_chapters", .ref D)])) = Hc at A3 c3 d3 l3 r3 xc oc bc ⊢
      -- the stretches
      refine ⟨.ref x, rfl, x, C, dx, _, .ref l, rfl, xc, EC.cl, EC.n3, rfl, Plus S x, l, rows, plOf B, rfl, oc, l3, r3, by omega, fun d kvs H4 hd S4 ed fd4 => ?_⟩
      refine ⟨.ref x, rfl, x, C, dx, _, rfl, S4 _ _ xc, EC.cl, EC.n4, by show 3 < 1000; decide, ?_⟩
      have ndd : ¬ Plus S x d := oc.free hd
      have U4 := BtS.upd (S := Plus S x) (H := H4) (p := x) (o := .ins C dx (putF "_stretches" (.ref d) [("_books", .ref t), ("_chapters", .ref D), ("_places", .ref l)])) (.inr rfl)
      have W4 := (Same.btS S4).trans U4
      have A4 := At.bt W4 _ _ A3
      have c4 := AtAll.bt W4 _ _ c3
      have d4 := W4 _ _ nD d3
      have l4 := W4 _ _ nl l3
      have r4 := AtAll.bt W4 _ _ r3
      have s4 := U4 _ _ ndd ed
      have f4 := fd4.bt U4
      have xd : upd H4 x (.ins C dx (putF "_stretches" (.ref d) [("_books", .ref t), ("_chapters", .ref D), ("_places", .ref l)])) x = some (.ins C dx [("_books", .ref t), ("_chapters", .ref D), ("_places", .ref l), ("_stretches", .ref d)]) := upd_same
      have od : Occ (Plus S x) (upd H4 x (.ins C dx (putF "_stretches" (.ref d) [("_books", .ref t), ("_chapters", .ref D), ("_places", .ref l)]))) := (oc.same S4).upd
      have bd : Bt x H (upd H4 x (.ins C dx (putF "_stretches" (.ref d) [("_books", .ref t), ("_chapters", .ref D), ("_places", .ref l)]))) := (bc.trans (Bt.same S4)).trans Bt.upd
      generalize upd H4 x (.ins C dx (putF "_stretches" (.ref d) [("_books", .ref t), ("_chapters", .ref D), ("_places", .ref l)])) = Hd at A4 c4 d4 l4 r4 s4 f4 xd od bd ⊢
      -- the lines
      have lr : rows.length = (plOf B).length := by rw [r4.len, List.length_map]
      refine ⟨lv, rfl, .ref x, rfl, x, C, dx, _, .ref l, rfl, xd, EC.cl, EC.n3, rfl, _, rows.length, rfl, .inl ⟨rows, .inl (.inl l4), rfl⟩, ?_⟩
      rw [lr]
      refine ⟨lv, o, _, rfl, hL.btx hx bd, okL, fun ll2 H5 hl5 S5 el5 => ?_⟩
      refine ⟨.ref x, rfl, x, C, dx, _, rfl, S5 _ _ xd, EC.cl, EC.n5, by show 4 < 1000; decide, ?_⟩
      have n5 : ¬ Plus S x ll2 := od.free hl5
      have U5 := BtS.upd (S := Plus S x) (H := H5) (p := x) (o := .ins C dx (putF "_lines" (.ref ll2) [("_books", .ref t), ("_chapters", .ref D), ("_places", .ref l), ("_stretches", .ref d)])) (.inr rfl)
      have W5 := (Same.btS S5).trans U5
      have A5 := At.bt W5 _ _ A4
      have c5 := AtAll.bt W5 _ _ c4
      have d5 := W5 _ _ nD d4
      have l5 := W5 _ _ nl l4
      have r5 := AtAll.bt W5 _ _ r4
      have s5 := W5 _ _ ndd s4
      have f5 := f4.bt W5
      have e5 := U5 _ _ n5 el5
      have xe : upd H5 x (.ins C dx (putF "_lines" (.ref ll2) [("_books", .ref t), ("_chapters", .ref D), ("_places", .ref l), ("_stretches", .ref d)])) x = some (.ins C dx [("_books", .ref t), ("_chapters", .ref D), ("_places", .ref l), ("_stretches", .ref d), ("_lines", .ref ll2)]) := upd_same
      have oe : Occ (Plus S x) (upd H5 x (.ins C dx (putF "_lines" (.ref ll2) [("_books", .ref t), ("_chapters", .ref D), ("_places", .ref l), ("_stretches", .ref d)]))) := (od.same S5).upd
      have be : Bt x H (upd H5 x (.ins C dx (putF "_lines" (.ref ll2) [("_books", .ref t), ("_chapters", .ref D), ("_places", .ref l), ("_stretches", .ref d)]))) := (bd.trans (Bt.same S5)).trans Bt.upd
      generalize upd H5 x (.ins C dx (putF "_lines" (.ref ll2) [("_books", .ref t), ("_chapters", .ref D), ("_places", .ref l), ("_stretches", .ref d)])) = He at A5 c5 d5 l5 r5 s5 f5 e5 xe oe be ⊢
      -- the numbers
      have okl1 : (plOf B).length ≤ 400 := by
        have := okL.2.1
        omega
      generalize lnsD o (plOf B).length = L at nd ll q e5
      refine ⟨.ref x, rfl, x, C, dx, _, .ref ll2, rfl, xe, EC.cl, EC.n5, rfl, ll2, _, rfl, .inl (.inl e5), fun Dn hDn => ?_⟩
      refine dc_it (walk_enum (xs := L.map V.int)) (fun i H' => Same He H' ∧ H' Dn = some (.dK (numD (L.take i)))) ⟨same_new hDn, upd_same⟩ (fun i H' _ ⟨z, _⟩ => .inl (.inl (z _ _ e5))) ?_ ?_
      · rintro i y H6 H6' hi ⟨S6, hD6⟩ ⟨T6, x6, y6, rfl, hT6, rfl, e6, hy6⟩
        cases e6
        rw [List.length_map] at hi
        have hLi : L[i]? = some L[i] := List.getElem?_eq_getElem hi
        have hy6 : (L.map V.int)[i]? = some y6 := hy6
        rw [List.getElem?_map, hLi] at hy6
        cases hy6
        have new : valV (numD (L.take i)) (Sum.inl L[i] : Key) = none := by
          refine val_no ?_
          rw [numD_keys]
          intro z
          obtain ⟨z', hz', e'⟩ := List.mem_map.mp z
          rw [Sum.inl.inj e'] at hz'
          exact nodup_take_not nd hLi hz'
        refine ⟨T6, _, rfl, .inl (.inl upd_same), rfl, _, _, rfl, _, _, rfl, rfl, rfl, _, rfl, _, rfl, numD (L.take i), .inl L[i], rfl, same_new hT6 _ _ hD6, Evl.sz_lt ?_, ?_, ?_⟩
        · unfold numD
          rw [List.length_map, List.length_zipIdx, List.length_take]
          omega
        · exact fun q o e => by
            rw [upd_ne (ne_of_none e hDn)]
            exact same_new hT6 _ _ (S6 q o e)
        · rw [upd_same, putK_new _ new, numD_succ hLi]
      · rintro H6 ⟨S6, hD6⟩
        rw [List.length_map, List.take_length] at hD6
        refine ⟨.ref x, rfl, x, C, dx, _, rfl, S6 _ _ xe, EC.cl, EC.n6, by show 5 < 1000; decide, ?_⟩
        have n6 : ¬ Plus S x Dn := oe.free hDn
        have U6 := BtS.upd (S := Plus S x) (H := H6) (p := x) (o := .ins C dx (putF "_numbers" (.ref Dn) [("_books", .ref t), ("_chapters", .ref D), ("_places", .ref l), ("_stretches", .ref d), ("_lines", .ref ll2)])) (.inr rfl)
        have W6 := (Same.btS S6).trans U6
        have A6 := At.bt W6 _ _ A5
        have c6 := AtAll.bt W6 _ _ c5
        have d6 := W6 _ _ nD d5
        have l6' := W6 _ _ nl l5
        have r6 := AtAll.bt W6 _ _ r5
        have s6 := W6 _ _ ndd s5
        have f6 := f5.bt W6
        have e6 := W6 _ _ n5 e5
        have m6 := U6 _ _ n6 hD6
        have xf : upd H6 x (.ins C dx (putF "_numbers" (.ref Dn) [("_books", .ref t), ("_chapters", .ref D), ("_places", .ref l), ("_stretches", .ref d), ("_lines", .ref ll2)])) x = some (.ins C dx [("_books", .ref t), ("_chapters", .ref D), ("_places", .ref l), ("_stretches", .ref d), ("_lines", .ref ll2), ("_numbers", .ref Dn)]) := upd_same
        have og : Occ (Plus S x) (upd H6 x (.ins C dx (putF "_numbers" (.ref Dn) [("_books", .ref t), ("_chapters", .ref D), ("_places", .ref l), ("_stretches", .ref d), ("_lines", .ref ll2)]))) := (oe.same S6).upd
        have bf : Bt x H (upd H6 x (.ins C dx (putF "_numbers" (.ref Dn) [("_books", .ref t), ("_chapters", .ref D), ("_places", .ref l), ("_stretches", .ref d), ("_lines", .ref ll2)]))) := (be.trans (Bt.same S6)).trans Bt.upd
        generalize upd H6 x (.ins C dx (putF "_numbers" (.ref Dn) [("_books", .ref t), ("_chapters", .ref D), ("_places", .ref l), ("_stretches", .ref d), ("_lines", .ref ll2)])) = Hf at A6 c6 d6 l6' r6 s6 f6 e6 m6 xf og bf ⊢
        -- what it tells
        refine ⟨.ref x, rfl, x, C, dx, _, .ref t, rfl, xf, EC.cl, EC.n1, rfl, ?_⟩
        refine ⟨.ref x, rfl, x, C, dx, _, .ref ll2, rfl, xf, EC.cl, EC.n5, rfl, Plus S x, _, L, rfl, og, .inl (.inl e6), by omega, fun v H7 S7 hv => ?_⟩
        refine ⟨by show 2 ≤ sizeLine; decide, fun tt htt => ?_⟩
        have S8 := same_new (o := .tup [.ref t, v]) htt
        have S78 := S7.trans S8
        refine ⟨.ref x, rfl, x, C, dx, _, rfl, S78 _ _ xf, EC.cl, EC.n7, by show 6 < 1000; decide, ?_⟩
        have nt7 : ¬ Plus S x tt := og.free (Same.fresh S7 htt)
        have T7 : At (Plus S x) (upd H7 tt (.tup [.ref t, v])) (.ref tt) (toldD B L) := .tup nt7 upd_same (.cons (At.same A6 S78) (.cons (At.same hv S8) .nil))
        have U7 := BtS.upd (S := Plus S x) (H := upd H7 tt (.tup [.ref t, v])) (p := x) (o := .ins C dx (putF "_told" (.ref tt) [("_books", .ref t), ("_chapters", .ref D), ("_places", .ref l), ("_stretches", .ref d), ("_lines", .ref ll2), ("_numbers", .ref Dn)])) (.inr rfl)
        have W7 := (Same.btS S78).trans U7
        have wk : ∀ b, S b → Plus S x b := fun _ z => .inl z
        have nn : ∀ {b}, ¬ Plus S x b → ¬ S b := fun n z => n (.inl z)
        refine q _ ((bf.trans (Bt.same S78)).trans Bt.upd) ⟨⟨dx, .ref t, D, ckv, l, rows, d, kvs, ll2, Dn, .ref tt⟩, ?_⟩
        exact { at_ := upd_same, n0 := nx, n2 := nn nD, n3 := nn nl, n4 := nn ndd, n5 := nn n5, n6 := nn n6
                h1 := At.weak wk _ _ (At.bt W7 _ _ A6), h2 := W7 _ _ nD d6, c2 := ⟨cf.k, AtAll.weak wk _ _ (AtAll.bt W7 _ _ c6)⟩
                h3 := W7 _ _ nl l6', c3 := AtAll.weak wk _ _ (AtAll.bt W7 _ _ r6), h4 := W7 _ _ ndd s6, c4 := (f6.bt W7).weak wk, h5 := W7 _ _ n5 e6, h6 := W7 _ _ n6 m6, h7 := At.weak wk _ _ (At.bt U7 _ _ T7) }
end
end My
set_option Elab.async false
set_option linter.all false
set_option maxRecDepth 100000
set_option maxHeartbeats 4000000
namespace My
open PySem PySem.Spec PyProof.Rows L2
def sp_size (C : Addr) : Sp := fun vs H Q _ => ∃ (S : Av) (e : Addr) (B : Bks) (L : List Int), vs = [.ref e] ∧ EdAt S H C e B L ∧ Q (.int ((plOf B).length : Nat)) H
def sp_lines (C : Addr) : Sp := fun vs H Q _ => ∃ (S : Av) (e : Addr) (B : Bks) (L : List Int), vs = [.ref e] ∧ EdAt S H C e B L ∧ ∀ l, H l = none → Q (.ref l) (upd H l (.lst (L.map V.int)))
def sp_checkN (C : Addr) : Sp := fun vs H Q _ => ∃ (S : Av) (e : Addr) (B : Bks) (L : List Int) (n : Int), vs = [.ref e, .int n] ∧ EdAt S H C e B L ∧ 0 ≤ n ∧ n < (plOf B).length ∧ Q .non H
section
variable {P : Program} {w : World} {K : PySem.W.Frag} {mg : Str → Option Value} {base : Heap}
theorem ok_size {C f : Addr} {fd : FuncData} (T : Txt K mg) (EC : EdC K C) (F : Fun K "size" "Edition.size" s_Edition_size f fd) : FnOk P w K mg base CX0 2 f fd ["self"] (sp_size C) := by
  refine F.ok sc_Edition_size (fun vs H Q E h => ?_) (fun cdv A outer s H vs Q E hr h => ?_)
  · obtain ⟨S, e, B, L, rfl, _⟩ := h
    rfl
  · obtain ⟨S, e, B, L, rfl, ⟨w, h⟩, q⟩ := h
    refine ⟨_, (pss_one (ps_ret (pe_callB call_len (by rfl) T.b_len (by decide +kernel) (pa_cons (pe_fld (pv 0) rfl) pa_nil)))), ?_⟩
    have lr : w.rows.length = (plOf B).length := by rw [h.c3.len, List.length_map]
    rw [← lr] at q
    exact ⟨.ref e, rfl, e, C, _, _, _, rfl, h.at_, EC.cl, EC.n3, rfl, _, _, rfl, .inl ⟨_, .inl (.inl h.h3), rfl⟩, q⟩
theorem ok_lines {C f : Addr} {fd : FuncData} (T : Txt K mg) (EC : EdC K C) (F : Fun K "lines" "Edition.lines" s_Edition_lines f fd) : FnOk P w K mg base CX0 2 f fd ["self"] (sp_lines C) := by
  refine F.ok sc_Edition_lines (fun vs H Q E h => ?_) (fun cdv A outer s H vs Q E hr h => ?_)
  · obtain ⟨S, e, B, L, rfl, _⟩ := h
    rfl
  · obtain ⟨S, e, B, L, rfl, ⟨w, h⟩, q⟩ := h
    refine ⟨_, (pss_one (ps_ret (pe_callTy call_list_of (by rfl) T.b_list (by decide +kernel) (pa_cons (pe_fld (pv 0) rfl) pa_nil)))), ?_⟩
    exact ⟨.ref e, rfl, e, C, _, _, _, rfl, h.at_, EC.cl, EC.n5, rfl, _, _, rfl, .inl (.inl (.inl h.h5)), q⟩
theorem ok_checkN {C f : Addr} {fd : FuncData} (T : Txt K mg) (EC : EdC K C) (c_is_whole : Cl P w K mg base 2 "is_whole" ["thing", "low", "high"] (sp_whole K)) (m_size : C8.Met P w K mg base 2 C "size" (sp_size C) []) (F : Fun K "_check_number" "Edition._check_number" s_Edition__check_number f fd) : FnOk P w K mg base CX0 3 f fd ["self", "number"] (sp_checkN C) := by
  refine F.ok sc_Edition__check_number (fun vs H Q E h => ?_) (fun cdv A outer s H vs Q E hr h => ?_)
  · obtain ⟨S, e, B, L, n, rfl, _⟩ := h
    rfl
  · obtain ⟨S, e, B, L, n, rfl, h, n0, n1, q⟩ := h
    refine ⟨_, (pss_one (ps_if (pt_not (pt_val (pe_cl c_is_whole hr (by decide) (by rfl) (pa_cons (pv 1) (pa_cons pe_int (pa_cons (pe_op op_sub (C8.pe_mt0 m_size hr (by decide) (pv 0)) pe_int) pa_nil)))))) (pss_one ps_never) pss_nil)), ?_⟩
    obtain ⟨w, hw⟩ := id h
    have ew : whole (.int n) 0 (((plOf B).length : Nat) - 1) = true := by
      show (decide (0 ≤ n) && decide (n ≤ (((plOf B).length : Nat) : Int) - 1)) = true
      rw [decide_eq_true n0, decide_eq_true (by omega), Bool.true_and]
    refine ⟨_, rfl, .ref e, rfl, e, _, _, rfl, hw.at_, rfl, S, e, B, L, rfl, h, _, 1, rfl, rfl, .int n, 0, _, rfl, .int _, ?_⟩
    rw [ew]
    exact ⟨_, rfl, ite2 (fun z => absurd z (by decide)) fun _ => q⟩
end
end My
set_option Elab.async false
set_option linter.all false
set_option maxRecDepth 100000
set_option maxHeartbeats 4000000
namespace My
open PySem PySem.Spec PyProof.Rows L2
def sp_told (C : Addr) : Sp := fun vs H Q _ => ∃ (S : Av) (e : Addr) (B : Bks) (L : List Int), vs = [.ref e] ∧ Occ S H ∧ EdAt S H C e B L ∧ L.length ≤ 1000 ∧ ∀ v H', Same H H' → At S H' v (.tuple [bksD B, .tuple ((fewest L).map prD)]) → Q v H'
section
variable {P : Program} {w : World} {K : PySem.W.Frag} {mg : Str → Option Value} {base : Heap}
theorem ok_told {C f : Addr} {fd : FuncData} (T : Txt K mg) (EC : EdC K C) (F : Fun K "told" "Edition.told" s_Edition_told f fd) : FnOk P w K mg base CX0 3 f fd ["self"] (sp_told C) := by
  refine F.ok sc_Edition_told (fun vs H Q E h => ?_) (fun cdv A outer s H vs Q E hr h => ?_)
  · obtain ⟨S, e, B, L, rfl, _⟩ := h
    rfl
  · obtain ⟨S, e, B, L, rfl, ho, h, ll, q⟩ := h
    refine ⟨_, (pss_one (ps_ret (pe_fld (pv 0) rfl))), ?_⟩
    obtain ⟨w, hw⟩ := id h
    exact ⟨.ref e, rfl, e, C, _, _, _, rfl, hw.at_, EC.cl, EC.n7, rfl, q _ _ (Same.refl H) hw.h7⟩
end
end My
set_option Elab.async false
set_option linter.all false
set_option maxRecDepth 100000
set_option maxHeartbeats 4000000
namespace My
open PySem PySem.Spec PyProof.Rows L2
def prtV (L : List Int) : V → V
  | .int z => if whole (.int z) 0 9999 = true then (valV (numD L) (Sum.inl z)).getD .non else .non
  | _ => .non
def sp_partOf (K : PySem.W.Frag) (C : Addr) : Sp := fun vs H Q _ => ∃ (S : Av) (e : Addr) (B : Bks) (L : List Int) (x : V), vs = [.ref e, x] ∧ EdAt S H C e B L ∧ Th K H x ∧ Q (prtV L x) H
section
variable {P : Program} {w : World} {K : PySem.W.Frag} {mg : Str → Option Value} {base : Heap}
theorem ok_partOf {C f : Addr} {fd : FuncData} (T : Txt K mg) (EC : EdC K C) (c_is_whole : Cl P w K mg base 2 "is_whole" ["thing", "low", "high"] (sp_whole K)) (F : Fun K "part_of" "Edition.part_of" s_Edition_part_of f fd) : FnOk P w K mg base CX0 3 f fd ["self", "thing"] (sp_partOf K C) := by
  refine F.ok sc_Edition_part_of (fun vs H Q E h => ?_) (fun cdv A outer s H vs Q E hr h => ?_)
  · obtain ⟨S, e, B, L, x, rfl, _⟩ := h
    rfl
  · obtain ⟨S, e, B, L, x, rfl, h, hx, q⟩ := h
    refine ⟨_, (pss_cons (ps_if (pt_not (pt_val (pe_cl c_is_whole hr (by decide) (by rfl) (pa_cons (pv 1) (pa_cons pe_int (pa_cons (C8.pe_gc (by rfl) T.g_LAST_LINE) pa_nil)))))) (pss_one (ps_ret pe_non)) pss_nil)
      (pss_one (ps_ret (pe_dget1 (hu_of hr) (pe_fld (pv 0) rfl) (pv 1) ⟨rfl, rfl, rfl, rfl⟩)))), ?_⟩
    obtain ⟨w, hw⟩ := id h
    refine ⟨_, rfl, x, 0, 9999, rfl, hx, _, rfl, ?_⟩
    cases ew : whole x 0 9999 with
    | true =>
      refine ite2 (fun z => absurd z (by decide)) fun _ => ?_
      cases x with
      | int z =>
        have q : Q (if whole (.int z) 0 9999 = true then (valV (numD L) (Sum.inl z)).getD .non else .non) H := q
        rw [if_pos ew] at q
        exact ⟨.ref e, rfl, e, C, _, _, _, rfl, hw.at_, EC.cl, EC.n6, rfl, _, rfl, .inl ⟨_, .inl hw.h6⟩, _, rfl, _, DGet.k (k := Sum.inl z) hw.h6, q⟩
      | _ => exact absurd ew Bool.false_ne_true
    | false =>
      refine ite2 (fun _ => ?_) fun z => absurd rfl z
      cases x with
      | int z =>
        have q : Q (if whole (.int z) 0 9999 = true then (valV (numD L) (Sum.inl z)).getD .non else .non) H := q
        rw [if_neg (by rw [ew]; exact Bool.false_ne_true)] at q
        exact q
      | _ => exact q
end
end My
set_option Elab.async false
set_option linter.all false
set_option maxRecDepth 100000
set_option maxHeartbeats 4000000
namespace My
open PySem PySem.Spec PyProof.Rows L2
def sp_lineAt (C : Addr) : Sp := fun vs H Q _ => ∃ (S : Av) (e : Addr) (B : Bks) (L : List Int) (n : Nat) (z : Int), vs = [.ref e, .int (n : Nat)] ∧ EdAt S H C e B L ∧ n < (plOf B).length ∧ L[n]? = some z ∧ Q (.int z) H
section
variable {P : Program} {w : World} {K : PySem.W.Frag} {mg : Str → Option Value} {base : Heap}
theorem ok_lineAt {C f : Addr} {fd : FuncData} (T : Txt K mg) (EC : EdC K C) (m__check_number : C8.Met P w K mg base 3 C "_check_number" (sp_checkN C) []) (F : Fun K "line_at" "Edition.line_at" s_Edition_line_at f fd) : FnOk P w K mg base CX0 4 f fd ["self", "number"] (sp_lineAt C) := by
  refine F.ok sc_Edition_line_at (fun vs H Q E h => ?_) (fun cdv A outer s H vs Q E hr h => ?_)
  · obtain ⟨S, e, B, L, n, z, rfl, _⟩ := h
    rfl
  · obtain ⟨S, e, B, L, n, z, rfl, h, n1, hz, q⟩ := h
    refine ⟨_, (pss_cons (ps_expr (C8.pe_mt m__check_number hr (by decide) (pv 0) (pa_cons (pv 1) pa_nil)))
      (pss_one (ps_ret (pe_ix ix_list (pe_fld (pv 0) rfl) (pv 1) (fun _ _ => rfl))))), ?_⟩
    obtain ⟨w, hw⟩ := id h
    refine ⟨.ref e, rfl, e, _, _, rfl, hw.at_, rfl, _, rfl, S, e, B, L, _, rfl, h, by omega, by omega, ?_⟩
    refine ⟨.ref e, rfl, e, C, _, _, _, rfl, hw.at_, EC.cl, EC.n5, rfl, _, rfl, _, _, _, _, rfl, rfl, .inl (.inl hw.h5), atI_nat (j := n) (by rw [List.getElem?_map, hz]; rfl), q⟩
end
end My
set_option Elab.async false
set_option linter.all false
set_option maxRecDepth 100000
set_option maxHeartbeats 4000000
namespace My
open PySem PySem.Spec PyProof.Rows L2
theorem lay_map {α : Type} (f : α → PyData) : ∀ l : List α, (∀ x ∈ l, (f x).canLay0 = true) → PyData.canLayAll0 (l.map f) = true
  | [], _ => rfl
  | a :: r, h => by
    show ((f a).canLay0 && PyData.canLayAll0 (r.map f)) = true
    rw [h a (List.mem_cons_self ..), lay_map f r fun x hx => h x (List.mem_cons_of_mem _ hx), Bool.and_true]
theorem dep_map {α : Type} (f : α → PyData) (n : Nat) : ∀ l : List α, (∀ x ∈ l, (f x).depth ≤ n) → PyData.depthAll (l.map f) ≤ n
  | [], _ => Nat.zero_le _
  | a :: r, h => by
    show max (f a).depth (PyData.depthAll (r.map f)) ≤ n
    have h1 := h a (List.mem_cons_self ..)
    have h2 := dep_map f n r fun x hx => h x (List.mem_cons_of_mem _ hx)
    omega
theorem lay_name {w : List Nat} (h : okName w) : PyData.strOk (SX.S w) = true := by
  show (w.toArray.all fun c => decide (c < 0x110000)) = true
  rw [← Array.all_toList, List.all_eq_true]
  intro c hc
  have := let128 c (h.a c hc)
  exact decide_eq_true (by omega)
theorem lay_pr (s : Int × Int) : (prD s).canLay0 = true := rfl
theorem dep_pr (s : Int × Int) : (prD s).depth ≤ 1 := Nat.le_refl _
theorem dep_ch (c : List Int) : (chD c).depth ≤ 1 := by
  have := dep_map PyData.int 0 c fun x _ => Nat.le_refl _
  show PyData.depthAll _ + 1 ≤ 1
  omega
theorem dep_chs (C : List (List Int)) : (chsD C).depth ≤ 2 := by
  have := dep_map chD 1 C fun x _ => dep_ch x
  show PyData.depthAll _ + 1 ≤ 2
  omega
theorem dep_bk (b : List Nat × List (List Int)) : (bkD b).depth ≤ 3 := by
  have := dep_chs b.2
  show max 0 (max (chsD b.2).depth 0) + 1 ≤ 3
  omega
theorem dep_bks (B : Bks) : (bksD B).depth ≤ 4 := by
  have := dep_map bkD 3 B fun x _ => dep_bk x
  show PyData.depthAll _ + 1 ≤ 4
  omega
theorem lay_bks {B : Bks} (h : ∀ b ∈ B, okName b.1) : (bksD B).canLay0 = true := by
  refine lay_map bkD B fun b hb => ?_
  show (PyData.strOk (SX.S b.1) && ((chsD b.2).canLay0 && true)) = true
  rw [lay_name (h b hb), Bool.true_and, Bool.and_true]
  exact lay_map chD b.2 fun c _ => lay_map PyData.int c fun x _ => rfl
theorem shaped_told {B : Bks} (h : ∀ b ∈ B, okName b.1) (L : List Int) : SeqAt.shaped (toldD B L) = true := by
  unfold SeqAt.shaped
  rw [Bool.and_eq_true]
  refine ⟨?_, decide_eq_true ?_⟩
  · show ((bksD B).canLay0 && (PyData.canLayAll0 ((fewest L).map prD) && true)) = true
    rw [lay_bks h, lay_map prD _ fun s _ => lay_pr s]
    rfl
  · have h1 := dep_bks B
    have h2 := dep_map prD 1 (fewest L) fun s _ => dep_pr s
    show max (bksD B).depth (max (PyData.depthAll ((fewest L).map prD) + 1) 0) + 1 ≤ 64
    omega
theorem eqv_prs : ∀ xs ys : List (Int × Int), PyData.eqvAll (xs.map prD) (ys.map prD) = decide (xs = ys)
  | [], [] => rfl
  | [], _ :: _ => rfl
  | _ :: _, [] => rfl
  | (a, b) :: r, (c, d) :: t => by
    show (((a == c) && ((b == d) && true)) && PyData.eqvAll (r.map prD) (t.map prD)) = _
    rw [eqv_prs r t, Bool.and_true]
    by_cases e1 : a = c
    · by_cases e2 : b = d
      · subst e1 e2
        rw [beq_self_eq_true, beq_self_eq_true, Bool.true_and, Bool.true_and]
        exact decide_eq_decide.mpr ⟨fun h => by rw [h], fun h => (List.cons.inj h).2⟩
      · rw [beq_false_of_ne e2, Bool.and_false, Bool.false_and]
        exact (decide_eq_false fun h => e2 (Prod.mk.inj (List.cons.inj h).1).2).symm
    · rw [beq_false_of_ne e1, Bool.false_and, Bool.false_and]
      exact (decide_eq_false fun h => e1 (Prod.mk.inj (List.cons.inj h).1).1).symm
/-! ### what the fewest pairs stand for -/
theorem fp_pos {ps : List (Int × Int)} (h : ∀ s ∈ ps, 1 ≤ s.2) (z : Int) : ∀ s ∈ fpStep ps z, 1 ≤ s.2 := by
  rcases List.eq_nil_or_concat ps with rfl | ⟨qs, s, rfl⟩
  · intro s hs
    rw [fp_nil, List.mem_singleton] at hs
    subst hs
    exact Int.le_refl _
  · rw [List.concat_eq_append] at h ⊢
    rw [fp_snoc]
    have hs := h s (by simp)
    split
    · intro t ht
      rcases List.mem_append.mp ht with ht | ht
      · exact h t (by simp [ht])
      · rw [List.mem_singleton] at ht
        subst ht
        show 1 ≤ s.2 + 1
        omega
    · intro t ht
      rcases List.mem_append.mp ht with ht | ht
      · exact h t ht
      · rw [List.mem_singleton] at ht
        subst ht
        exact Int.le_refl _
theorem lnP_succ {s : Int × Int} (h : 0 ≤ s.2) : lnP (s.1, s.2 + 1) = lnP s ++ [s.1 + s.2] := by
  unfold lnP
  have e : (s.2 + 1).toNat = s.2.toNat + 1 := by omega
  show (List.range (s.2 + 1).toNat).map _ = _
  rw [e, List.range_succ, List.map_append]
  show _ ++ [s.1 + ((s.2.toNat : Nat) : Int)] = _
  rw [Int.toNat_of_nonneg h]
theorem ln_one (z : Int) : lnP (z, 1) = [z] := by
  show [z + ((0 : Nat) : Int)] = [z]
  simp
theorem lnOf_app (ps qs : List (Int × Int)) : lnOf (ps ++ qs) = lnOf ps ++ lnOf qs := by
  unfold lnOf
  rw [List.flatMap_append]
theorem lnOf_one (s : Int × Int) : lnOf [s] = lnP s := by
  show lnP s ++ [] = lnP s
  rw [List.append_nil]
theorem fp_ln {ps : List (Int × Int)} (h : ∀ s ∈ ps, 1 ≤ s.2) (z : Int) : lnOf (fpStep ps z) = lnOf ps ++ [z] := by
  rcases List.eq_nil_or_concat ps with rfl | ⟨qs, s, rfl⟩
  · rw [fp_nil, lnOf_one, ln_one]
    rfl
  · rw [List.concat_eq_append] at h ⊢
    have hs := h s (by simp)
    rw [fp_snoc]
    split
    · rename_i e
      rw [lnOf_app, lnOf_app, lnOf_one, lnOf_one, lnP_succ (by omega), List.append_assoc, e]
    · rw [lnOf_app _ [(z, 1)], lnOf_one, ln_one]
theorem fewest_ln : ∀ (L : List Int) (ps : List (Int × Int)), (∀ s ∈ ps, 1 ≤ s.2) → (∀ s ∈ L.foldl fpStep ps, 1 ≤ s.2) ∧ lnOf (L.foldl fpStep ps) = lnOf ps ++ L
  | [], ps, h => ⟨h, (List.append_nil _).symm⟩
  | z :: r, ps, h => by
    obtain ⟨h1, h2⟩ := fewest_ln r (fpStep ps z) (fp_pos h z)
    refine ⟨h1, ?_⟩
    rw [List.foldl_cons, h2, fp_ln h, List.append_assoc]
    rfl
theorem lnOf_fewest (L : List Int) : lnOf (fewest L) = L := (fewest_ln L [] fun _ h => nomatch h).2
theorem fewest_pos (L : List Int) : ∀ s ∈ fewest L, 1 ≤ s.2 := (fewest_ln L [] fun _ h => nomatch h).1
theorem fewest_inj {L M : List Int} : fewest L = fewest M ↔ L = M := ⟨fun h => by rw [← lnOf_fewest L, h, lnOf_fewest], fun h => by rw [h]⟩
theorem eqv_told (B : Bks) (h : ∀ b ∈ B, okName b.1) (L M : List Int) : PyData.eqv (toldD B L) (toldD B M) = decide (L = M) := by
  show (PyData.eqv (bksD B) (bksD B) && (PyData.eqvAll ((fewest L).map prD) ((fewest M).map prD) && true)) = _
  rw [SeqAt.eqv_refl _ (lay_bks h), Bool.true_and, Bool.and_true, eqv_prs]
  exact decide_eq_decide.mpr fewest_inj
end My
set_option Elab.async false
set_option linter.all false
set_option maxRecDepth 100000
set_option maxHeartbeats 4000000
namespace My
open PySem PySem.Spec PyProof.Rows L2
def sp_same (C : Addr) : Sp := fun vs H Q _ => ∃ (S : Av) (e e2 : Addr) (B B2 : Bks) (L L2 : List Int), vs = [.ref e, .ref e2] ∧ Occ S H ∧ EdAt S H C e B L ∧ EdAt S H C e2 B2 L2 ∧ L.length ≤ 1000 ∧ L2.length ≤ 1000 ∧ (∀ b ∈ B, okName b.1) ∧ (∀ b ∈ B2, okName b.1) ∧ ∀ H', Same H H' → Q (.bl (PyData.eqv (toldD B L) (toldD B2 L2))) H'
section
variable {P : Program} {w : World} {K : PySem.W.Frag} {mg : Str → Option Value} {base : Heap}
theorem ok_same {C f : Addr} {fd : FuncData} (T : Txt K mg) (EC : EdC K C) (O : OwnK K C) (kk : PySem.W.kitOne K (.ref C) (.ref C) = some true) (gC : ∃ u, mg "Edition" = some u ∧ RelV (.ref C) u) (m_told : C8.Met P w K mg base 3 C "told" (sp_told C) []) (F : Fun K "same" "Edition.same" s_Edition_same f fd) : FnOk P w K mg base CX0 4 f fd ["self", "thing"] (sp_same C) := by
  refine F.ok sc_Edition_same (fun vs H Q E h => ?_) (fun cdv A outer s H vs Q E hr h => ?_)
  · obtain ⟨S, e, e2, B, B2, L, M, rfl, _⟩ := h
    rfl
  · obtain ⟨S, e, e2, B, B2, L, M, rfl, ho, h1, h2, l1, l2, n1, n2, q⟩ := h
    refine ⟨_, (pss_one (ps_ret (pe_and (pe_callB call_isb (by rfl) T.b_isinstance (by decide +kernel) (pa_cons (pv 1) (pa_cons (C8.pe_gc (by rfl) gC) pa_nil))) (pe_one (pe_cmpR (op_eqD hr.units) (C8.pe_mt0 m_told hr (by decide) (pv 0)) (C8.pe_mt0 m_told hr (by decide) (pv 1)) (nomark _)))))), ?_⟩
    obtain ⟨w1, hw1⟩ := id h1
    obtain ⟨w2, hw2⟩ := id h2
    refine ⟨.ref e2, rfl, .inl ⟨.ref e2, .ref C, _, _, true, rfl, .own C, .base (.ins hw2.at_ O.cl O.ha O.hn O.htk O.hm), kk, _, rfl, ite2 (fun _ => ?_) (fun z => absurd rfl z)⟩⟩
    refine ⟨.ref e, rfl, e, _, _, rfl, hw1.at_, rfl, S, e, B, L, rfl, ho, h1, l1, fun v H1 S1 hv => ?_⟩
    refine ⟨.ref e2, rfl, e2, _, _, rfl, S1 _ _ hw2.at_, rfl, S, e2, B2, M, rfl, ho.same S1, h2.bt (Same.btS S1), l2, fun v2 H2 S2 hv2 => ?_⟩
    exact ⟨toldD B L, toldD B2 M, At.dp _ _ (At.same hv S2), At.dp _ _ hv2, shaped_told n1 L, shaped_told n2 M, q H2 (S1.trans S2)⟩
end
end My
set_option Elab.async false
set_option linter.all false
set_option maxRecDepth 100000
set_option maxHeartbeats 4000000
namespace My
open PySem PySem.Spec PyProof.Rows L2
/-- a spot of the part x, its first m things -/
def SpAt (H : Hp) (t : Addr) (x : Pl) (m : Nat) : Prop := H t = some (.tup (((plK x).take m).map kV))
/-- the first things of a place, as a slice tells them: the place itself or a new tuple -/
def rSlP : V → Option Int → Option Int → Hp → VK → Prop := fun x lo hi H Q => ∃ (a : Addr) (y : Pl) (m : Nat), x = .ref a ∧ lo = none ∧ hi = some (1 + (m : Int)) ∧ m < 4 ∧ H a = some (.tup [.str (SX.S y.nm), .int y.c, .int y.v, .int y.p]) ∧ ∀ b H', Same H H' → SpAt H' b y (m + 1) → Q (.ref b) H'
theorem sl_pl {X : Cx} : SlR X rSlP := by
  intro pins s σ H x v vl vu lo hi sl Q I rx hs pl pu h
  obtain ⟨a, y, m, rfl, rfl, rfl, hm, ha, q⟩ := h
  refine sl_tupA pins s σ H _ v vl vu _ _ sl Q I rx hs pl pu ⟨a, _, rfl, .inl (.inl ha), fun hc => ?_, fun hc b hb => ?_⟩
  · have hc := hc.2
    rw [show [V.str (SX.S y.nm), V.int y.c, V.int y.v, V.int y.p].length = 4 from rfl, six4 hm] at hc
    refine q a H (Same.refl H) ?_
    unfold SpAt
    rw [plK_kV, ha, hc]
    rfl
  · rw [cut4 _ _ _ _ hm]
    refine q b _ (same_new hb) ?_
    unfold SpAt
    rw [plK_kV, upd_same]
end My
set_option Elab.async false
set_option linter.all false
set_option maxRecDepth 100000
set_option maxHeartbeats 4000000
namespace My
open PySem PySem.Spec PyProof.Rows L2
/-! M1: what the stretches tell: of each spot the first and the last part that begins with it; all parts are unlike. -/
theorem plK_len (x : Pl) : (plK x).length = 4 := rfl
theorem stPut_ne {f : StF} {n : Int} {t k : List Key} (h : k ≠ t) : stPut f n t k = f k := by
  unfold stPut
  rw [if_neg h]
theorem stPut_eq {f : StF} {n : Int} {k : List Key} : stPut f n k k = some ((match f k with | some s => s.1 | none => n), n) := by
  unfold stPut
  exact if_pos rfl
theorem stPl_at (f : StF) (n : Int) (x : Pl) {k : List Key} {m : Nat} (hk : k.length = m + 1) (hm : m < 4) : stPl f n x 4 k = if k = (plK x).take (m + 1) then some ((match f k with | some s => s.1 | none => n), n) else f k := by
  have L : ∀ i, i < 4 → ((plK x).take (i + 1)).length = i + 1 := fun i hi => by
    rw [List.length_take, plK_len]
    omega
  have ne : ∀ i, i < 4 → i ≠ m → k ≠ (plK x).take (i + 1) := fun i hi h z => by
    have := congrArg List.length z
    rw [L i hi] at this
    omega
  have z0 : ∀ f : StF, stPl f n x 0 = f := fun f => rfl
  by_cases e : k = (plK x).take (m + 1)
  · rw [if_pos e]
    have pt : ∀ g : StF, stPut g n ((plK x).take (m + 1)) k = some ((match g k with | some s => s.1 | none => n), n) := fun g => by
      rw [← e]
      exact stPut_eq
    rcases (by omega : m = 0 ∨ m = 1 ∨ m = 2 ∨ m = 3) with rfl | rfl | rfl | rfl
    · rw [stPl_succ, stPut_ne (ne 3 (by decide) (by decide)), stPl_succ, stPut_ne (ne 2 (by decide) (by decide)), stPl_succ, stPut_ne (ne 1 (by decide) (by decide)), stPl_succ, pt, z0]
    · rw [stPl_succ, stPut_ne (ne 3 (by decide) (by decide)), stPl_succ, stPut_ne (ne 2 (by decide) (by decide)), stPl_succ, pt, stPl_succ, stPut_ne (ne 0 (by decide) (by decide)), z0]
    · rw [stPl_succ, stPut_ne (ne 3 (by decide) (by decide)), stPl_succ, pt, stPl_succ, stPut_ne (ne 1 (by decide) (by decide)), stPl_succ, stPut_ne (ne 0 (by decide) (by decide)), z0]
    · rw [stPl_succ, pt, stPl_succ, stPut_ne (ne 2 (by decide) (by decide)), stPl_succ, stPut_ne (ne 1 (by decide) (by decide)), stPl_succ, stPut_ne (ne 0 (by decide) (by decide)), z0]
  · rw [if_neg e]
    have ne' : ∀ i, i < 4 → k ≠ (plK x).take (i + 1) := fun i hi => by
      by_cases h : i = m
      · rw [h]
        exact e
      · exact ne i hi h
    rw [stPl_succ, stPut_ne (ne' 3 (by decide)), stPl_succ, stPut_ne (ne' 2 (by decide)), stPl_succ, stPut_ne (ne' 1 (by decide)), stPl_succ, stPut_ne (ne' 0 (by decide)), z0]
/-- the numbers of the parts that begin so -/
def insK (P : List Pl) (k : List Key) : List Int := (P.zipIdx.filter fun x => decide ((plK x.1).take k.length = k)).map fun x => (x.2 : Int)
def ends (l : List Int) : Option (Int × Int) := match l.head?, l.getLast? with
  | some a, some b => some (a, b)
  | _, _ => none
theorem ends_snoc (l : List Int) (z : Int) : ends (l ++ [z]) = some ((match ends l with | some s => s.1 | none => z), z) := by
  unfold ends
  cases l with
  | nil => rfl
  | cons a r =>
    rw [List.getLast?_concat]
    obtain ⟨y, e⟩ : ∃ y, (a :: r).getLast? = some y := by
      cases q : (a :: r).getLast? with
      | none => exact absurd (List.getLast?_eq_none_iff.mp q) (by simp)
      | some y => exact ⟨y, rfl⟩
    rw [e]
    rfl
theorem insK_succ {P : List Pl} {i : Nat} {x : Pl} (h : P[i]? = some x) (k : List Key) : insK (P.take (i + 1)) k = if (plK x).take k.length = k then insK (P.take i) k ++ [(i : Int)] else insK (P.take i) k := by
  unfold insK
  rw [zi_succ h, List.filter_append]
  by_cases e : (plK x).take k.length = k
  · rw [if_pos e, List.filter_cons_of_pos (by simpa using e), List.map_append]
    rfl
  · rw [if_neg e, List.filter_cons_of_neg (by simpa using e), List.filter_nil, List.append_nil]
theorem st_ends (P : List Pl) {k : List Key} {m : Nat} (hk : k.length = m + 1) (hm : m < 4) : stOf P k = ends (insK P k) := by
  have key : ∀ i, i ≤ P.length → stOf (P.take i) k = ends (insK (P.take i) k) := by
    intro i
    induction i with
    | zero => intro _; rfl
    | succ i ih =>
      intro hi
      have hx : P[i]? = some P[i] := List.getElem?_eq_getElem (by omega)
      rw [st_succ hx, stPl_at _ _ _ hk hm, insK_succ hx, ih (by omega), hk]
      by_cases e : k = (plK P[i]).take (m + 1)
      · rw [if_pos e, if_pos e.symm, ends_snoc]
      · rw [if_neg e, if_neg fun z => e z.symm]
  have := key P.length (Nat.le_refl _)
  rwa [List.take_length] at this
/-! ### all parts are unlike -/
theorem plV_nodup (nm : List Nat) (ci vi : Nat) (m : Int) : (plV nm ci vi m).Nodup := by
  unfold plV
  refine List.pairwise_map.mpr (List.Pairwise.imp ?_ (List.nodup_range (n := m.toNat)))
  intro a b h e
  have := congrArg Pl.p e
  have : 1 + (a : Int) = 1 + (b : Int) := this
  exact h (by omega)
theorem zi_pair {α : Type} (l : List α) : ∀ n : Nat, (l.zipIdx n).Pairwise fun a b => a.2 ≠ b.2 := by
  induction l with
  | nil => intro n; exact .nil
  | cons a r ih =>
    intro n
    rw [List.zipIdx_cons]
    refine List.pairwise_cons.mpr ⟨fun b hb => ?_, ih (n + 1)⟩
    have := (List.mem_zipIdx hb).1
    show n ≠ b.2
    omega
theorem mem_plV' {nm : List Nat} {ci vi : Nat} {m : Int} {x : Pl} (h : x ∈ plV nm ci vi m) : x.nm = nm ∧ x.c = 1 + (ci : Int) ∧ x.v = 1 + (vi : Int) := by
  unfold plV at h
  obtain ⟨k, hk, rfl⟩ := List.mem_map.mp h
  exact ⟨rfl, rfl, rfl⟩
theorem mem_plC' {nm : List Nat} {ci : Nat} {c : List Int} {x : Pl} (h : x ∈ plC nm ci c) : x.nm = nm ∧ x.c = 1 + (ci : Int) := by
  unfold plC at h
  obtain ⟨y, hy, h⟩ := List.mem_flatMap.mp h
  have := mem_plV' h
  exact ⟨this.1, this.2.1⟩
theorem mem_plB' {b : List Nat × List (List Int)} {x : Pl} (h : x ∈ plB b) : x.nm = b.1 := by
  unfold plB at h
  obtain ⟨y, hy, h⟩ := List.mem_flatMap.mp h
  exact (mem_plC' h).1
theorem plC_nodup (nm : List Nat) (ci : Nat) (c : List Int) : (plC nm ci c).Nodup := by
  unfold plC
  refine List.pairwise_flatMap.mpr ⟨fun y _ => plV_nodup _ _ _ _, (zi_pair c 0).imp fun {a b} ne => ?_⟩
  intro x hx y hy e
  have h1 := (mem_plV' hx).2.2
  have h2 := (mem_plV' hy).2.2
  rw [e] at h1
  exact ne (by omega)
theorem plB_nodup (b : List Nat × List (List Int)) : (plB b).Nodup := by
  unfold plB
  refine List.pairwise_flatMap.mpr ⟨fun y _ => plC_nodup _ _ _, (zi_pair b.2 0).imp fun {a b} ne => ?_⟩
  intro x hx y hy e
  have h1 := (mem_plC' hx).2
  have h2 := (mem_plC' hy).2
  rw [e] at h1
  exact ne (by omega)
theorem plOf_nodup {B : Bks} (h : (B.map (·.1)).Nodup) : (plOf B).Nodup := by
  unfold plOf
  refine List.pairwise_flatMap.mpr ⟨fun y _ => plB_nodup _, (List.pairwise_map.mp h).imp fun {a b} ne => ?_⟩
  intro x hx y hy e
  rw [e] at hx
  exact ne ((mem_plB' hx).symm.trans (mem_plB' hy))
theorem plK_inj {x y : Pl} (h : plK x = plK y) : x = y := by
  have h1 := (List.cons.inj h).1
  have h2 := (List.cons.inj (List.cons.inj h).2).1
  have h3 := (List.cons.inj (List.cons.inj (List.cons.inj h).2).2).1
  have h4 := (List.cons.inj (List.cons.inj (List.cons.inj (List.cons.inj h).2).2).2).1
  have e1 : x.nm = y.nm := SX.S_inj (Sum.inr.inj h1)
  have e2 : x.c = y.c := Sum.inl.inj h2
  have e3 : x.v = y.v := Sum.inl.inj h3
  have e4 : x.p = y.p := Sum.inl.inj h4
  cases x
  cases y
  simp only at e1 e2 e3 e4
  subst e1 e2 e3 e4
  rfl
theorem insK_all {P : List Pl} (nd : P.Nodup) {i : Nat} {x : Pl} (h : P[i]? = some x) : insK P ((plK x).take 4) = [(i : Int)] := by
  have hi : i < P.length := (List.getElem?_eq_some_iff.mp h).1
  have t4 : ∀ y : Pl, (plK y).take 4 = plK y := fun y => rfl
  have key : ∀ n, n ≤ P.length → insK (P.take n) ((plK x).take 4) = if i < n then [(i : Int)] else [] := by
    intro n
    induction n with
    | zero => intro _; rfl
    | succ n ih =>
      intro hn
      have hx : P[n]? = some P[n] := List.getElem?_eq_getElem (by omega)
      rw [insK_succ hx, ih (by omega)]
      have el : ((plK x).take 4).length = 4 := rfl
      rw [el, t4, t4]
      by_cases e : n = i
      · subst e
        rw [h] at hx
        have hx := Option.some.inj hx
        rw [← hx, if_pos rfl, if_neg (by omega), if_pos (by omega)]
        rfl
      · have ne : ¬ plK P[n] = plK x := fun z => by
          have z := plK_inj z
          rw [z, ← h] at hx
          exact e ((List.getElem?_inj (by omega) nd).mp hx)
        rw [if_neg ne]
        by_cases q : i < n
        · rw [if_pos q, if_pos (by omega)]
        · rw [if_neg q, if_neg (by omega)]
  have := key P.length (Nat.le_refl _)
  rwa [List.take_length, if_pos hi] at this
theorem insK_mem {P : List Pl} {i : Nat} {x : Pl} (h : P[i]? = some x) {m : Nat} (hm : m < 4) : (i : Int) ∈ insK P ((plK x).take (m + 1)) := by
  unfold insK
  have el : ((plK x).take (m + 1)).length = m + 1 := by
    rw [List.length_take, plK_len]
    omega
  refine List.mem_map.mpr ⟨(x, i), List.mem_filter.mpr ⟨List.mem_zipIdx_iff_getElem?.mpr h, ?_⟩, rfl⟩
  rw [el]
  exact decide_eq_true rfl
end My
set_option Elab.async false
set_option linter.all false
set_option maxRecDepth 100000
set_option maxHeartbeats 4000000
namespace My
open PySem PySem.Spec PyProof.Rows L2
theorem val_at {κ : Type} [DecidableEq κ] : ∀ {kvs : List (κ × V)} {i : Nat} {k : κ} {v : V}, kvs[i]? = some (k, v) → (kvs.map (·.1)).Nodup → valV kvs k = some v
  | [], _, _, _, h, _ => by
    rw [List.getElem?_nil] at h
    cases h
  | (k0, v0) :: r, 0, k, v, h, _ => by
    cases h
    unfold valV
    rw [List.find?_cons_of_pos (by simp)]
    rfl
  | (k0, v0) :: r, i + 1, k, v, h, nd => by
    rw [List.map_cons, List.nodup_cons] at nd
    have h' : r[i]? = some (k, v) := h
    have ne : k0 ≠ k := fun z => nd.1 (List.mem_map.mpr ⟨(k, v), List.mem_of_getElem? h', z.symm⟩)
    have := val_at h' nd.2
    unfold valV at this ⊢
    rw [List.find?_cons_of_neg (by simpa using ne)]
    exact this
theorem ChF.val {S : Av} {H : Hp} {kvs : List (Key × V)} {B : Bks} (h : ChF S H kvs B) (nd : (B.map (·.1)).Nodup) {b : List Nat × List (List Int)} (hb : b ∈ B) : ∃ v, valV kvs (Sum.inr (SX.S b.1) : Key) = some v ∧ At S H v (chsD b.2) := by
  obtain ⟨i, hi⟩ := List.mem_iff_getElem?.mp hb
  have h1 : (kvs.map (·.1))[i]? = some (Sum.inr (SX.S b.1) : Key) := by
    rw [h.k, List.getElem?_map, hi]
    rfl
  rw [List.getElem?_map] at h1
  cases e : kvs[i]? with
  | none =>
    rw [e] at h1
    cases h1
  | some kv =>
    rw [e] at h1
    have h2 : kv.1 = Sum.inr (SX.S b.1) := Option.some.inj h1
    have h3 : (kvs.map (·.2))[i]? = some kv.2 := by
      rw [List.getElem?_map, e]
      rfl
    obtain ⟨b', hb', hv⟩ := h.v.at_ h3
    rw [hi] at hb'
    cases hb'
    refine ⟨kv.2, val_at (i := i) (by rw [e, ← h2]) ?_, hv⟩
    rw [h.k]
    have : (B.map fun b => (Sum.inr (SX.S b.1) : Key)) = (B.map (·.1)).map fun n => (Sum.inr (SX.S n) : Key) := by
      rw [List.map_map]
      rfl
    rw [this]
    exact List.pairwise_map.mpr (nd.imp fun {a c} ne z => ne (SX.S_inj (Sum.inr.inj z)))
theorem lyes {n : Nat} {k : Int} (e : (n : Int) = k) : decide (V.int (n : Int) = V.int k) = true := by
  rw [e]
  exact decide_eq_true rfl
theorem lno {n : Nat} {k : Int} (e : (n : Int) ≠ k) : ¬ decide (V.int (n : Int) = V.int k) = true := fun z => e (V.int.inj (of_decide_eq_true z))
/-- a part that is there -/
structure okPl (B : Bks) (x : Pl) (b : List Nat × List (List Int)) (j k : Nat) (c : List Int) (m : Int) : Prop where
  hb : b ∈ B
  nm : b.1 = x.nm
  hc : b.2[j]? = some c
  xc : x.c = 1 + (j : Int)
  hm : c[k]? = some m
  xv : x.v = 1 + (k : Int)
  p1 : 1 ≤ x.p
  pm : x.p ≤ m
theorem mem_plV {nm : List Nat} {ci vi : Nat} {m : Int} {x : Pl} (h : x ∈ plV nm ci vi m) : x.nm = nm ∧ x.c = 1 + (ci : Int) ∧ x.v = 1 + (vi : Int) ∧ 1 ≤ x.p ∧ x.p ≤ m := by
  unfold plV at h
  obtain ⟨k, hk, rfl⟩ := List.mem_map.mp h
  have := List.mem_range.mp hk
  exact ⟨rfl, rfl, rfl, by show (1 : Int) ≤ 1 + (k : Int); omega, by show 1 + (k : Int) ≤ m; omega⟩
theorem mem_plOf {B : Bks} {x : Pl} (h : x ∈ plOf B) : ∃ b j k c m, okPl B x b j k c m := by
  unfold plOf at h
  obtain ⟨b, hb, h⟩ := List.mem_flatMap.mp h
  unfold plB at h
  obtain ⟨⟨c, j⟩, hc, h⟩ := List.mem_flatMap.mp h
  unfold plC at h
  obtain ⟨⟨m, k⟩, hm, h⟩ := List.mem_flatMap.mp h
  obtain ⟨e1, e2, e3, e4, e5⟩ := mem_plV h
  have hc : b.2[j]? = some c := by simpa using List.mem_zipIdx_iff_getElem?.mp hc
  have hm : c[k]? = some m := by simpa using List.mem_zipIdx_iff_getElem?.mp hm
  exact ⟨b, j, k, c, m, hb, e1.symm, hc, e2, hm, e3, e4, e5⟩
def sp_book (C : Addr) : Sp := fun vs H Q _ => ∃ (S : Av) (e : Addr) (B : Bks) (L : List Int) (b : List Nat × List (List Int)), vs = [.ref e, .str (SX.S b.1)] ∧ EdAt S H C e B L ∧ okBks B ∧ b ∈ B ∧ ∀ v, At S H v (chsD b.2) → Q v H
def sp_chap (C : Addr) : Sp := fun vs H Q _ => ∃ (S : Av) (e : Addr) (B : Bks) (L : List Int) (b : List Nat × List (List Int)) (j : Nat) (c : List Int), vs = [.ref e, .str (SX.S b.1), .int (1 + (j : Int))] ∧ EdAt S H C e B L ∧ okBks B ∧ b ∈ B ∧ b.2[j]? = some c ∧ ∀ v, At S H v (chD c) → Q v H
def sp_parts (C : Addr) : Sp := fun vs H Q _ => ∃ (S : Av) (e : Addr) (B : Bks) (L : List Int) (b : List Nat × List (List Int)) (j : Nat) (c : List Int) (k : Nat) (m : Int), vs = [.ref e, .str (SX.S b.1), .int (1 + (j : Int)), .int (1 + (k : Int))] ∧ EdAt S H C e B L ∧ okBks B ∧ b ∈ B ∧ b.2[j]? = some c ∧ c[k]? = some m ∧ Q (.int m) H
def sp_checkS (C : Addr) : Sp := fun vs H Q _ => ∃ (S : Av) (e : Addr) (B : Bks) (L : List Int) (t : Addr) (x : Pl) (n : Nat), vs = [.ref e, .ref t] ∧ EdAt S H C e B L ∧ okBks B ∧ x ∈ plOf B ∧ SpAt H t x (n + 1) ∧ n < 4 ∧ Q .non H
def sp_stretch (C : Addr) : Sp := fun vs H Q _ => ∃ (S : Av) (e : Addr) (B : Bks) (L : List Int) (t : Addr) (x : Pl) (n : Nat) (s : Int × Int), vs = [.ref e, .ref t] ∧ EdAt S H C e B L ∧ okBks B ∧ x ∈ plOf B ∧ SpAt H t x (n + 1) ∧ n < 4 ∧ stOf (plOf B) ((plK x).take (n + 1)) = some s ∧ ∀ v, At S H v (prD s) → Q v H
def sp_number (C : Addr) : Sp := fun vs H Q _ => ∃ (S : Av) (e : Addr) (B : Bks) (L : List Int) (t : Addr) (x : Pl) (s : Int × Int), vs = [.ref e, .ref t] ∧ EdAt S H C e B L ∧ okBks B ∧ x ∈ plOf B ∧ SpAt H t x 4 ∧ stOf (plOf B) ((plK x).take 4) = some s ∧ Q (.int s.1) H
def sp_place (C : Addr) : Sp := fun vs H Q _ => ∃ (S : Av) (e : Addr) (B : Bks) (L : List Int) (n : Nat) (x : Pl), vs = [.ref e, .int (n : Nat)] ∧ EdAt S H C e B L ∧ (plOf B)[n]? = some x ∧ ∀ v, At S H v (plD x) → Q v H
def sp_verseOf (C : Addr) : Sp := fun vs H Q _ => ∃ (S : Av) (e : Addr) (B : Bks) (L : List Int) (n : Nat) (x : Pl), vs = [.ref e, .int (n : Nat)] ∧ EdAt S H C e B L ∧ (plOf B)[n]? = some x ∧ ∀ t, H t = none → Q (.ref t) (upd H t (.tup [.str (SX.S x.nm), .int x.c, .int x.v]))
section
variable {P : Program} {w : World} {K : PySem.W.Frag} {mg : Str → Option Value} {base : Heap}
theorem ok_book {C f : Addr} {fd : FuncData} (T : Txt K mg) (EC : EdC K C) (F : Fun K "_book" "Edition._book" s_Edition__book f fd) : FnOk P w K mg base CX0 2 f fd ["self", "name"] (sp_book C) := by
  refine F.ok sc_Edition__book (fun vs H Q E h => ?_) (fun cdv A outer s H vs Q E hr h => ?_)
  · obtain ⟨S, e, B, L, b, rfl, _⟩ := h
    rfl
  · obtain ⟨S, e, B, L, b, rfl, ⟨w, hw⟩, ok, hb, q⟩ := h
    refine ⟨_, (pss_cons (ps_if (pt_not (PW.pt (pw_and (pt_val (pe_callB call_isb (by rfl) T.b_isinstance (by decide +kernel) (pa_cons (pv 1) (pa_cons (pe_bltn (v := .ty "str") (u := .type "str") (by rfl) T.b_str (by decide +kernel) rfl) pa_nil)))) (pw_and1 (pt_cmp (pc_din (hu_of hr) (pv 1) (pe_fld (pv 0) rfl))))))) (pss_one ps_never) pss_nil)
      (pss_one (ps_ret (pe_dget (hu_of hr) (pe_fld (pv 0) rfl) (pv 1) (fun _ _ => rfl))))), ?_⟩
    obtain ⟨v, hv, hat⟩ := hw.c2.val ok.nd hb
    refine ⟨_, rfl, isi_b (b := true) (.str _) (by decide +kernel) ⟨_, rfl, ite2 (fun _ => ?_) fun z => absurd rfl z⟩⟩
    refine ⟨_, rfl, .ref e, rfl, e, C, _, _, _, rfl, hw.at_, EC.cl, EC.n2, rfl, w.dc, _, rfl, DGet.k (k := Sum.inr (SX.S b.1)) hw.h2, _, rfl, ?_⟩
    rw [hv]
    refine ite2 (fun z => absurd (show false = true from z) Bool.false_ne_true) fun _ => ?_
    exact ⟨.ref e, rfl, e, C, _, _, _, rfl, hw.at_, EC.cl, EC.n2, rfl, _, rfl, w.dc, _, rfl, hv ▸ DGet.k (k := Sum.inr (SX.S b.1)) hw.h2, q v hat⟩
theorem ok_chap {C f : Addr} {fd : FuncData} (T : Txt K mg) (EC : EdC K C) (c_is_whole : Cl P w K mg base 2 "is_whole" ["thing", "low", "high"] (sp_whole K)) (m__book : C8.Met P w K mg base 2 C "_book" (sp_book C) []) (F : Fun K "_chapter" "Edition._chapter" s_Edition__chapter f fd) : FnOk P w K mg base CX0 3 f fd ["self", "name", "chapter"] (sp_chap C) := by
  refine F.ok sc_Edition__chapter (fun vs H Q E h => ?_) (fun cdv A outer s H vs Q E hr h => ?_)
  · obtain ⟨S, e, B, L, b, j, c, rfl, _⟩ := h
    rfl
  · obtain ⟨S, e, B, L, b, j, c, rfl, h, ok, hb, hc, q⟩ := h
    refine ⟨_, (pss_cons (ps_set (i := 3) sc_Edition__chapter.nd rfl (.inl rfl) (C8.pe_mt m__book hr (by decide) (pv 0) (pa_cons (pv 1) pa_nil)))
      (pss_cons (ps_if (pt_not (pt_val (pe_cl c_is_whole hr (by decide) (by rfl) (pa_cons (pv 2) (pa_cons pe_int (pa_cons (pe_callB call_len (by rfl) T.b_len (by decide +kernel) (pa_cons (pv 3) pa_nil)) pa_nil)))))) (pss_one ps_never) pss_nil)
      (pss_one (ps_ret (pe_ix ix_tup (pv 3) (pe_op op_sub (pv 2) pe_int) (fun _ _ => rfl)))))), ?_⟩
    obtain ⟨w, hw⟩ := id h
    refine ⟨.ref e, rfl, e, _, _, rfl, hw.at_, rfl, _, rfl, S, e, B, L, b, rfl, h, ok, hb, fun v hv => ?_⟩
    cases hv with
    | tup nt et kt =>
    rename_i t xs
    have lx : xs.length = b.2.length := by rw [kt.len, List.length_map]
    have lj : j < b.2.length := (List.getElem?_eq_some_iff.mp hc).1
    have ew : whole (.int (1 + (j : Int))) 1 (xs.length : Nat) = true := by
      show (decide (1 ≤ 1 + (j : Int)) && decide (1 + (j : Int) ≤ (xs.length : Nat))) = true
      rw [decide_eq_true (by omega), decide_eq_true (by omega), Bool.true_and]
    refine ⟨_, rfl, .ref t, rfl, _, _, rfl, .inr ⟨_, .inl (.inl et), rfl⟩, .int (1 + (j : Int)), 1, _, rfl, .int _, ?_⟩
    rw [ew]
    refine ⟨_, rfl, ite2 (fun z => absurd z (by decide)) fun _ => ?_⟩
    have hx : xs[j]? = some xs[j] := List.getElem?_eq_getElem (by omega)
    obtain ⟨c', hc', hv⟩ := kt.at_ hx
    rw [hc] at hc'
    cases hc'
    have ej : 1 + (j : Int) - 1 = (j : Int) := by omega
    exact ⟨.ref t, rfl, _, rfl, 1 + (j : Int), 1, rfl, rfl, t, _, _, _, rfl, rfl, .inl (.inl et), (by rw [ej]; exact atI_nat hx), q _ hv⟩
theorem ok_parts {C f : Addr} {fd : FuncData} (T : Txt K mg) (EC : EdC K C) (c_is_whole : Cl P w K mg base 2 "is_whole" ["thing", "low", "high"] (sp_whole K)) (m__chapter : C8.Met P w K mg base 3 C "_chapter" (sp_chap C) []) (F : Fun K "parts" "Edition.parts" s_Edition_parts f fd) : FnOk P w K mg base CX0 4 f fd ["self", "name", "chapter", "verse"] (sp_parts C) := by
  refine F.ok sc_Edition_parts (fun vs H Q E h => ?_) (fun cdv A outer s H vs Q E hr h => ?_)
  · obtain ⟨S, e, B, L, b, j, c, k, m, rfl, _⟩ := h
    rfl
  · obtain ⟨S, e, B, L, b, j, c, k, m, rfl, h, ok, hb, hc, hm, q⟩ := h
    refine ⟨_, (pss_cons (ps_set (i := 4) sc_Edition_parts.nd rfl (.inl rfl) (C8.pe_mt m__chapter hr (by decide) (pv 0) (pa_cons (pv 1) (pa_cons (pv 2) pa_nil))))
      (pss_cons (ps_if (pt_not (pt_val (pe_cl c_is_whole hr (by decide) (by rfl) (pa_cons (pv 3) (pa_cons pe_int (pa_cons (pe_callB call_len (by rfl) T.b_len (by decide +kernel) (pa_cons (pv 4) pa_nil)) pa_nil)))))) (pss_one ps_never) pss_nil)
      (pss_one (ps_ret (pe_ix ix_tup (pv 4) (pe_op op_sub (pv 3) pe_int) (fun _ _ => rfl)))))), ?_⟩
    obtain ⟨w, hw⟩ := id h
    refine ⟨.ref e, rfl, e, _, _, rfl, hw.at_, rfl, _, rfl, _, rfl, S, e, B, L, b, j, c, rfl, h, ok, hb, hc, fun v hv => ?_⟩
    obtain ⟨t, rfl, nt, et⟩ := hv.ch
    have lk : k < c.length := (List.getElem?_eq_some_iff.mp hm).1
    have ew : whole (.int (1 + (k : Int))) 1 ((c.map V.int).length : Nat) = true := by
      show (decide (1 ≤ 1 + (k : Int)) && decide (1 + (k : Int) ≤ ((c.map V.int).length : Nat))) = true
      rw [List.length_map, decide_eq_true (by omega), decide_eq_true (by omega), Bool.true_and]
    refine ⟨_, rfl, .ref t, rfl, _, _, rfl, .inr ⟨_, .inl (.inl et), rfl⟩, .int (1 + (k : Int)), 1, _, rfl, .int _, ?_⟩
    rw [ew]
    refine ⟨_, rfl, ite2 (fun z => absurd z (by decide)) fun _ => ?_⟩
    have ek : 1 + (k : Int) - 1 = (k : Int) := by omega
    exact ⟨.ref t, rfl, _, rfl, 1 + (k : Int), 1, rfl, rfl, t, _, _, _, rfl, rfl, .inl (.inl et), (by rw [ek]; exact atI_nat (by rw [List.getElem?_map, hm]; rfl)), q⟩
theorem ok_checkS {C f : Addr} {fd : FuncData} (T : Txt K mg) (EC : EdC K C) (c_is_whole : Cl P w K mg base 2 "is_whole" ["thing", "low", "high"] (sp_whole K)) (m__book : C8.Met P w K mg base 2 C "_book" (sp_book C) []) (m__chapter : C8.Met P w K mg base 3 C "_chapter" (sp_chap C) []) (m_parts : C8.Met P w K mg base 4 C "parts" (sp_parts C) []) (F : Fun K "_check_spot" "Edition._check_spot" s_Edition__check_spot f fd) : FnOk P w K mg base CX0 5 f fd ["self", "spot"] (sp_checkS C) := by
  refine F.ok sc_Edition__check_spot (fun vs H Q E h => ?_) (fun cdv A outer s H vs Q E hr h => ?_)
  · obtain ⟨S, e, B, L, t, x, n, rfl, _⟩ := h
    rfl
  · obtain ⟨S, e, B, L, t, x, n, rfl, h, ok, hx, ht, hn, q⟩ := h
    refine ⟨_, (pss_one (ps_if (pt_cmpR op_eq (pe_callB call_len (by rfl) T.b_len (by decide +kernel) (pa_cons (pv 1) pa_nil)) pe_int (nomark _)) (pss_one (ps_expr (C8.pe_mt m__book hr (by decide) (pv 0) (pa_cons (pe_ix ix_tup (pv 1) pe_int (fun _ _ => rfl)) pa_nil)))) (pss_one (ps_if (pt_cmpR op_eq (pe_callB call_len (by rfl) T.b_len (by decide +kernel) (pa_cons (pv 1) pa_nil)) pe_int (nomark _)) (pss_one (ps_expr (C8.pe_mt m__chapter hr (by decide) (pv 0) (pa_cons (pe_ix ix_tup (pv 1) pe_int (fun _ _ => rfl)) (pa_cons (pe_ix ix_tup (pv 1) pe_int (fun _ _ => rfl)) pa_nil))))) (pss_cons (ps_set (i := 2) sc_Edition__check_spot.nd rfl (.inl rfl) (C8.pe_mt m_parts hr (by decide) (pv 0) (pa_cons (pe_ix ix_tup (pv 1) pe_int (fun _ _ => rfl)) (pa_cons (pe_ix ix_tup (pv 1) pe_int (fun _ _ => rfl)) (pa_cons (pe_ix ix_tup (pv 1) pe_int (fun _ _ => rfl)) pa_nil)))))
          (pss_one (ps_if (PW.pt (pw_and (pt_cmpR op_eq (pe_callB call_len (by rfl) T.b_len (by decide +kernel) (pa_cons (pv 1) pa_nil)) pe_int (nomark _)) (pw_and1 (pt_not (pt_val (pe_cl c_is_whole hr (by decide) (by rfl) (pa_cons (pe_ix ix_tup (pv 1) pe_int (fun _ _ => rfl)) (pa_cons pe_int (pa_cons (pv 2) pa_nil))))))))) (pss_one ps_never) pss_nil))))))), ?_⟩
    obtain ⟨w, hw⟩ := id h
    obtain ⟨b, j, k, c, m, o⟩ := mem_plOf hx
    have en : V.str (SX.S x.nm) = .str (SX.S b.1) := by rw [o.nm]
    have ht' : H t = some (.tup ([.str (SX.S x.nm), .int x.c, .int x.v, .int x.p].take (n + 1))) := by
      have := ht
      unfold SpAt at this
      rw [plK_kV] at this
      exact this
    rw [en, o.xc, o.xv] at ht'
    rcases (by omega : n = 0 ∨ n = 1 ∨ n = 2 ∨ n = 3) with rfl | rfl | rfl | rfl
    · have ht1 : H t = some (.tup [.str (SX.S b.1)]) := ht'
      refine ⟨.ref t, rfl, _, _, rfl, .inr ⟨_, .inl (.inl ht1), rfl⟩, rfl, _, rfl, ite2 (fun _ => ?_) fun z => (z (lyes rfl)).elim⟩
      exact ⟨.ref e, rfl, e, _, _, rfl, hw.at_, rfl, .ref t, rfl, t, _, _, _, rfl, rfl, .inl (.inl ht1), atI_nat (j := 0) rfl, S, e, B, L, b, rfl, h, ok, o.hb, fun v hv => q⟩
    · have ht1 : H t = some (.tup [.str (SX.S b.1), .int (1 + (j : Int))]) := ht'
      refine ⟨.ref t, rfl, _, _, rfl, .inr ⟨_, .inl (.inl ht1), rfl⟩, rfl, _, rfl, ite2 (fun z => absurd z (lno (n := 2) (by decide))) fun _ => ?_⟩
      refine ⟨.ref t, rfl, _, _, rfl, .inr ⟨_, .inl (.inl ht1), rfl⟩, rfl, _, rfl, ite2 (fun _ => ?_) fun z => (z (lyes rfl)).elim⟩
      exact ⟨.ref e, rfl, e, _, _, rfl, hw.at_, rfl, .ref t, rfl, t, _, _, _, rfl, rfl, .inl (.inl ht1), atI_nat (j := 0) rfl, .ref t, rfl, t, _, _, _, rfl, rfl, .inl (.inl ht1), atI_nat (j := 1) rfl, S, e, B, L, b, j, c, rfl, h, ok, o.hb, o.hc, fun v hv => q⟩
    · have ht1 : H t = some (.tup [.str (SX.S b.1), .int (1 + (j : Int)), .int (1 + (k : Int))]) := ht'
      refine ⟨.ref t, rfl, _, _, rfl, .inr ⟨_, .inl (.inl ht1), rfl⟩, rfl, _, rfl, ite2 (fun z => absurd z (lno (n := 3) (by decide))) fun _ => ?_⟩
      refine ⟨.ref t, rfl, _, _, rfl, .inr ⟨_, .inl (.inl ht1), rfl⟩, rfl, _, rfl, ite2 (fun z => absurd z (lno (n := 3) (by decide))) fun _ => ?_⟩
      refine ⟨.ref e, rfl, e, _, _, rfl, hw.at_, rfl, .ref t, rfl, t, _, _, _, rfl, rfl, .inl (.inl ht1), atI_nat (j := 0) rfl, .ref t, rfl, t, _, _, _, rfl, rfl, .inl (.inl ht1), atI_nat (j := 1) rfl, .ref t, rfl, t, _, _, _, rfl, rfl, .inl (.inl ht1), atI_nat (j := 2) rfl, S, e, B, L, b, j, c, k, m, rfl, h, ok, o.hb, o.hc, o.hm, ?_⟩
      exact ⟨.ref t, rfl, _, _, rfl, .inr ⟨_, .inl (.inl ht1), rfl⟩, rfl, _, rfl, ite2 (fun z => absurd z (lno (n := 3) (by decide))) fun _ => ite2 (fun z => absurd (show false = true from z) Bool.false_ne_true) fun _ => q⟩
    · have ht1 : H t = some (.tup [.str (SX.S b.1), .int (1 + (j : Int)), .int (1 + (k : Int)), .int x.p]) := ht'
      refine ⟨.ref t, rfl, _, _, rfl, .inr ⟨_, .inl (.inl ht1), rfl⟩, rfl, _, rfl, ite2 (fun z => absurd z (lno (n := 4) (by decide))) fun _ => ?_⟩
      refine ⟨.ref t, rfl, _, _, rfl, .inr ⟨_, .inl (.inl ht1), rfl⟩, rfl, _, rfl, ite2 (fun z => absurd z (lno (n := 4) (by decide))) fun _ => ?_⟩
      refine ⟨.ref e, rfl, e, _, _, rfl, hw.at_, rfl, .ref t, rfl, t, _, _, _, rfl, rfl, .inl (.inl ht1), atI_nat (j := 0) rfl, .ref t, rfl, t, _, _, _, rfl, rfl, .inl (.inl ht1), atI_nat (j := 1) rfl, .ref t, rfl, t, _, _, _, rfl, rfl, .inl (.inl ht1), atI_nat (j := 2) rfl, S, e, B, L, b, j, c, k, m, rfl, h, ok, o.hb, o.hc, o.hm, ?_⟩
      have ew : whole (.int x.p) 1 m = true := by
        show (decide (1 ≤ x.p) && decide (x.p ≤ m)) = true
        rw [decide_eq_true o.p1, decide_eq_true o.pm, Bool.true_and]
      refine ⟨.ref t, rfl, _, _, rfl, .inr ⟨_, .inl (.inl ht1), rfl⟩, rfl, _, rfl, ite2 (fun _ => ?_) fun z => (z (lyes rfl)).elim⟩
      refine ⟨.ref t, rfl, t, _, _, _, rfl, rfl, .inl (.inl ht1), atI_nat (j := 3) rfl, _, rfl, .int x.p, 1, m, rfl, .int _, ?_⟩
      rw [ew]
      exact ⟨_, rfl, ite2 (fun z => absurd z (by decide)) fun _ => q⟩
theorem ok_stretch {C f : Addr} {fd : FuncData} (T : Txt K mg) (EC : EdC K C) (c_is_tuple : Cl P w K mg base 2 "is_tuple" ["thing", "fewest", "most"] sp_isTup) (m__check_spot : C8.Met P w K mg base 5 C "_check_spot" (sp_checkS C) []) (F : Fun K "stretch" "Edition.stretch" s_Edition_stretch f fd) : FnOk P w K mg base CX0 6 f fd ["self", "spot"] (sp_stretch C) := by
  refine F.ok sc_Edition_stretch (fun vs H Q E h => ?_) (fun cdv A outer s H vs Q E hr h => ?_)
  · obtain ⟨S, e, B, L, t, x, n, s, rfl, _⟩ := h
    rfl
  · obtain ⟨S, e, B, L, t, x, n, s, rfl, h, ok, hx, ht, hn, hs, q⟩ := h
    refine ⟨_, (pss_cons (ps_if (pt_not (pt_val (pe_cl c_is_tuple hr (by decide) (by rfl) (pa_cons (pv 1) (pa_cons pe_int (pa_cons pe_int pa_nil)))))) (pss_one ps_never) pss_nil)
      (pss_cons (ps_expr (C8.pe_mt m__check_spot hr (by decide) (pv 0) (pa_cons (pv 1) pa_nil)))
      (pss_one (ps_ret (pe_dget (hu_of hr) (pe_fld (pv 0) rfl) (pv 1) (fun _ _ => rfl)))))), ?_⟩
    obtain ⟨w, hw⟩ := id h
    have lt : (((plK x).take (n + 1)).map kV).length = n + 1 := by
      rw [List.length_map, List.length_take]
      show min (n + 1) 4 = n + 1
      omega
    refine ⟨.ref t, rfl, t, _, 1, 4, rfl, ht, ?_⟩
    rw [lt, decide_eq_true (by omega), decide_eq_true (by omega)]
    refine ⟨_, rfl, ite2 (fun z => absurd z (by decide)) fun _ => ?_⟩
    refine ⟨.ref e, rfl, e, _, _, rfl, hw.at_, rfl, _, rfl, S, e, B, L, t, x, n, rfl, h, ok, hx, ht, hn, ?_⟩
    have hk := hw.c4 ((plK x).take (n + 1))
    rw [hs] at hk
    obtain ⟨v, h1, h2⟩ := hk
    exact ⟨.ref e, rfl, e, C, _, _, _, rfl, hw.at_, EC.cl, EC.n4, rfl, _, rfl, w.ds, _, rfl, h1 ▸ DGet.t hw.h4 ht, q v h2⟩
theorem ok_numberE {C f : Addr} {fd : FuncData} (T : Txt K mg) (EC : EdC K C) (c_is_tuple : Cl P w K mg base 2 "is_tuple" ["thing", "fewest", "most"] sp_isTup) (m_stretch : C8.Met P w K mg base 6 C "stretch" (sp_stretch C) []) (F : Fun K "number" "Edition.number" s_Edition_number f fd) : FnOk P w K mg base CX0 7 f fd ["self", "spot"] (sp_number C) := by
  refine F.ok sc_Edition_number (fun vs H Q E h => ?_) (fun cdv A outer s H vs Q E hr h => ?_)
  · obtain ⟨S, e, B, L, t, x, s, rfl, _⟩ := h
    rfl
  · obtain ⟨S, e, B, L, t, x, s, rfl, h, ok, hx, ht, hs, q⟩ := h
    refine ⟨_, (pss_cons (ps_if (pt_not (pt_val (pe_cl c_is_tuple hr (by decide) (by rfl) (pa_cons (pv 1) (pa_cons pe_int (pa_cons pe_int pa_nil)))))) (pss_one ps_never) pss_nil)
      (pss_cons (ps_asg (C8.pe_mt m_stretch hr (by decide) (pv 0) (pa_cons (pv 1) pa_nil)) (pg_tup rfl (pgs_cons (pg_name (i := 2) sc_Edition_number.nd rfl (.inl rfl)) (pgs_cons (pg_name (i := 3) sc_Edition_number.nd rfl (.inl rfl)) pgs_nil))))
      (pss_one (ps_ret (pv 2))))), ?_⟩
    obtain ⟨w, hw⟩ := id h
    refine ⟨.ref t, rfl, t, _, 4, 4, rfl, ht, _, rfl, ite2 (fun z => absurd (show false = true from z) Bool.false_ne_true) fun _ => ?_⟩
    refine ⟨.ref e, rfl, e, _, _, rfl, hw.at_, rfl, _, rfl, S, e, B, L, t, x, 3, s, rfl, h, ok, hx, ht, by decide, hs, fun v hv => ?_⟩
    obtain ⟨p, rfl, np, ep⟩ := hv.pair
    exact ⟨p, _, rfl, .inl (.inl ep), rfl, _, _, rfl, _, _, rfl, rfl, _, rfl, q⟩
theorem ok_place {C f : Addr} {fd : FuncData} (T : Txt K mg) (EC : EdC K C) (m__check_number : C8.Met P w K mg base 3 C "_check_number" (sp_checkN C) []) (F : Fun K "place" "Edition.place" s_Edition_place f fd) : FnOk P w K mg base CX0 4 f fd ["self", "number"] (sp_place C) := by
  refine F.ok sc_Edition_place (fun vs H Q E h => ?_) (fun cdv A outer s H vs Q E hr h => ?_)
  · obtain ⟨S, e, B, L, n, x, rfl, _⟩ := h
    rfl
  · obtain ⟨S, e, B, L, n, x, rfl, h, hx, q⟩ := h
    refine ⟨_, (pss_cons (ps_expr (C8.pe_mt m__check_number hr (by decide) (pv 0) (pa_cons (pv 1) pa_nil)))
      (pss_one (ps_ret (pe_ix ix_list (pe_fld (pv 0) rfl) (pv 1) (fun _ _ => rfl))))), ?_⟩
    obtain ⟨w, hw⟩ := id h
    have ln : n < (plOf B).length := (List.getElem?_eq_some_iff.mp hx).1
    have lr : w.rows.length = (plOf B).length := by rw [hw.c3.len, List.length_map]
    have hv : w.rows[n]? = some w.rows[n] := List.getElem?_eq_getElem (by omega)
    obtain ⟨x', hx', hat⟩ := hw.c3.at_ hv
    rw [hx] at hx'
    cases hx'
    refine ⟨.ref e, rfl, e, _, _, rfl, hw.at_, rfl, _, rfl, S, e, B, L, _, rfl, h, by omega, by omega, ?_⟩
    exact ⟨.ref e, rfl, e, C, _, _, _, rfl, hw.at_, EC.cl, EC.n3, rfl, _, rfl, _, _, _, _, rfl, rfl, .inl (.inl hw.h3), atI_nat hv, q _ hat⟩
end
end My
set_option Elab.async false
set_option linter.all false
set_option maxRecDepth 100000
set_option maxHeartbeats 4000000
namespace My
open PySem PySem.Spec PyProof.Rows L2
/-! M2: all spots, level by level; their stretches follow one another. -/
structure Seg (P : List Pl) (k : List Key) (s : Nat) (M : List Pl) : Prop where
  ex : ∃ A C, P = A ++ M ++ C ∧ A.length = s ∧ (∀ y ∈ A, (plK y).take k.length ≠ k) ∧ ∀ y ∈ C, (plK y).take k.length ≠ k
  ne : M ≠ []
  al : ∀ y ∈ M, (plK y).take k.length = k
theorem ends_cons {L : List Int} {x a z : Int} (h : ends L = some (a, z)) : ends (x :: L) = some (x, z) := by
  cases L with
  | nil => cases h
  | cons b t =>
    unfold ends at h ⊢
    rw [List.getLast?_cons_cons]
    cases q : (b :: t).getLast? with
    | none =>
      rw [q] at h
      cases h
    | some y =>
      rw [q] at h
      have h : some (b, y) = some (a, z) := h
      cases h
      rfl
theorem zi_ends : ∀ (M : List Pl) (n : Nat), M ≠ [] → ends ((M.zipIdx n).map fun x => (x.2 : Int)) = some ((n : Int), (n : Int) + (M.length : Int) - 1)
  | [], _, h => absurd rfl h
  | [a], n, _ => by
    show ends [(n : Int)] = _
    have : (n : Int) + (([a] : List Pl).length : Int) - 1 = n := by
      show (n : Int) + 1 - 1 = n
      omega
    rw [this]
    rfl
  | a :: b :: r, n, _ => by
    have h := zi_ends (b :: r) (n + 1) (by simp)
    rw [List.zipIdx_cons, List.map_cons, ends_cons h, List.length_cons (a := a)]
    congr 2
    omega
theorem Seg.st {P : List Pl} {k : List Key} {s : Nat} {M : List Pl} (h : Seg P k s M) {m : Nat} (hk : k.length = m + 1) (hm : m < 4) : stOf P k = some ((s : Int), ((s + M.length : Nat) : Int) - 1) := by
  rw [st_ends P hk hm]
  obtain ⟨A, C, e, ea, ha, hc⟩ := h.ex
  have e2 : insK P k = (M.zipIdx s).map fun x => (x.2 : Int) := by
    unfold insK
    rw [e, List.zipIdx_append, List.zipIdx_append, List.filter_append, List.filter_append]
    have n1 : (A.zipIdx.filter fun x => decide ((plK x.1).take k.length = k)) = [] := List.filter_eq_nil_iff.mpr fun x hx q => ha x.1 (zi_mem hx) (of_decide_eq_true q)
    have n3 : ∀ n, ((C.zipIdx n).filter fun x => decide ((plK x.1).take k.length = k)) = [] := fun n => List.filter_eq_nil_iff.mpr fun x hx q => hc x.1 (by
      have := List.mem_map_of_mem (f := (·.1)) hx
      rwa [zi_fst] at this) (of_decide_eq_true q)
    have n2 : ((M.zipIdx (0 + A.length)).filter fun x => decide ((plK x.1).take k.length = k)) = M.zipIdx (0 + A.length) := List.filter_eq_self.mpr fun x hx => decide_eq_true (h.al x.1 (by
      have := List.mem_map_of_mem (f := (·.1)) hx
      rwa [zi_fst] at this))
    rw [n1, n2, n3, List.nil_append, List.append_nil, Nat.zero_add, ea]
  rw [e2, zi_ends M s h.ne]
  congr 2
theorem zi_split {α : Type} {xs : List α} {i : Nat} {x : α} (h : xs[i]? = some x) : xs.zipIdx = (xs.take i).zipIdx ++ (x, i) :: (xs.drop (i + 1)).zipIdx (i + 1) := by
  have hi : i < xs.length := (List.getElem?_eq_some_iff.mp h).1
  have e : xs = xs.take i ++ x :: xs.drop (i + 1) := by
    have := List.take_append_drop i xs
    rw [List.drop_eq_getElem_cons hi] at this
    rw [← (List.getElem?_eq_some_iff.mp h).2]
    exact this.symm
  conv => lhs; rw [e]
  rw [List.zipIdx_append, List.zipIdx_cons, List.length_take, Nat.min_eq_left (by omega), Nat.zero_add]
theorem take_key {l : List Key} {n : Nat} {k : List Key} {a : Key} (h : l.take (n + 1) = k ++ [a]) (hk : k.length = n) : l.take n = k := by
  have := congrArg (List.take n) h
  rw [List.take_take, Nat.min_eq_left (by omega), List.take_append_of_le_length (by omega), ← hk, List.take_length] at this
  rw [← hk]
  exact this
theorem Seg.kid {P : List Pl} {k : List Key} {s : Nat} {α : Type} {xs : List α} {f : Nat → α → List Pl} (h : Seg P k s (xs.zipIdx.flatMap fun z => f z.2 z.1))
    (ne : ∀ i x, xs[i]? = some x → f i x ≠ []) (key : ∀ i x, xs[i]? = some x → ∀ y ∈ f i x, (plK y).take (k.length + 1) = k ++ [Sum.inl (1 + (i : Int))]) {i : Nat} {x : α} (hx : xs[i]? = some x) :
    Seg P (k ++ [Sum.inl (1 + (i : Int))]) (s + ((xs.take i).zipIdx.flatMap fun z => f z.2 z.1).length) (f i x) := by
  obtain ⟨A, C, e, ea, ha, hc⟩ := h.ex
  have lk : (k ++ [(Sum.inl (1 + (i : Int)) : Key)]).length = k.length + 1 := by
    rw [List.length_append]
    rfl
  have other : ∀ j y, j ≠ i → ∀ x', xs[j]? = some x' → y ∈ f j x' → (plK y).take (k.length + 1) ≠ k ++ [Sum.inl (1 + (i : Int))] := fun j y hj x' hx' hy z => by
    rw [key j x' hx' y hy] at z
    have := (List.append_inj' z rfl).2
    have : (1 : Int) + j = 1 + i := Sum.inl.inj (List.cons.inj this).1
    omega
  refine ⟨⟨A ++ (xs.take i).zipIdx.flatMap fun z => f z.2 z.1, ((xs.drop (i + 1)).zipIdx (i + 1)).flatMap (fun z => f z.2 z.1) ++ C, ?_, ?_, ?_, ?_⟩, ne i x hx, ?_⟩
  · rw [e, zi_split hx, List.flatMap_append, List.flatMap_cons]
    simp only [List.append_assoc]
  · rw [List.length_append, ea]
  · intro y hy
    rw [lk]
    rcases List.mem_append.mp hy with hy | hy
    · exact fun z => ha y hy (take_key z rfl)
    · obtain ⟨⟨x', j⟩, hz, hy⟩ := List.mem_flatMap.mp hy
      have hj := List.mem_zipIdx_iff_getElem?.mp hz
      have hj : (xs.take i)[j]? = some x' := by simpa using hj
      rw [List.getElem?_take] at hj
      split at hj
      · rename_i hji
        exact other j y (by omega) x' hj hy
      · cases hj
  · intro y hy
    rw [lk]
    rcases List.mem_append.mp hy with hy | hy
    · obtain ⟨⟨x', j⟩, hz, hy⟩ := List.mem_flatMap.mp hy
      obtain ⟨h1, h2, h3⟩ := List.mem_zipIdx hz
      have hj : xs[j]? = some x' := by
        rw [h3, List.getElem_drop]
        have : i + 1 + (j - (i + 1)) = j := by omega
        simp only [this]
        rw [List.length_drop] at h2
        exact List.getElem?_eq_getElem (by omega)
      exact other j y (by omega) x' hj hy
    · exact fun z => hc y hy (take_key z rfl)
  · intro y hy
    rw [lk]
    exact key i x hx y hy
/-- spots that follow one another from a to ahead of b -/
def Chn (P : List Pl) (m : Nat) (ys : List Pl) (a b : Nat) : Prop := ∃ g : Nat → Nat, g 0 = a ∧ g ys.length = b ∧ ∀ i y, ys[i]? = some y → y ∈ P ∧ g i < g (i + 1) ∧ stOf P ((plK y).take (m + 1)) = some ((g i : Int), (g (i + 1) : Int) - 1)
theorem Seg.mem {P : List Pl} {k : List Key} {s : Nat} {M : List Pl} (h : Seg P k s M) {y : Pl} (hy : y ∈ M) : y ∈ P := by
  obtain ⟨A, C, e, _⟩ := h.ex
  rw [e]
  simp [hy]
theorem Seg.chn {P : List Pl} {k : List Key} {s : Nat} {α : Type} {xs : List α} {f : Nat → α → List Pl} (h : Seg P k s (xs.zipIdx.flatMap fun z => f z.2 z.1))
    (key : ∀ i x, xs[i]? = some x → ∀ y ∈ f i x, (plK y).take (k.length + 1) = k ++ [Sum.inl (1 + (i : Int))]) (hk : k.length < 4) {ys : List Pl} (ly : ys.length = xs.length) (hys : ∀ i x y, xs[i]? = some x → ys[i]? = some y → y ∈ f i x) :
    Chn P k.length ys s (s + (xs.zipIdx.flatMap fun z => f z.2 z.1).length) := by
  have ne : ∀ i x, xs[i]? = some x → f i x ≠ [] := fun i x hx z => by
    have hi : i < xs.length := (List.getElem?_eq_some_iff.mp hx).1
    have := hys i x _ hx (List.getElem?_eq_getElem (by omega))
    rw [z] at this
    cases this
  refine ⟨fun i => s + ((xs.take i).zipIdx.flatMap fun z => f z.2 z.1).length, rfl, by show s + _ = _; rw [ly, List.take_length], fun i y hy => ?_⟩
  have hi : i < ys.length := (List.getElem?_eq_some_iff.mp hy).1
  have hx : xs[i]? = some xs[i] := List.getElem?_eq_getElem (by omega)
  have S := h.kid ne key hx
  have hm := hys i _ y hx hy
  have e := key i _ hx y hm
  have sl : ((xs.take (i + 1)).zipIdx.flatMap fun z => f z.2 z.1).length = ((xs.take i).zipIdx.flatMap fun z => f z.2 z.1).length + (f i xs[i]).length := by
    rw [zi_succ hx, List.flatMap_append, List.length_append, List.flatMap_cons, List.flatMap_nil, List.append_nil]
  have pos : 0 < (f i xs[i]).length := List.length_pos_iff.mpr (ne i _ hx)
  refine ⟨S.mem hm, ?_, ?_⟩
  · show s + _ < s + _
    rw [sl]
    omega
  · rw [e, S.st (m := k.length) (by rw [List.length_append]; rfl) hk]
    show _ = some (((s + _ : Nat) : Int), ((s + _ : Nat) : Int) - 1)
    rw [sl, Nat.add_assoc]
/-! ### the spots of a level, by the first part of each, and how many lie straight beneath -/
def Nodes (B : Bks) : Nat → List (Pl × Nat)
  | 0 => B.map fun b => (⟨b.1, 1, 1, 1⟩, b.2.length)
  | 1 => B.flatMap fun b => b.2.zipIdx.map fun z => (⟨b.1, 1 + (z.2 : Int), 1, 1⟩, z.1.length)
  | 2 => B.flatMap fun b => b.2.zipIdx.flatMap fun z => z.1.zipIdx.map fun w => (⟨b.1, 1 + (z.2 : Int), 1 + (w.2 : Int), 1⟩, w.1.toNat)
  | _ => (plOf B).map fun x => (x, 0)
def kidP (m : Nat) (x : Pl) (i : Nat) : Pl := match m with
  | 0 => ⟨x.nm, 1 + (i : Int), 1, 1⟩
  | 1 => ⟨x.nm, x.c, 1 + (i : Int), 1⟩
  | _ => ⟨x.nm, x.c, x.v, 1 + (i : Int)⟩
theorem zi_rng {α β : Type} (g : Nat → β) : ∀ (l : List α) (n : Nat), ((l.zipIdx n).map fun z => g z.2) = (List.range l.length).map fun i => g (n + i)
  | [], _ => rfl
  | a :: r, n => by
    rw [List.zipIdx_cons, List.map_cons, zi_rng g r (n + 1), List.length_cons, List.range_succ_eq_map, List.map_cons, List.map_map]
    congr 1
    refine List.map_congr_left fun i _ => ?_
    show g (n + 1 + i) = g (n + (i + 1))
    congr 1
    omega
theorem zi_rng0 {α β : Type} (g : Nat → β) (l : List α) : (l.zipIdx.map fun z => g z.2) = (List.range l.length).map g := by
  rw [zi_rng g l 0]
  refine List.map_congr_left fun i _ => ?_
  rw [Nat.zero_add]
theorem flatc {α β : Type} {f g : α → List β} : ∀ {l : List α}, (∀ x ∈ l, f x = g x) → l.flatMap f = l.flatMap g
  | [], _ => rfl
  | a :: r, h => by rw [List.flatMap_cons, List.flatMap_cons, h a (List.mem_cons_self ..), flatc fun x hx => h x (List.mem_cons_of_mem _ hx)]
theorem flat_one {α β : Type} (f : α → β) : ∀ l : List α, l.map f = l.flatMap fun x => [f x]
  | [] => rfl
  | a :: r => by rw [List.map_cons, List.flatMap_cons, flat_one f r]; rfl
theorem nodes0 (B : Bks) : Nodes B 0 = B.map fun b => (⟨b.1, 1, 1, 1⟩, b.2.length) := rfl
theorem nodes1 (B : Bks) : Nodes B 1 = B.flatMap fun b => b.2.zipIdx.map fun z => (⟨b.1, 1 + (z.2 : Int), 1, 1⟩, z.1.length) := rfl
theorem nodes2 (B : Bks) : Nodes B 2 = B.flatMap fun b => b.2.zipIdx.flatMap fun z => z.1.zipIdx.map fun w => (⟨b.1, 1 + (z.2 : Int), 1 + (w.2 : Int), 1⟩, w.1.toNat) := rfl
theorem nodes3 (B : Bks) : Nodes B 3 = (plOf B).map fun x => (x, 0) := rfl
theorem nodes_succ (B : Bks) {m : Nat} (hm : m < 3) : (Nodes B (m + 1)).map (·.1) = (Nodes B m).flatMap fun z => (List.range z.2).map (kidP m z.1) := by
  rcases (by omega : m = 0 ∨ m = 1 ∨ m = 2) with rfl | rfl | rfl
  · show (Nodes B 1).map _ = (Nodes B 0).flatMap _
    rw [nodes1, nodes0, List.map_flatMap, List.flatMap_map]
    refine flatc fun b _ => ?_
    rw [List.map_map]
    exact zi_rng0 (fun i => (⟨b.1, 1 + (i : Int), 1, 1⟩ : Pl)) b.2
  · show (Nodes B 2).map _ = (Nodes B 1).flatMap _
    rw [nodes2, nodes1, List.map_flatMap, List.flatMap_assoc]
    refine flatc fun b _ => ?_
    rw [List.map_flatMap, List.flatMap_map]
    refine flatc fun z _ => ?_
    rw [List.map_map]
    exact zi_rng0 (fun i => (⟨b.1, 1 + (z.2 : Int), 1 + (i : Int), 1⟩ : Pl)) z.1
  · show (Nodes B 3).map _ = (Nodes B 2).flatMap _
    rw [nodes3, nodes2, List.map_map, List.flatMap_assoc]
    have : (plOf B).map ((fun x => x.1) ∘ fun x => ((x, 0) : Pl × Nat)) = plOf B := List.map_id _
    rw [this]
    refine flatc fun b _ => ?_
    rw [List.flatMap_assoc]
    refine flatc fun z _ => ?_
    rw [List.flatMap_map]
    refine flatc fun w _ => ?_
    rfl
/-- what is wanted of a spot: its stretch, those beneath it in order, and how many they are -/
structure NdOk (B : Bks) (m : Nat) (x : Pl) (n : Nat) : Prop where
  mem : x ∈ plOf B
  st : ∃ s e : Nat, s < e ∧ stOf (plOf B) ((plK x).take (m + 1)) = some ((s : Int), (e : Int) - 1) ∧ Chn (plOf B) (m + 1) ((List.range n).map (kidP m x)) s e
  nn : ∃ b j k c mm, okPl B x b j k c mm ∧ ((m = 0 ∧ n = b.2.length) ∨ (m = 1 ∧ n = c.length) ∨ (m = 2 ∧ n = mm.toNat))
theorem seg_book {B : Bks} (nd : (B.map (·.1)).Nodup) {i : Nat} {b : List Nat × List (List Int)} (h : B[i]? = some b) (ne : plB b ≠ []) : Seg (plOf B) [Sum.inr (SX.S b.1)] (plOf (B.take i)).length (plB b) := by
  have hi : i < B.length := (List.getElem?_eq_some_iff.mp h).1
  have e : B = B.take i ++ b :: B.drop (i + 1) := by
    have := List.take_append_drop i B
    rw [List.drop_eq_getElem_cons hi] at this
    rw [← (List.getElem?_eq_some_iff.mp h).2]
    exact this.symm
  have other : ∀ y ∈ plOf (B.take i) ++ plOf (B.drop (i + 1)), (plK y).take 1 ≠ [Sum.inr (SX.S b.1)] := fun y hy z => by
    have z : y.nm = b.1 := SX.S_inj (Sum.inr.inj (List.cons.inj z).1)
    have nd' := nd
    rw [e, List.map_append, List.map_cons] at nd'
    obtain ⟨_, h2, h3⟩ := List.nodup_append.mp nd'
    rcases List.mem_append.mp hy with hy | hy
    · unfold plOf at hy
      obtain ⟨b', hb', hy⟩ := List.mem_flatMap.mp hy
      have := mem_plB' hy
      exact h3 b'.1 (List.mem_map_of_mem hb') b.1 (List.mem_cons_self ..) (this.symm.trans z)
    · unfold plOf at hy
      obtain ⟨b', hb', hy⟩ := List.mem_flatMap.mp hy
      have := mem_plB' hy
      rw [List.nodup_cons] at h2
      exact h2.1 (List.mem_map.mpr ⟨b', hb', this.symm.trans z⟩)
  refine ⟨⟨plOf (B.take i), plOf (B.drop (i + 1)), ?_, rfl, fun y hy => other y (List.mem_append_left _ hy), fun y hy => other y (List.mem_append_right _ hy)⟩, ne, fun y hy => ?_⟩
  · conv => lhs; rw [e]
    unfold plOf
    rw [List.flatMap_append, List.flatMap_cons, List.append_assoc]
  · show [Sum.inr (SX.S y.nm)] = _
    rw [mem_plB' hy]
theorem mem_plV0 {nm : List Nat} {ci vi : Nat} {m : Int} (h : 1 ≤ m) : (⟨nm, 1 + (ci : Int), 1 + (vi : Int), 1⟩ : Pl) ∈ plV nm ci vi m := by
  unfold plV
  exact List.mem_map.mpr ⟨0, List.mem_range.mpr (by omega), rfl⟩
theorem mem_plC0 {nm : List Nat} {ci : Nat} {c : List Int} (h : okRow c) : (⟨nm, 1 + (ci : Int), 1, 1⟩ : Pl) ∈ plC nm ci c := by
  have l0 := h.l0
  have h0 : c[0]? = some c[0] := List.getElem?_eq_getElem (by omega)
  unfold plC
  exact List.mem_flatMap.mpr ⟨(c[0], 0), List.mem_zipIdx_iff_getElem?.mpr h0, mem_plV0 (vi := 0) (h.x _ (List.getElem_mem _)).1⟩
theorem mem_plB0 {b : List Nat × List (List Int)} (h0 : 1 ≤ b.2.length) (h : ∀ c ∈ b.2, okRow c) : (⟨b.1, 1, 1, 1⟩ : Pl) ∈ plB b := by
  have h1 : b.2[0]? = some b.2[0] := List.getElem?_eq_getElem (by omega)
  unfold plB
  exact List.mem_flatMap.mpr ⟨(b.2[0], 0), List.mem_zipIdx_iff_getElem?.mpr h1, mem_plC0 (ci := 0) (h _ (List.getElem_mem _))⟩
theorem key_plC {nm : List Nat} {ci : Nat} {c : List Int} {y : Pl} (h : y ∈ plC nm ci c) : (plK y).take 2 = [Sum.inr (SX.S nm)] ++ [Sum.inl (1 + (ci : Int))] := by
  obtain ⟨h1, h2⟩ := mem_plC' h
  show [Sum.inr (SX.S y.nm), Sum.inl y.c] = _
  rw [h1, h2]
  rfl
theorem key_plV {nm : List Nat} {ci vi : Nat} {m : Int} {y : Pl} (h : y ∈ plV nm ci vi m) : (plK y).take 3 = [Sum.inr (SX.S nm), Sum.inl (1 + (ci : Int))] ++ [Sum.inl (1 + (vi : Int))] := by
  obtain ⟨h1, h2, h3⟩ := mem_plV' h
  show [Sum.inr (SX.S y.nm), Sum.inl y.c, Sum.inl y.v] = _
  rw [h1, h2, h3]
  rfl
theorem nodes_ok {B : Bks} (ok : okBks B) {m : Nat} (hm : m < 3) {x : Pl} {n : Nat} (h : (x, n) ∈ Nodes B m) : NdOk B m x n := by
  have bk : ∀ b ∈ B, plB b ≠ [] := fun b hb z => by
    have := mem_plB0 (ok.ch b hb).1 (ok.ch b hb).2.2
    rw [z] at this
    cases this
  rcases (by omega : m = 0 ∨ m = 1 ∨ m = 2) with rfl | rfl | rfl
  · obtain ⟨b, hb, e⟩ := List.mem_map.mp h
    cases e
    obtain ⟨i, hi⟩ := List.mem_iff_getElem?.mp hb
    have S := seg_book ok.nd hi (bk b hb)
    have okb := ok.ch b hb
    have hx : (⟨b.1, 1, 1, 1⟩ : Pl) ∈ plOf B := S.mem (mem_plB0 okb.1 okb.2.2)
    have h1 : b.2[0]? = some b.2[0] := List.getElem?_eq_getElem (by omega)
    have okr := okb.2.2 _ (List.getElem_mem (h := (by omega : 0 < b.2.length)))
    have l0 := okr.l0
    have h2 : b.2[0][0]? = some b.2[0][0] := List.getElem?_eq_getElem (by omega)
    refine ⟨hx, ⟨_, _, ?_, S.st (m := 0) rfl (by decide), ?_⟩, ⟨b, 0, 0, b.2[0], b.2[0][0], ⟨hb, rfl, h1, rfl, h2, rfl, Int.le_refl _, (okr.x _ (List.getElem_mem _)).1⟩, .inl ⟨rfl, rfl⟩⟩⟩
    · have := List.length_pos_iff.mpr S.ne
      omega
    · exact Seg.chn (f := fun i c => plC b.1 i c) (xs := b.2) S (fun i c _ y hy => key_plC hy) (by show 1 < 4; decide) (by rw [List.length_map, List.length_range]) (fun i c y hc hy => by
        rw [List.getElem?_map] at hy
        cases q : (List.range b.2.length)[i]? with
        | none =>
          rw [q] at hy
          cases hy
        | some i' =>
          rw [q] at hy
          cases hy
          have : i' = i := by
            have := (List.getElem?_eq_some_iff.mp q).2
            rw [List.getElem_range] at this
            exact this.symm
          subst this
          exact mem_plC0 (okb.2.2 c (List.mem_of_getElem? hc)))
  · obtain ⟨b, hb, h⟩ := List.mem_flatMap.mp h
    obtain ⟨⟨c, j⟩, hc, e⟩ := List.mem_map.mp h
    cases e
    have hc : b.2[j]? = some c := by simpa using List.mem_zipIdx_iff_getElem?.mp hc
    obtain ⟨i, hi⟩ := List.mem_iff_getElem?.mp hb
    have okb := ok.ch b hb
    have okr := okb.2.2 c (List.mem_of_getElem? hc)
    have S1 := seg_book ok.nd hi (bk b hb)
    have S := Seg.kid (f := fun i c => plC b.1 i c) (xs := b.2) S1 (fun i c hc z => by
      have := mem_plC0 (nm := b.1) (ci := i) (okb.2.2 c (List.mem_of_getElem? hc))
      rw [z] at this
      cases this) (fun i c _ y hy => key_plC hy) hc
    have hx : (⟨b.1, 1 + (j : Int), 1, 1⟩ : Pl) ∈ plOf B := S.mem (mem_plC0 okr)
    have l0 := okr.l0
    have h2 : c[0]? = some c[0] := List.getElem?_eq_getElem (by omega)
    refine ⟨hx, ⟨_, _, ?_, S.st (m := 1) rfl (by decide), ?_⟩, ⟨b, j, 0, c, c[0], ⟨hb, rfl, hc, rfl, h2, rfl, Int.le_refl _, (okr.x _ (List.getElem_mem _)).1⟩, .inr (.inl ⟨rfl, rfl⟩)⟩⟩
    · have := List.length_pos_iff.mpr S.ne
      omega
    · exact Seg.chn (f := fun k mm => plV b.1 j k mm) (xs := c) S (fun k mm _ y hy => key_plV hy) (by show 2 < 4; decide) (by rw [List.length_map, List.length_range]) (fun k mm y hk hy => by
        rw [List.getElem?_map] at hy
        cases q : (List.range c.length)[k]? with
        | none =>
          rw [q] at hy
          cases hy
        | some k' =>
          rw [q] at hy
          cases hy
          have : k' = k := by
            have := (List.getElem?_eq_some_iff.mp q).2
            rw [List.getElem_range] at this
            exact this.symm
          subst this
          exact mem_plV0 (okr.x mm (List.mem_of_getElem? hk)).1)
  · obtain ⟨b, hb, h⟩ := List.mem_flatMap.mp h
    obtain ⟨⟨c, j⟩, hc, h⟩ := List.mem_flatMap.mp h
    obtain ⟨⟨mm, k⟩, hk, e⟩ := List.mem_map.mp h
    cases e
    have hc : b.2[j]? = some c := by simpa using List.mem_zipIdx_iff_getElem?.mp hc
    have hk : c[k]? = some mm := by simpa using List.mem_zipIdx_iff_getElem?.mp hk
    obtain ⟨i, hi⟩ := List.mem_iff_getElem?.mp hb
    have okb := ok.ch b hb
    have okr := okb.2.2 c (List.mem_of_getElem? hc)
    have okm := okr.x mm (List.mem_of_getElem? hk)
    have S1 := seg_book ok.nd hi (bk b hb)
    have S2 := Seg.kid (f := fun i c => plC b.1 i c) (xs := b.2) S1 (fun i c hc z => by
      have := mem_plC0 (nm := b.1) (ci := i) (okb.2.2 c (List.mem_of_getElem? hc))
      rw [z] at this
      cases this) (fun i c _ y hy => key_plC hy) hc
    have S := Seg.kid (f := fun k mm => plV b.1 j k mm) (xs := c) S2 (fun k mm hk z => by
      have := mem_plV0 (nm := b.1) (ci := j) (vi := k) (okr.x mm (List.mem_of_getElem? hk)).1
      rw [z] at this
      cases this) (fun k mm _ y hy => key_plV hy) hk
    have hx : (⟨b.1, 1 + (j : Int), 1 + (k : Int), 1⟩ : Pl) ∈ plOf B := S.mem (mem_plV0 okm.1)
    refine ⟨hx, ⟨_, _, ?_, S.st (m := 2) rfl (by decide), ?_⟩, ⟨b, j, k, c, mm, ⟨hb, rfl, hc, rfl, hk, rfl, Int.le_refl _, okm.1⟩, .inr (.inr ⟨rfl, rfl⟩)⟩⟩
    · have := List.length_pos_iff.mpr S.ne
      omega
    · have e1 : plV b.1 j k mm = (List.range mm.toNat).zipIdx.flatMap fun z => [(⟨b.1, 1 + (j : Int), 1 + (k : Int), 1 + (z.1 : Int)⟩ : Pl)] := by
        unfold plV
        have := zi_fst (List.range mm.toNat) 0
        conv => lhs; rw [← this]
        rw [List.map_map, flat_one]
        rfl
      have S' := S
      rw [e1] at S'
      have := Seg.chn (f := fun _ z => [(⟨b.1, 1 + (j : Int), 1 + (k : Int), 1 + (z : Int)⟩ : Pl)]) (xs := List.range mm.toNat) S' (fun p z hz y hy => by
        have : z = p := by
          have := (List.getElem?_eq_some_iff.mp hz).2
          rw [List.getElem_range] at this
          exact this.symm
        subst this
        rw [List.mem_singleton.mp hy]
        rfl) (by show 3 < 4; decide) (ys := (List.range mm.toNat).map (kidP 2 ⟨b.1, 1 + (j : Int), 1 + (k : Int), 1⟩)) (by rw [List.length_map]) (fun p z y hz hy => by
        rw [List.getElem?_map, hz] at hy
        cases hy
        exact List.mem_singleton.mpr rfl)
      rw [← e1] at this
      exact this
end My
set_option Elab.async false
set_option linter.all false
set_option maxRecDepth 100000
set_option maxHeartbeats 4000000
namespace My
open PySem PySem.Spec PyProof.Rows L2
/-! M3: the spots of each level are unlike and all there; which of them begin and end at a part. -/
theorem kidP_key {m : Nat} (hm : m < 3) (x : Pl) (i : Nat) : (plK (kidP m x i)).take (m + 2) = (plK x).take (m + 1) ++ [Sum.inl (1 + (i : Int))] := by
  rcases (by omega : m = 0 ∨ m = 1 ∨ m = 2) with rfl | rfl | rfl <;> rfl
theorem top_chn {B : Bks} (ok : okBks B) : Chn (plOf B) 0 ((Nodes B 0).map (·.1)) 0 (plOf B).length := by
  refine ⟨fun i => (plOf (B.take i)).length, rfl, ?_, fun i y hy => ?_⟩
  · show (plOf (B.take _)).length = _
    rw [List.length_map, nodes0, List.length_map, List.take_length]
  · rw [nodes0, List.map_map, List.getElem?_map] at hy
    cases q : B[i]? with
    | none =>
      rw [q] at hy
      cases hy
    | some b =>
      rw [q] at hy
      cases hy
      have hb := List.mem_of_getElem? q
      have okb := ok.ch b hb
      have h0 := mem_plB0 okb.1 okb.2.2
      have S := seg_book ok.nd q fun z => by
        rw [z] at h0
        cases h0
      have e : plOf (B.take (i + 1)) = plOf (B.take i) ++ plB b := by
        unfold plOf
        rw [List.take_add_one, q, List.flatMap_append]
        simp
      have pos := List.length_pos_iff.mpr S.ne
      refine ⟨S.mem h0, ?_, ?_⟩
      · show (plOf (B.take i)).length < (plOf (B.take (i + 1))).length
        rw [e, List.length_append]
        omega
      · show stOf (plOf B) [Sum.inr (SX.S b.1)] = some (((plOf (B.take i)).length : Int), ((plOf (B.take (i + 1))).length : Int) - 1)
        rw [S.st (m := 0) rfl (by decide), e, List.length_append]
def Km (B : Bks) (m : Nat) : List (List Key) := ((Nodes B m).map (·.1)).map fun y => (plK y).take (m + 1)
theorem Km_succ (B : Bks) {m : Nat} (hm : m < 3) : Km B (m + 1) = (Nodes B m).flatMap fun z => (List.range z.2).map fun (i : Nat) => (plK z.1).take (m + 1) ++ [Sum.inl (1 + (i : Int))] := by
  unfold Km
  rw [nodes_succ B hm, List.map_flatMap]
  refine flatc fun z _ => ?_
  rw [List.map_map]
  exact List.map_congr_left fun i _ => kidP_key hm z.1 i
theorem Km_len {B : Bks} {m : Nat} (hm : m < 4) {k : List Key} (h : k ∈ Km B m) : k.length = m + 1 := by
  obtain ⟨y, _, rfl⟩ := List.mem_map.mp h
  rw [List.length_take, plK_len]
  omega
theorem Km_nodup {B : Bks} (ok : okBks B) : ∀ m, m < 4 → (Km B m).Nodup
  | 0, _ => by
    have e : Km B 0 = (B.map (·.1)).map fun n => [(Sum.inr (SX.S n) : Key)] := by
      unfold Km
      rw [nodes0, List.map_map, List.map_map, List.map_map]
      rfl
    rw [e]
    exact List.pairwise_map.mpr (ok.nd.imp fun {a b} ne z => ne (SX.S_inj (Sum.inr.inj (List.cons.inj z).1)))
  | m + 1, hm => by
    have h := Km_nodup ok m (by omega)
    rw [Km_succ B (by omega)]
    unfold Km at h
    rw [List.map_map] at h
    refine List.pairwise_flatMap.mpr ⟨fun z _ => List.pairwise_map.mpr (List.Pairwise.imp ?_ (List.nodup_range (n := z.2))), (List.pairwise_map.mp h).imp fun {a b} ne => ?_⟩
    · intro i j ne z
      have := (List.append_inj' z rfl).2
      have : (1 : Int) + i = 1 + j := Sum.inl.inj (List.cons.inj this).1
      exact ne (by omega)
    · intro x hx y hy e
      obtain ⟨i, _, rfl⟩ := List.mem_map.mp hx
      obtain ⟨j, _, rfl⟩ := List.mem_map.mp hy
      exact ne (List.append_inj' e rfl).1
theorem Km_all {B : Bks} (ok : okBks B) {m : Nat} (hm : m < 4) {x : Pl} (hx : x ∈ plOf B) : (plK x).take (m + 1) ∈ Km B m := by
  obtain ⟨b, j, k, c, mm, o⟩ := mem_plOf hx
  refine List.mem_map.mpr ?_
  have ec : plK x = [Sum.inr (SX.S b.1), Sum.inl (1 + (j : Int)), Sum.inl (1 + (k : Int)), Sum.inl x.p] := by
    unfold plK
    rw [← o.nm, o.xc, o.xv]
  rcases (by omega : m = 0 ∨ m = 1 ∨ m = 2 ∨ m = 3) with rfl | rfl | rfl | rfl
  · refine ⟨⟨b.1, 1, 1, 1⟩, List.mem_map.mpr ⟨(⟨b.1, 1, 1, 1⟩, b.2.length), ?_, rfl⟩, by rw [ec]; rfl⟩
    rw [nodes0]
    exact List.mem_map.mpr ⟨b, o.hb, rfl⟩
  · refine ⟨⟨b.1, 1 + (j : Int), 1, 1⟩, List.mem_map.mpr ⟨(⟨b.1, 1 + (j : Int), 1, 1⟩, c.length), ?_, rfl⟩, by rw [ec]; rfl⟩
    rw [nodes1]
    exact List.mem_flatMap.mpr ⟨b, o.hb, List.mem_map.mpr ⟨(c, j), List.mem_zipIdx_iff_getElem?.mpr o.hc, rfl⟩⟩
  · refine ⟨⟨b.1, 1 + (j : Int), 1 + (k : Int), 1⟩, List.mem_map.mpr ⟨(⟨b.1, 1 + (j : Int), 1 + (k : Int), 1⟩, mm.toNat), ?_, rfl⟩, by rw [ec]; rfl⟩
    rw [nodes2]
    exact List.mem_flatMap.mpr ⟨b, o.hb, List.mem_flatMap.mpr ⟨(c, j), List.mem_zipIdx_iff_getElem?.mpr o.hc, List.mem_map.mpr ⟨(mm, k), List.mem_zipIdx_iff_getElem?.mpr o.hm, rfl⟩⟩⟩
  · refine ⟨x, List.mem_map.mpr ⟨(x, 0), ?_, rfl⟩, rfl⟩
    rw [nodes3]
    exact List.mem_map.mpr ⟨x, hx, rfl⟩
theorem Km_rep {B : Bks} (ok : okBks B) {m : Nat} (hm : m < 4) {y : Pl} (hy : y ∈ (Nodes B m).map (·.1)) : y ∈ plOf B := by
  obtain ⟨⟨x, n⟩, hz, rfl⟩ := List.mem_map.mp hy
  by_cases h3 : m = 3
  · subst h3
    rw [nodes3] at hz
    obtain ⟨x', hx', e⟩ := List.mem_map.mp hz
    cases e
    exact hx'
  · exact (nodes_ok ok (by omega) hz).mem
theorem ends_atI {l : List Int} (h : l ≠ []) : ∃ a z, ends l = some (a, z) ∧ True ∧ True ∧ a ∈ l ∧ z ∈ l := by
  rcases List.eq_nil_or_concat l with rfl | ⟨r, z, rfl⟩
  · exact absurd rfl h
  · rw [List.concat_eq_append]
    cases r with
    | nil => exact ⟨z, z, rfl, trivial, trivial, by simp, by simp⟩
    | cons a r =>
      refine ⟨a, z, ?_, trivial, trivial, by simp, by simp⟩
      unfold ends
      rw [List.getLast?_concat]
      rfl
/-- the numbers of the first and of the last part -/
def fstK (P : List Pl) (k : List Key) : Int := match stOf P k with | some s => s.1 | none => -1
def lstK (P : List Pl) (k : List Key) : Int := match stOf P k with | some s => s.2 | none => -1
theorem st_some {P : List Pl} {x : Pl} {i : Nat} (hx : P[i]? = some x) {m : Nat} (hm : m < 4) : ∃ a z : Nat, stOf P ((plK x).take (m + 1)) = some ((a : Int), (z : Int)) ∧ a < P.length ∧ z < P.length ∧ (∀ y, P[a]? = some y → (plK y).take (m + 1) = (plK x).take (m + 1)) ∧ ∀ y, P[z]? = some y → (plK y).take (m + 1) = (plK x).take (m + 1) := by
  have lk : ((plK x).take (m + 1)).length = m + 1 := by
    rw [List.length_take, plK_len]
    omega
  have mem := insK_mem hx hm
  obtain ⟨a, z, he, _, _, ma, mz⟩ := ends_atI (l := insK P ((plK x).take (m + 1))) (fun q => by rw [q] at mem; cases mem)
  have pref : ∀ n ∈ insK P ((plK x).take (m + 1)), ∃ n' : Nat, n = (n' : Int) ∧ n' < P.length ∧ ∀ y, P[n']? = some y → (plK y).take (m + 1) = (plK x).take (m + 1) := fun n hn => by
    unfold insK at hn
    obtain ⟨⟨y, i'⟩, hz, rfl⟩ := List.mem_map.mp hn
    obtain ⟨h1, h2⟩ := List.mem_filter.mp hz
    have h1 := List.mem_zipIdx_iff_getElem?.mp h1
    have h2 := of_decide_eq_true h2
    rw [lk] at h2
    refine ⟨i', rfl, (List.getElem?_eq_some_iff.mp h1).1, fun y' hy' => ?_⟩
    have h1 : P[i']? = some y := h1
    rw [h1] at hy'
    cases hy'
    exact h2
  obtain ⟨a', rfl, la, pa⟩ := pref a ma
  obtain ⟨z', rfl, lz, pz⟩ := pref z mz
  exact ⟨a', z', by rw [st_ends P lk hm, he], la, lz, pa, pz⟩
theorem filt_one {Ks : List (List Key)} {p : List Key → Bool} {k0 : List Key} : ∀ (_ : Ks.Nodup) (_ : ∀ k ∈ Ks, p k = true → k = k0), k0 ∈ Ks → Ks.filter p = if p k0 = true then [k0] else [] := by
  induction Ks with
  | nil => intro _ _ h; cases h
  | cons a r ih =>
    intro nd h hm
    rw [List.nodup_cons] at nd
    by_cases e : a = k0
    · subst e
      have rest : r.filter p = [] := List.filter_eq_nil_iff.mpr fun k hk q => nd.1 (h k (List.mem_cons_of_mem _ hk) q ▸ hk)
      rw [List.filter_cons, rest]
    · have hm' : k0 ∈ r := (List.mem_cons.mp hm).resolve_left fun z => e z.symm
      rw [List.filter_cons_of_neg fun q => e (h a (List.mem_cons_self ..) q)]
      exact ih nd.2 (fun k hk q => h k (List.mem_cons_of_mem _ hk) q) hm'
/-- which spots of a level begin, or end, at a part -/
theorem Km_fst {B : Bks} (ok : okBks B) {m n : Nat} (hm : m < 4) {x : Pl} (hx : (plOf B)[n]? = some x) : (Km B m).filter (fun k => decide (fstK (plOf B) k = (n : Int))) = if decide (fstK (plOf B) ((plK x).take (m + 1)) = (n : Int)) = true then [(plK x).take (m + 1)] else [] := by
  refine filt_one (Km_nodup ok m hm) (fun k hk q => ?_) (Km_all ok hm (List.mem_of_getElem? hx))
  have q := of_decide_eq_true q
  obtain ⟨y, hy, rfl⟩ := List.mem_map.mp hk
  obtain ⟨i, hi⟩ := List.mem_iff_getElem?.mp (Km_rep ok hm hy)
  obtain ⟨a, z, h1, h2, h3, h4, h5⟩ := st_some hi hm
  unfold fstK at q
  rw [h1] at q
  have q : (a : Int) = n := q
  exact (h4 x (by rw [show a = n by omega]; exact hx)).symm
theorem Km_lst {B : Bks} (ok : okBks B) {m n : Nat} (hm : m < 4) {x : Pl} (hx : (plOf B)[n]? = some x) : (Km B m).filter (fun k => decide (lstK (plOf B) k = (n : Int))) = if decide (lstK (plOf B) ((plK x).take (m + 1)) = (n : Int)) = true then [(plK x).take (m + 1)] else [] := by
  refine filt_one (Km_nodup ok m hm) (fun k hk q => ?_) (Km_all ok hm (List.mem_of_getElem? hx))
  have q := of_decide_eq_true q
  obtain ⟨y, hy, rfl⟩ := List.mem_map.mp hk
  obtain ⟨i, hi⟩ := List.mem_iff_getElem?.mp (Km_rep ok hm hy)
  obtain ⟨a, z, h1, h2, h3, h4, h5⟩ := st_some hi hm
  unfold lstK at q
  rw [h1] at q
  have q : (z : Int) = n := q
  exact (h5 x (by rw [show z = n by omega]; exact hx)).symm
/-- all spots, the widest level first -/
def AK (B : Bks) : List (List Key) := Km B 0 ++ Km B 1 ++ Km B 2 ++ Km B 3
/-- the spots around a part -/
def around (x : Pl) : List (List Key) := [(plK x).take 1, (plK x).take 2, (plK x).take 3, (plK x).take 4]
theorem filt4 (p : List Key → Bool) (a b c d : List Key) : [a, b, c, d].filter p = (if p a = true then [a] else []) ++ (if p b = true then [b] else []) ++ (if p c = true then [c] else []) ++ (if p d = true then [d] else []) := by
  cases h1 : p a <;> cases h2 : p b <;> cases h3 : p c <;> cases h4 : p d <;> simp [h1, h2, h3, h4]
theorem AK_fst {B : Bks} (ok : okBks B) {n : Nat} {x : Pl} (hx : (plOf B)[n]? = some x) : (AK B).filter (fun k => decide (fstK (plOf B) k = (n : Int))) = (around x).filter fun k => decide (fstK (plOf B) k = (n : Int)) := by
  unfold AK around
  rw [List.filter_append, List.filter_append, List.filter_append, Km_fst ok (by decide) hx, Km_fst ok (by decide) hx, Km_fst ok (by decide) hx, Km_fst ok (by decide) hx, filt4]
theorem AK_lst {B : Bks} (ok : okBks B) {n : Nat} {x : Pl} (hx : (plOf B)[n]? = some x) : (AK B).filter (fun k => decide (lstK (plOf B) k = (n : Int))) = (around x).filter fun k => decide (lstK (plOf B) k = (n : Int)) := by
  unfold AK around
  rw [List.filter_append, List.filter_append, List.filter_append, Km_lst ok (by decide) hx, Km_lst ok (by decide) hx, Km_lst ok (by decide) hx, Km_lst ok (by decide) hx, filt4]
theorem fst4 {B : Bks} (ok : okBks B) {n : Nat} {x : Pl} (hx : (plOf B)[n]? = some x) : stOf (plOf B) ((plK x).take 4) = some ((n : Int), (n : Int)) := by
  rw [st_ends _ (m := 3) rfl (by decide), insK_all (plOf_nodup ok.nd) hx]
  rfl
end My
set_option Elab.async false
set_option linter.all false
set_option maxRecDepth 100000
set_option maxHeartbeats 4000000
namespace My
open PySem PySem.Spec PyProof.Rows L2
def sp_namesE (C : Addr) : Sp := fun vs H Q _ => ∃ (S : Av) (e : Addr) (B : Bks) (L : List Int), vs = [.ref e] ∧ EdAt S H C e B L ∧ ∀ l, H l = none → Q (.ref l) (upd H l (.lst (nmV (B.map (·.1)))))
def sp_chaptersE (C : Addr) : Sp := fun vs H Q _ => ∃ (S : Av) (e : Addr) (B : Bks) (L : List Int) (b : List Nat × List (List Int)), vs = [.ref e, .str (SX.S b.1)] ∧ EdAt S H C e B L ∧ okBks B ∧ b ∈ B ∧ Q (.int (b.2.length : Nat)) H
def sp_versesE (C : Addr) : Sp := fun vs H Q _ => ∃ (S : Av) (e : Addr) (B : Bks) (L : List Int) (b : List Nat × List (List Int)) (j : Nat) (c : List Int), vs = [.ref e, .str (SX.S b.1), .int (1 + (j : Int))] ∧ EdAt S H C e B L ∧ okBks B ∧ b ∈ B ∧ b.2[j]? = some c ∧ Q (.int (c.length : Nat)) H
/-- a list of spots stands at l -/
def SpL (H : Hp) (l : Addr) (us : List (Addr × List Key)) : Prop := H l = some (.lst (us.map fun z => V.ref z.1)) ∧ ∀ z ∈ us, H z.1 = some (.tup (z.2.map kV))
def sp_around (C : Addr) : Sp := fun vs H Q _ => ∃ (S : Av) (e : Addr) (B : Bks) (L : List Int) (n : Nat) (x : Pl), vs = [.ref e, .int (n : Nat)] ∧ EdAt S H C e B L ∧ (plOf B)[n]? = some x ∧ ∀ l us H', H l = none → Same H H' → SpL H' l us → us.map (·.2) = around x → Q (.ref l) H'
def sp_begins (C : Addr) : Sp := fun vs H Q _ => ∃ (S : Av) (e : Addr) (B : Bks) (L : List Int) (n : Nat) (x : Pl), vs = [.ref e, .int (n : Nat)] ∧ EdAt S H C e B L ∧ (plOf B)[n]? = some x ∧ ∀ l us H', H l = none → Same H H' → SpL H' l us → us.map (·.2) = ((around x).filter fun k => decide (fstK (plOf B) k = (n : Int))) → Q (.ref l) H'
def sp_ends (C : Addr) : Sp := fun vs H Q _ => ∃ (S : Av) (e : Addr) (B : Bks) (L : List Int) (n : Nat) (x : Pl), vs = [.ref e, .int (n : Nat)] ∧ EdAt S H C e B L ∧ (plOf B)[n]? = some x ∧ ∀ l us H', H l = none → Same H H' → SpL H' l us → us.map (·.2) = ((around x).filter fun k => decide (lstK (plOf B) k = (n : Int))) → Q (.ref l) H'
theorem around_succ (x : Pl) {i : Nat} (h : i < 4) : (around x).take (i + 1) = (around x).take i ++ [(plK x).take (i + 1)] := by
  rcases (by omega : i = 0 ∨ i = 1 ∨ i = 2 ∨ i = 3) with rfl | rfl | rfl | rfl <;> rfl
theorem around_at (x : Pl) {i : Nat} (h : i < 4) : (around x)[i]? = some ((plK x).take (i + 1)) := by
  rcases (by omega : i = 0 ∨ i = 1 ∨ i = 2 ∨ i = 3) with rfl | rfl | rfl | rfl <;> rfl
section
variable {P : Program} {w : World} {K : PySem.W.Frag} {mg : Str → Option Value} {base : Heap}
theorem ok_namesE {C f : Addr} {fd : FuncData} (T : Txt K mg) (EC : EdC K C) (F : Fun K "names" "Edition.names" s_Edition_names f fd) : FnOk P w K mg base CX0 2 f fd ["self"] (sp_namesE C) := by
  refine F.ok sc_Edition_names (fun vs H Q E h => ?_) (fun cdv A outer s H vs Q E hr h => ?_)
  · obtain ⟨S, e, B, L, rfl, _⟩ := h
    rfl
  · obtain ⟨S, e, B, L, rfl, ⟨w, hw⟩, q⟩ := h
    refine ⟨_, (pss_one (ps_ret (pe_callTy (call_listD rfl) (by rfl) T.b_list (by decide +kernel) (pa_cons (pe_fld (pv 0) rfl) pa_nil)))), ?_⟩
    refine ⟨.ref e, rfl, e, C, _, _, _, rfl, hw.at_, EC.cl, EC.n2, rfl, w.dc, w.ckv, rfl, .inl hw.h2, fun l hl => ?_⟩
    have ek : (w.ckv.map fun kv => kV kv.1) = nmV (B.map (·.1)) := by
      have h1 := hw.c2.k
      have h2 : (w.ckv.map fun kv => kV kv.1) = (w.ckv.map (·.1)).map kV := by rw [List.map_map]; rfl
      rw [h2, h1, List.map_map]
      unfold nmV
      rw [List.map_map]
      rfl
    show Q (.ref l) (upd H l (.lst (w.ckv.map fun kv => kV kv.1)))
    rw [ek]
    exact q l hl
theorem ok_chaptersE {C f : Addr} {fd : FuncData} (T : Txt K mg) (EC : EdC K C) (m__book : C8.Met P w K mg base 2 C "_book" (sp_book C) []) (F : Fun K "chapters" "Edition.chapters" s_Edition_chapters f fd) : FnOk P w K mg base CX0 3 f fd ["self", "name"] (sp_chaptersE C) := by
  refine F.ok sc_Edition_chapters (fun vs H Q E h => ?_) (fun cdv A outer s H vs Q E hr h => ?_)
  · obtain ⟨S, e, B, L, b, rfl, _⟩ := h
    rfl
  · obtain ⟨S, e, B, L, b, rfl, h, ok, hb, q⟩ := h
    refine ⟨_, (pss_one (ps_ret (pe_callB call_len (by rfl) T.b_len (by decide +kernel) (pa_cons (C8.pe_mt m__book hr (by decide) (pv 0) (pa_cons (pv 1) pa_nil)) pa_nil)))), ?_⟩
    obtain ⟨w, hw⟩ := id h
    refine ⟨.ref e, rfl, e, _, _, rfl, hw.at_, rfl, _, rfl, S, e, B, L, b, rfl, h, ok, hb, fun v hv => ?_⟩
    cases hv with
    | tup nt et kt =>
    rename_i t xs
    have lx : xs.length = b.2.length := by rw [kt.len, List.length_map]
    rw [← lx] at q
    exact ⟨_, _, rfl, .inr ⟨_, .inl (.inl et), rfl⟩, q⟩
theorem ok_versesE {C f : Addr} {fd : FuncData} (T : Txt K mg) (EC : EdC K C) (m__chapter : C8.Met P w K mg base 3 C "_chapter" (sp_chap C) []) (F : Fun K "verses" "Edition.verses" s_Edition_verses f fd) : FnOk P w K mg base CX0 4 f fd ["self", "name", "chapter"] (sp_versesE C) := by
  refine F.ok sc_Edition_verses (fun vs H Q E h => ?_) (fun cdv A outer s H vs Q E hr h => ?_)
  · obtain ⟨S, e, B, L, b, j, c, rfl, _⟩ := h
    rfl
  · obtain ⟨S, e, B, L, b, j, c, rfl, h, ok, hb, hc, q⟩ := h
    refine ⟨_, (pss_one (ps_ret (pe_callB call_len (by rfl) T.b_len (by decide +kernel) (pa_cons (C8.pe_mt m__chapter hr (by decide) (pv 0) (pa_cons (pv 1) (pa_cons (pv 2) pa_nil))) pa_nil)))), ?_⟩
    obtain ⟨w, hw⟩ := id h
    refine ⟨.ref e, rfl, e, _, _, rfl, hw.at_, rfl, _, rfl, _, rfl, S, e, B, L, b, j, c, rfl, h, ok, hb, hc, fun v hv => ?_⟩
    obtain ⟨t, rfl, nt, et⟩ := hv.ch
    have lx : (c.map V.int).length = c.length := List.length_map ..
    rw [← lx] at q
    exact ⟨_, _, rfl, .inr ⟨_, .inl (.inl et), rfl⟩, q⟩
end
end My
set_option Elab.async false
set_option linter.all false
set_option maxRecDepth 100000
set_option maxHeartbeats 4000000
namespace My
open PySem PySem.Spec PyProof.Rows L2
def sp_size0 : Sp := fun vs H Q _ => ∃ (S0 : Av) (a : Addr) (Sh : List (List (List Int))), vs = [.ref a] ∧ At S0 H (.ref a) (shD Sh) ∧ okSh Sh ∧ ∀ H', Same H H' → Q (.int (Sh.map fun b => (b.map List.sum).sum).sum) H'
theorem At.row {S : Av} {H : Hp} {v : V} {c : List Int} (h : At S H v (rowD c)) : ∃ a, v = .ref a ∧ ¬ S a ∧ H a = some (.lst (c.map V.int)) := by
  cases h with
  | lst n e k => exact ⟨_, rfl, n, by rw [e, AtAll.ints_inv _ _ k]⟩
theorem At.book {S : Av} {H : Hp} {v : V} {b : List (List Int)} (h : At S H v (bookD b)) : ∃ a xs, v = .ref a ∧ ¬ S a ∧ H a = some (.lst xs) ∧ AtAll S H xs (b.map rowD) := by
  cases h with
  | lst n e k => exact ⟨_, _, rfl, n, e, k⟩
section
variable {P : Program} {w : World} {K : PySem.W.Frag} {mg : Str → Option Value} {base : Heap}
end
theorem hu80 {k : Nat} {A : Around} (r : Room k A) : A.units + 80 < cLine := by
  have := r.un
  omega
def lns (L : List Int) : Prop := ∀ z ∈ L, 0 ≤ z ∧ z < 10000
theorem short_int {z : Int} (h0 : 0 ≤ z) (h1 : z < 10000) : (PyData.shown (.int z)).length ≤ 13 := Nat.le_trans (toString_length_le h0 (k := 10) (by decide) (by omega)) (by decide)
theorem shown_ints {L : List Int} (h : lns L) (hl : L.length ≤ 1000) : (PyData.shown (.list (L.map PyData.int))).length ≤ sizeLine := by
  refine PyData.shown_fits_bulk (B := 13) (by decide) (by decide) ?_ ?_
  · show PyData.leavesShortAll 13 (L.map PyData.int) = true
    clear hl
    induction L with
    | nil => rfl
    | cons z r ih =>
      show (decide ((PyData.shown (.int z)).length ≤ 13) && PyData.leavesShortAll 13 (r.map PyData.int)) = true
      have hz := h z (List.mem_cons_self ..)
      rw [decide_eq_true (short_int hz.1 hz.2), Bool.true_and]
      exact ih fun x hx => h x (List.mem_cons_of_mem _ hx)
  · have e : ∀ r : List Int, PyData.bulkAll (r.map PyData.int) = r.length := fun r => by
      induction r with
      | nil => rfl
      | cons z r ih =>
        show 0 + 1 + PyData.bulkAll (r.map PyData.int) = _
        rw [ih, List.length_cons]
        omega
    show PyData.bulkAll (L.map PyData.int) ≤ 2 ^ 20
    rw [e]
    omega
theorem able_ints : ∀ {L : List Int}, lns L → PyData.showableAll (L.map PyData.int) = true
  | [], _ => rfl
  | z :: r, h => by
    show (decide (z.natAbs.log2 < 1920) && PyData.showableAll (r.map PyData.int)) = true
    have hz := h z (List.mem_cons_self ..)
    have : z.natAbs.log2 < 1920 := by
      by_cases e : z.natAbs = 0
      · rw [e]
        decide
      · rw [Nat.log2_lt e]
        exact Nat.lt_of_lt_of_le (show z.natAbs < 2 ^ 14 by omega) (Nat.pow_le_pow_right (by decide) (by decide))
    rw [decide_eq_true this, Bool.true_and]
    exact able_ints fun x hx => h x (List.mem_cons_of_mem _ hx)
theorem nod_ints : ∀ L : List Int, PyData.hasDict (.list (L.map PyData.int)) = false := fun L => by
  show PyData.hasDictAll (L.map PyData.int) = false
  induction L with
  | nil => rfl
  | cons z r ih => exact ih
theorem dep_ints (L : List Int) : PyData.depth (.list (L.map PyData.int)) ≤ 64 := by
  have := dep_map PyData.int 0 L fun x _ => Nat.le_refl _
  show PyData.depthAll _ + 1 ≤ 64
  omega
def shV : V → Str
  | .int i => toString i
  | _ => "None"
theorem call_repr_ni {X : Cx} : CallR X (.builtin "repr") (fun xs H Q => ∃ x, xs = [x] ∧ (x = .non ∨ ∃ i : Int, x = .int i ∧ i.natAbs.log2 < 1920) ∧ Q (.str (shV x)) H) := by
  intro pins s σ H xs us Q I r h
  obtain ⟨x, rfl, h, q⟩ := h
  rcases h with rfl | ⟨i, rfl, hz⟩
  · exact call_repr_none pins s σ H _ us Q I r ⟨rfl, q⟩
  · obtain ⟨u, rfl, t, rfl⟩ := vals1 r
    exact PySem.P.repr_of_int hz ⟨.str _, H, I.tok _, ⟨_, rfl⟩, q⟩
section
variable {P : Program} {w : World} {K : PySem.W.Frag} {mg : Str → Option Value} {base : Heap}
theorem plC_sum (nm : List Nat) (ci : Nat) : ∀ (c : List Int) (k : Nat), (∀ m ∈ c, 0 ≤ m) → ((((c.zipIdx k).flatMap fun x => plV nm ci x.2 x.1).length : Nat) : Int) = c.sum
  | [], _, _ => rfl
  | m :: r, k, h => by
    have h1 := plC_sum nm ci r (k + 1) fun x hx => h x (List.mem_cons_of_mem _ hx)
    have h2 := h m (List.mem_cons_self ..)
    rw [List.zipIdx_cons, List.flatMap_cons, List.length_append, plV_len, List.sum_cons]
    omega
theorem plB_sum (nm : List Nat) : ∀ (C : List (List Int)) (k : Nat), (∀ c ∈ C, ∀ m ∈ c, 0 ≤ m) → ((((C.zipIdx k).flatMap fun x => plC nm x.2 x.1).length : Nat) : Int) = (C.map List.sum).sum
  | [], _, _ => rfl
  | c :: r, k, h => by
    have h1 := plB_sum nm r (k + 1) fun x hx => h x (List.mem_cons_of_mem _ hx)
    have h2 := plC_sum nm k c 0 (h c (List.mem_cons_self ..))
    rw [List.zipIdx_cons, List.flatMap_cons, List.length_append, List.map_cons, List.sum_cons]
    show ((((c.zipIdx 0).flatMap fun x => plV nm k x.2 x.1).length + _ : Nat) : Int) = _
    omega
theorem plOf_sum : ∀ B : Bks, (∀ b ∈ B, ∀ c ∈ b.2, ∀ m ∈ c, 0 ≤ m) → (((plOf B).length : Nat) : Int) = (B.map fun b => (b.2.map List.sum).sum).sum
  | [], _ => rfl
  | b :: r, h => by
    have h1 := plOf_sum r fun x hx => h x (List.mem_cons_of_mem _ hx)
    have h2 := plB_sum b.1 b.2 0 (h b (List.mem_cons_self ..))
    unfold plOf at h1 ⊢
    rw [List.flatMap_cons, List.length_append, List.map_cons, List.sum_cons]
    show ((((b.2.zipIdx 0).flatMap fun x => plC b.1 x.2 x.1).length + _ : Nat) : Int) = _
    omega
theorem okBks_of {nms : List (List Nat)} {Sh : List (List (List Int))} (hN : okNames nms) (hS : okSh Sh) (hl : nms.length = Sh.length) : okBks (nms.zip Sh) := by
  have e1 : (nms.zip Sh).map (·.1) = nms := List.map_fst_zip (by omega)
  have e2 : (nms.zip Sh).map (·.2) = Sh := List.map_snd_zip (by omega)
  have lz : (nms.zip Sh).length = Sh.length := by rw [List.length_zip]; omega
  refine ⟨?_, ?_, ?_, ?_, ?_, ?_, ?_⟩
  · rw [lz]
    exact hS.s0
  · rw [lz]
    exact hS.s1
  · rw [e1]
    exact hN.nd
  · exact fun b hb => hN.ok _ (List.of_mem_zip hb).1
  · exact fun b hb => hS.b _ (List.of_mem_zip hb).2
  · have : (nms.zip Sh).map (fun b => b.2.length) = Sh.map List.length := by
      rw [← e2, List.map_map, e2]
      rfl
    rw [this]
    exact hS.chs
  · have : (nms.zip Sh).map (fun b => (b.2.map List.sum).sum) = Sh.map fun b => (b.map List.sum).sum := by
      rw [← e2, List.map_map, e2]
      rfl
    rw [this]
    exact hS.prs
theorem zip_sum {nms : List (List Nat)} {Sh : List (List (List Int))} (hS : okSh Sh) (hl : nms.length = Sh.length) : (((plOf (nms.zip Sh)).length : Nat) : Int) = (Sh.map fun b => (b.map List.sum).sum).sum := by
  have e2 : (nms.zip Sh).map (·.2) = Sh := List.map_snd_zip (by omega)
  rw [plOf_sum]
  · have : (nms.zip Sh).map (fun b => (b.2.map List.sum).sum) = Sh.map fun b => (b.map List.sum).sum := by
      rw [← e2, List.map_map, e2]
      rfl
    rw [this]
  · intro b hb c hc m hm
    have := ((hS.b _ (List.of_mem_zip hb).2).2.2 c hc).x m hm
    omega
/-- lines handed in, as data -/
def optD : Option (List (Int × Int)) → PyData
  | none => .none
  | some ps => .list (ps.map prD)
theorem optD_in {S : Av} {H : Hp} {v : V} {o : Option (List (Int × Int))} (h : At S H v (optD o)) : LnIn H v o := by
  cases o with
  | none =>
    cases h
    rfl
  | some ps =>
    cases h with
    | lst n e k =>
      refine ⟨_, _, rfl, .inl e, by rw [k.len, List.length_map], fun i x s h1 h2 => ?_⟩
      obtain ⟨s', h3, h4⟩ := k.at_ h1
      rw [h2] at h3
      cases h3
      obtain ⟨t, e1, _, e2⟩ := h4.pair
      exact ⟨t, e1, e2⟩
theorem chs_in {S : Av} {H : Hp} {v : V} {b : List (List Int)} (h : At S H v (bookD b)) : ∃ c xs, v = .ref c ∧ Rw H c xs ∧ ChsIn S H xs b := by
  obtain ⟨c, xs, e, n, h1, k⟩ := h.book
  refine ⟨c, xs, e, .inl h1, by rw [k.len, List.length_map], fun i x c' h2 h3 => ?_⟩
  obtain ⟨c2, h4, h5⟩ := k.at_ h2
  rw [h3] at h4
  cases h4
  obtain ⟨a, e1, n1, e2⟩ := h5.row
  exact ⟨a, e1, n1, .inl e2⟩
theorem lnP_nodup (s : Int × Int) : (lnP s).Nodup := by
  unfold lnP
  refine List.pairwise_map.mpr (List.Pairwise.imp ?_ (List.nodup_range (n := s.2.toNat)))
  intro a b h e
  exact h (by omega)
theorem lns_ok {o : Option (List (Int × Int))} {n : Int} (h : okLn o n) : (lnsD o n).Nodup ∧ ((lnsD o n).length : Int) = n ∧ lns (lnsD o n) := by
  obtain ⟨n0, n1, h⟩ := h
  cases o with
  | none =>
    refine ⟨lnP_nodup _, ?_, fun z hz => ?_⟩
    · show ((lnP (0, n)).length : Int) = n
      rw [lnP_len]
      show (n.toNat : Int) = n
      omega
    · have := mem_lnP (s := (0, n)) hz
      have h1 : (0 : Int) ≤ z := this.1
      have h2 : z < 0 + n := this.2
      omega
  | some ps =>
    have h : okPairs ps n := h
    refine ⟨?_, (lnOf_len ps fun s hs => (h.x s hs).2.1).trans h.sum, fun z hz => ?_⟩
    · show (ps.flatMap lnP).Nodup
      refine List.pairwise_flatMap.mpr ⟨fun s _ => lnP_nodup s, h.ap.imp fun {s t} ap => ?_⟩
      intro x hs y ht e
      have a := mem_lnP hs
      have b := mem_lnP ht
      rcases ap with ap | ap <;> omega
    · obtain ⟨s, hs, hz⟩ := List.mem_flatMap.mp hz
      have a := mem_lnP hz
      have b := h.x s hs
      omega
theorem LcA.occ1 {p : Addr} {n : Nat} {H H' : Hp} {D : Addr} {xs : List V} {ds : List PyData} (c : LcA (O1 p) p n H D xs ds H') : Occ (Plus (O1 p) D) H' := fun b z e => z.elim (fun q => by
  obtain ⟨i, j, k, e2, _⟩ := c.l.dr.box
  rw [q, e2] at e
  cases e) fun q => by
  rw [q, c.l.at_] at e
  cases e
theorem BksIn.plusN {S : Av} {H : Hp} {v : V} {B : Bks} {D : Addr} (h : BksIn S H v B) (g : H D = none) : BksIn (Plus S D) H v B := by
  obtain ⟨a, xs, e, r, l, k⟩ := h
  exact ⟨a, xs, e, r, l, fun i y b h1 h2 => (k i y b h1 h2).plusN g⟩
theorem occ1 {p : Addr} {n : Nat} {H : Hp} (h : Box n H p) : Occ (O1 p) H := fun b q e => by
  obtain ⟨i, j, k, e2, _⟩ := h
  rw [q, e2] at e
  cases e
/-- books handed in last where only the box changes -/
theorem BksIn.btp {p : Addr} {n : Nat} {H H' : Hp} {v : V} {B : Bks} (h : BksIn (O1 p) H v B) (ok : okBks B) (b : Bt p H H') (bx : Box n H p) : BksIn (O1 p) H' v B := by
  obtain ⟨i0, j0, k0, eb, _⟩ := bx
  obtain ⟨a, xs, e, r, l, k⟩ := h
  obtain ⟨b0, B0⟩ : ∃ b0, B[0]? = some b0 := ⟨_, List.getElem?_eq_getElem (show 0 < B.length from ok.l0)⟩
  have rowp : ∀ {a : Addr} {xs : List V}, Rw H a xs → (∀ x, xs[0]? = some x → ∃ q, x = .ref q) → 0 < xs.length → Rw H' a xs := by
    intro a xs r hx hl
    have na : a ≠ p := fun q => by
      obtain ⟨y, hy⟩ : ∃ y, xs[0]? = some y := ⟨_, List.getElem?_eq_getElem hl⟩
      obtain ⟨q', e'⟩ := hx y hy
      rcases r with r | r
      · rw [q, eb] at r
        cases r
        cases hy
        cases e'
      · rw [q, eb] at r
        cases r
    exact r.elim (fun r => .inl (b _ _ na r)) fun r => .inr (b _ _ na r)
  refine ⟨a, xs, e, rowp r (fun x hx => ?_) (by have := ok.l0; omega), l, fun i x bb h1 h2 => ?_⟩
  · obtain ⟨a2, _, _, e2, _⟩ := k 0 x _ hx B0
    exact ⟨a2, e2⟩
  · obtain ⟨a2, c2, ys, e2, f2, r2, l2, k2⟩ := k i x bb h1 h2
    have okc := ok.ch bb (List.mem_of_getElem? h2)
    refine ⟨a2, c2, ys, e2, b _ _ (fun q => by rw [q, eb] at f2; cases f2) f2, rowp r2 (fun y hy => ?_) (by omega), l2, fun j y c h3 h4 => ?_⟩
    · obtain ⟨a3, e3, _⟩ := k2 0 y _ hy (List.getElem?_eq_getElem (by omega))
      exact ⟨a3, e3⟩
    · obtain ⟨a3, e3, n3, r3⟩ := k2 j y c h3 h4
      exact ⟨a3, e3, n3, r3.elim (fun r => .inl (b _ _ n3 r)) fun r => .inr (b _ _ n3 r)⟩
theorem size_pos {B : Bks} (h : okBks B) : 1 ≤ (plOf B).length := by
  have e := plOf_sum B fun b hb c hc m hm => by
    have := (((h.ch b hb).2.2 c hc).x m hm).1
    omega
  have h1 := len_sum (B.map fun b => (b.2.map List.sum).sum) fun x hx => by
    obtain ⟨b, hb, rfl⟩ := List.mem_map.mp hx
    have h2 := len_sum (b.2.map List.sum) fun y hy => by
      obtain ⟨c, hc, rfl⟩ := List.mem_map.mp hy
      have okc := (h.ch b hb).2.2 c hc
      have h3 := len_sum c fun m hm => (okc.x m hm).1
      have := okc.l0
      omega
    have := (h.ch b hb).1
    rw [List.length_map] at h2
    omega
  have := h.l0
  rw [List.length_map] at h1
  omega
theorem EdAt.weak {S S' : Av} {H : Hp} {C e : Addr} {B : Bks} {L : List Int} (h : EdAt S H C e B L) (W : ∀ b, S' b → S b) : EdAt S' H C e B L := by
  obtain ⟨w, h⟩ := h
  exact ⟨w, { h with n0 := fun z => h.n0 (W _ z), n2 := fun z => h.n2 (W _ z), n3 := fun z => h.n3 (W _ z), n4 := fun z => h.n4 (W _ z), n5 := fun z => h.n5 (W _ z), n6 := fun z => h.n6 (W _ z), h1 := At.weak W _ _ h.h1, c2 := ⟨h.c2.k, AtAll.weak W _ _ h.c2.v⟩, c3 := AtAll.weak W _ _ h.c3, c4 := h.c4.weak W, h7 := At.weak W _ _ h.h7 }⟩
theorem eqv_intsL : ∀ L M : List Int, PyData.eqvAll (L.map PyData.int) (M.map PyData.int) = decide (L = M)
  | [], [] => rfl
  | [], _ :: _ => rfl
  | _ :: _, [] => rfl
  | a :: r, b :: t => by
    show ((a == b) && PyData.eqvAll (r.map PyData.int) (t.map PyData.int)) = _
    rw [eqv_intsL r t]
    by_cases e : a = b
    · subst e
      rw [beq_self_eq_true, Bool.true_and]
      exact decide_eq_decide.mpr ⟨fun h => by rw [h], fun h => (List.cons.inj h).2⟩
    · rw [beq_false_of_ne e, Bool.false_and]
      exact (decide_eq_false fun h => e (List.cons.inj h).1).symm
end
end My
set_option Elab.async false
set_option linter.all false
set_option maxRecDepth 100000
set_option maxHeartbeats 4000000
namespace My
open PySem PySem.Spec PyProof.Rows L2
theorem DictF.plusN {S : Av} {H : Hp} {kvs : List (List Key × V)} {f : StF} {D : Addr} (h : DictF S H kvs f) (g : H D = none) : DictF (Plus S D) H kvs f := fun k => by
  have := h k
  cases e : f k with
  | none =>
    rw [e] at this
    exact this
  | some s =>
    rw [e] at this
    obtain ⟨v, h1, h2⟩ := this
    exact ⟨v, h1, h2.plusN g⟩
theorem EdAt.plusN {S : Av} {H : Hp} {C e : Addr} {B : Bks} {L : List Int} {D : Addr} (h : EdAt S H C e B L) (g : H D = none) : EdAt (Plus S D) H C e B L := by
  obtain ⟨w, h⟩ := h
  have ne : ∀ {a : Addr} {o : HO}, H a = some o → ¬ S a → ¬ Plus S D a := fun e n z => z.elim n fun q => by
    rw [q, g] at e
    cases e
  exact ⟨w, { h with n0 := ne h.at_ h.n0, n2 := ne h.h2 h.n2, n3 := ne h.h3 h.n3, n4 := ne h.h4 h.n4, n5 := ne h.h5 h.n5, n6 := ne h.h6 h.n6, h1 := h.h1.plusN g, c2 := ⟨h.c2.k, h.c2.v.plusN g⟩, c3 := h.c3.plusN g, c4 := h.c4.plusN g, h7 := h.h7.plusN g }⟩
/-- an edition and its parts, as the law keeps them -/
def EnE (C : Addr) (S : Av) (H : Hp) (t : Addr) : Prop := ∃ e l B L rows, ¬ S t ∧ H t = some (.tup [.ref e, .ref l]) ∧ EdAt S H C e B L ∧ okBks B ∧ ¬ S l ∧ H l = some (.lst rows) ∧ AtAll S H rows ((plOf B).map plD) ∧ (plOf B).length ≤ 400
theorem EnE.bt {C : Addr} {S : Av} {H H' : Hp} {t : Addr} (h : EnE C S H t) (b : BtS S H H') : EnE C S H' t := by
  obtain ⟨e, l, B, L, rows, n, et, ed, ok, nl, el, a, l4⟩ := h
  exact ⟨e, l, B, L, rows, n, b _ _ n et, ed.bt b, ok, nl, b _ _ nl el, AtAll.bt b _ _ a, l4⟩
theorem EnE.plusN {C : Addr} {S : Av} {H : Hp} {t D : Addr} (h : EnE C S H t) (g : H D = none) : EnE C (Plus S D) H t := by
  obtain ⟨e, l, B, L, rows, n, et, ed, ok, nl, el, a, l4⟩ := h
  have ne : ∀ {a : Addr} {o : HO}, H a = some o → ¬ S a → ¬ Plus S D a := fun e n z => z.elim n fun q => by
    rw [q, g] at e
    cases e
  exact ⟨e, l, B, L, rows, ne et n, et, ed.plusN g, ok, ne el nl, el, a.plusN g, l4⟩
theorem EnE.weak {C : Addr} {S S' : Av} {H : Hp} {t : Addr} (h : EnE C S H t) (W : ∀ b, S' b → S b) : EnE C S' H t := by
  obtain ⟨e, l, B, L, rows, n, et, ed, ok, nl, el, a, l4⟩ := h
  exact ⟨e, l, B, L, rows, fun z => n (W _ z), et, ed.weak W, ok, fun z => nl (W _ z), el, AtAll.weak W _ _ a, l4⟩
/-- a book handed in, made anew -/
def BkX (S : Av) (H : Hp) (x : V) (b : List Nat × List (List Int)) : Prop := ∃ a c xs, x = .ref a ∧ ¬ S a ∧ H a = some (.tup [.str (SX.S b.1), .ref c]) ∧ ¬ S c ∧ H c = some (.lst xs) ∧ xs.length = b.2.length ∧
  ∀ (i : Nat) (y : V) (cc : List Int), xs[i]? = some y → b.2[i]? = some cc → ∃ a', y = .ref a' ∧ ¬ S a' ∧ H a' = some (.tup (cc.map V.int))
theorem BkX.bt {S : Av} {H H' : Hp} {x : V} {b : List Nat × List (List Int)} (h : BkX S H x b) (k : BtS S H H') : BkX S H' x b := by
  obtain ⟨a, c, xs, e, na, ea, nc, ec, l, f⟩ := h
  refine ⟨a, c, xs, e, na, k _ _ na ea, nc, k _ _ nc ec, l, fun i y cc h1 h2 => ?_⟩
  obtain ⟨a', e', n', h'⟩ := f i y cc h1 h2
  exact ⟨a', e', n', k _ _ n' h'⟩
theorem BkX.in_ {S S' : Av} {H : Hp} {x : V} {b : List Nat × List (List Int)} (h : BkX S H x b) (W : ∀ b, S' b → S b) : BkIn S' H x b.1 b.2 := by
  obtain ⟨a, c, xs, e, na, ea, nc, ec, l, f⟩ := h
  refine ⟨a, c, xs, e, ea, .inl ec, l, fun i y cc h1 h2 => ?_⟩
  obtain ⟨a', e', n', h'⟩ := f i y cc h1 h2
  exact ⟨a', e', fun z => n' (W _ z), .inr h'⟩
section
variable {P : Program} {w : World} {K : PySem.W.Frag} {mg : Str → Option Value} {base : Heap}
theorem Cl.imp {k : Nat} {x : Str} {ps : List Str} {sp sp' : Sp} (c : Cl P w K mg base k x ps sp) (h : ∀ vs H Q E, sp' vs H Q E → sp vs H Q E) : Cl P w K mg base k x ps sp' := by
  obtain ⟨f, fd, F, r⟩ := c
  exact ⟨f, fd, F.imp h, r⟩
theorem mem_cutV {xs : List V} {lo hi : Option Int} {x : V} (h : x ∈ cutV xs lo hi) : x ∈ xs := List.mem_of_mem_drop (List.mem_of_mem_take h)
end
end My
set_option Elab.async false
set_option linter.all false
set_option maxRecDepth 100000
set_option maxHeartbeats 4000000
namespace My
open PySem PySem.Spec PyProof.Rows L2
/-! P1: the numbers of stretches, the runs of numbers. -/
/-- L: the numbers of the stretches ps, rising -/
structure IsNums (ps : List (Int × Int)) (L : List Int) : Prop where
  pw : L.Pairwise (· < ·)
  mem : ∀ z, z ∈ L ↔ ∃ s ∈ ps, s.1 ≤ z ∧ z ≤ s.2
theorem rise_len : ∀ (L : List Int) (lo hi : Int), L.Pairwise (· < ·) → (∀ z ∈ L, lo ≤ z ∧ z < hi) → (L.length : Int) ≤ max 0 (hi - lo)
  | [], lo, hi, _, _ => by simp; omega
  | z :: r, lo, hi, h, k => by
    obtain ⟨h1, h2⟩ := List.pairwise_cons.mp h
    have kz := k z (List.mem_cons_self ..)
    have := rise_len r (z + 1) hi h2 fun y hy => by
      have a := h1 y hy
      have b := (k y (List.mem_cons_of_mem _ hy)).2
      omega
    rw [List.length_cons]
    omega
theorem rise_ext : ∀ {L M : List Int}, L.Pairwise (· < ·) → M.Pairwise (· < ·) → (∀ z, z ∈ L ↔ z ∈ M) → L = M
  | [], [], _, _, _ => rfl
  | [], y :: m, _, _, h => absurd ((h y).mpr (List.mem_cons_self ..)) (by simp)
  | x :: l, [], _, _, h => absurd ((h x).mp (List.mem_cons_self ..)) (by simp)
  | x :: l, y :: m, hl, hm, h => by
    obtain ⟨l1, l2⟩ := List.pairwise_cons.mp hl
    obtain ⟨m1, m2⟩ := List.pairwise_cons.mp hm
    have e : x = y := by
      rcases List.mem_cons.mp ((h x).mp (List.mem_cons_self ..)) with e | e
      · exact e
      · rcases List.mem_cons.mp ((h y).mpr (List.mem_cons_self ..)) with q | q
        · exact q.symm
        · have a := m1 x e
          have b := l1 y q
          omega
    subst e
    rw [rise_ext l2 m2 fun z => ?_]
    have hz := h z
    rw [List.mem_cons, List.mem_cons] at hz
    refine ⟨fun k => (hz.mp (.inr k)).resolve_left fun q => ?_, fun k => (hz.mpr (.inr k)).resolve_left fun q => ?_⟩
    · have := l1 z k
      omega
    · have := m1 z k
      omega
theorem IsNums.uniq {ps qs : List (Int × Int)} {L M : List Int} (h : IsNums ps L) (k : IsNums qs M) (e : ∀ s, s ∈ ps ↔ s ∈ qs) : L = M := rise_ext h.pw k.pw fun z => by
  rw [h.mem, k.mem]
  exact ⟨fun ⟨s, a, b⟩ => ⟨s, (e s).mp a, b⟩, fun ⟨s, a, b⟩ => ⟨s, (e s).mpr a, b⟩⟩
theorem IsNums.nil : IsNums [] [] := ⟨.nil, fun z => by simp⟩
theorem IsNums.len {ps : List (Int × Int)} {L : List Int} (h : IsNums ps L) (k : ∀ s ∈ ps, 0 ≤ s.1 ∧ s.2 < 1000) : L.length ≤ 1000 := by
  have := rise_len L 0 1000 h.pw fun z hz => by
    obtain ⟨s, a, b⟩ := (h.mem z).mp hz
    have := k s a
    omega
  omega
/-- the number behind the last one -/
def unf (L : List Int) : Int := match L.getLast? with | none => 0 | some z => z + 1
theorem unf_nil : unf [] = 0 := rfl
theorem unf_snoc (L : List Int) (z : Int) : unf (L ++ [z]) = z + 1 := by
  unfold unf
  rw [List.getLast?_concat]
theorem lnP_pw (s : Int × Int) : (lnP s).Pairwise (· < ·) := by
  unfold lnP
  rw [List.pairwise_map]
  exact List.pairwise_lt_range.imp fun h => by omega
theorem lnP_mem {s : Int × Int} {z : Int} : z ∈ lnP s ↔ s.1 ≤ z ∧ z < s.1 + s.2 := by
  refine ⟨mem_lnP, fun ⟨h0, h1⟩ => ?_⟩
  unfold lnP
  exact List.mem_map.mpr ⟨(z - s.1).toNat, List.mem_range.mpr (by omega), by omega⟩
theorem pw_last {L : List Int} {m : Int} (h : (L ++ [m]).Pairwise (· < ·)) : ∀ z ∈ L ++ [m], z ≤ m := fun z hz => by
  rcases List.mem_append.mp hz with q | q
  · have := (List.pairwise_append.mp h).2.2 z q m (List.mem_singleton.mpr rfl)
    omega
  · have := List.mem_singleton.mp q
    omega
theorem IsNums.step {ps : List (Int × Int)} {L : List Int} {s : Int × Int} (h : IsNums ps L) (k : ∀ t ∈ ps, t.1 ≤ s.1) (h0 : 0 ≤ s.1) : IsNums (ps ++ [s]) (L ++ lnP (max s.1 (unf L), s.2 + 1 - max s.1 (unf L))) := by
  rcases List.eq_nil_or_concat L with rfl | ⟨M, m, e⟩
  · rw [unf_nil, List.nil_append]
    refine ⟨lnP_pw _, fun z => ?_⟩
    rw [lnP_mem]
    have hz := h.mem z
    constructor
    · intro q
      exact ⟨s, by simp, by dsimp only at q; omega⟩
    · rintro ⟨t, ht, q⟩
      rcases List.mem_append.mp ht with ht | ht
      · exact absurd (hz.mpr ⟨t, ht, q⟩) (by simp)
      · cases List.mem_singleton.mp ht
        dsimp only
        omega
  · rw [List.concat_eq_append] at e
    subst e
    rw [unf_snoc]
    refine ⟨List.pairwise_append.mpr ⟨h.pw, lnP_pw _, fun a ha b hb => ?_⟩, fun z => ?_⟩
    · have := pw_last h.pw a ha
      have := mem_lnP hb
      dsimp only at this
      omega
    · rw [List.mem_append, lnP_mem]
      have hz := h.mem z
      constructor
      · rintro (q | q)
        · obtain ⟨t, ht, q⟩ := hz.mp q
          exact ⟨t, List.mem_append_left _ ht, q⟩
        · exact ⟨s, by simp, by dsimp only at q; omega⟩
      · rintro ⟨t, ht, q⟩
        rcases List.mem_append.mp ht with ht | ht
        · exact .inl (hz.mpr ⟨t, ht, q⟩)
        · cases List.mem_singleton.mp ht
          by_cases hm : z ≤ m
          · obtain ⟨t, ht, q2⟩ := (h.mem m).mp (by simp)
            have := k t ht
            exact .inl (hz.mpr ⟨t, ht, by omega⟩)
          · refine .inr ?_
            dsimp only
            omega
/-- pairs at hand: the items xs stand for ps -/
def PrsAt (H : Hp) (xs : List V) (ps : List (Int × Int)) : Prop := xs.length = ps.length ∧ ∀ (i : Nat) (x : V) (s : Int × Int), xs[i]? = some x → ps[i]? = some s → ∃ t, x = .ref t ∧ H t = some (.tup [.int s.1, .int s.2])
theorem PrsAt.same {H H' : Hp} {xs : List V} {ps : List (Int × Int)} (h : PrsAt H xs ps) (z : Same H H') : PrsAt H' xs ps := ⟨h.1, fun i x s a b => let ⟨t, e, f⟩ := h.2 i x s a b; ⟨t, e, z _ _ f⟩⟩
/-- the pair that stands at v -/
def pairAt (H : Hp) : V → Int × Int
  | .ref t => match H t with
    | some (.tup [.int i, .int j]) => (i, j)
    | _ => (0, 0)
  | _ => (0, 0)
theorem pairAt_eq {H : Hp} {t : Addr} {i j : Int} (h : H t = some (.tup [.int i, .int j])) : pairAt H (.ref t) = (i, j) := by
  show (match H t with | some (.tup [.int i, .int j]) => (i, j) | _ => (0, 0)) = _
  rw [h]
theorem PrsAt.map {H : Hp} {xs : List V} {ps : List (Int × Int)} (h : PrsAt H xs ps) : xs.map (pairAt H) = ps := by
  refine List.ext_getElem (by rw [List.length_map, h.1]) fun i h1 h2 => ?_
  rw [List.length_map] at h1
  obtain ⟨t, e, f⟩ := h.2 i xs[i] ps[i] (List.getElem?_eq_getElem h1) (List.getElem?_eq_getElem h2)
  rw [List.getElem_map, e, pairAt_eq f]
def sp_numsIn (K : PySem.W.Frag) : Sp := fun vs H Q _ => ∃ (l : Addr) (xs : List V) (ps : List (Int × Int)), vs = [.ref l] ∧ SqL K H l xs ∧ PrsAt H xs ps ∧ (∀ s ∈ ps, 0 ≤ s.1 ∧ s.1 ≤ s.2 ∧ s.2 < 1000) ∧ ∀ k L H', Same H H' → H k = none → H' k = some (.lst (L.map V.int)) → IsNums ps L → Q (.ref k) H'
/-- the runs so far with one number more -/
def rnStep (ps : List (Int × Int)) (z : Int) : List (Int × Int) := match ps.getLast? with
  | none => [(z, z)]
  | some s => if z = s.2 + 1 then ps.dropLast ++ [(s.1, z)] else ps ++ [(z, z)]
def runsD (L : List Int) : List (Int × Int) := L.foldl rnStep []
theorem rn_nil (z : Int) : rnStep [] z = [(z, z)] := rfl
theorem rn_snoc (ps : List (Int × Int)) (s : Int × Int) (z : Int) : rnStep (ps ++ [s]) z = if z = s.2 + 1 then ps ++ [(s.1, z)] else ps ++ [s] ++ [(z, z)] := by
  unfold rnStep
  rw [List.getLast?_concat, List.dropLast_concat]
theorem runsD_succ {L : List Int} {i : Nat} {z : Int} (h : L[i]? = some z) : runsD (L.take (i + 1)) = rnStep (runsD (L.take i)) z := by
  unfold runsD
  rw [List.take_add_one, h, List.foldl_append]
  rfl
theorem rn_len (ps : List (Int × Int)) (z : Int) : (rnStep ps z).length ≤ ps.length + 1 := by
  rcases List.eq_nil_or_concat ps with rfl | ⟨qs, s, rfl⟩
  · rw [rn_nil]
    exact Nat.le_refl _
  · rw [List.concat_eq_append, rn_snoc]
    split
    · simp
    · simp
theorem runsD_len : ∀ (L : List Int) (ps : List (Int × Int)), (L.foldl rnStep ps).length ≤ ps.length + L.length
  | [], ps => Nat.le_refl _
  | z :: r, ps => by
    have h1 := runsD_len r (rnStep ps z)
    have h2 := rn_len ps z
    rw [List.foldl_cons, List.length_cons]
    omega
def sp_runsOf (K : PySem.W.Frag) : Sp := fun vs H Q _ => ∃ (S : Av) (l : Addr) (L : List Int), vs = [.ref l] ∧ Occ S H ∧ SqL K H l (L.map V.int) ∧ L.length ≤ 1000 ∧ ∀ k rows H', Same H H' → H k = none → H' k = some (.lst rows) → AtAll S H' rows ((runsD L).map prD) → Q (.ref k) H'
section
variable {P : Program} {w : World} {K : PySem.W.Frag} {mg : Str → Option Value} {base : Heap}
end
end My
set_option Elab.async false
set_option linter.all false
set_option maxRecDepth 100000
set_option maxHeartbeats 4000000
namespace My
open PySem PySem.Spec PyProof.Rows L2
/-! P2: stretches handed in, Places. -/
/-- stretches that fit an edition of n parts -/
def okPrs (n : Int) (ps : List (Int × Int)) : Prop := ps.length ≤ 400 ∧ ∀ s ∈ ps, 0 ≤ s.1 ∧ s.1 ≤ s.2 ∧ s.2 < n
def sp_isStr : Sp := fun vs H Q _ => ∃ (t : Addr) (s : Int × Int) (n : Int), vs = [.ref t, .int n] ∧ H t = some (.tup [.int s.1, .int s.2]) ∧ 0 ≤ s.1 ∧ s.1 ≤ s.2 ∧ s.2 < n ∧ Q (.bl true) H
def sp_chkEd (C : Addr) : Sp := fun vs H Q _ => ∃ (S : Av) (e : Addr) (B : Bks) (L : List Int), vs = [.ref e] ∧ EdAt S H C e B L ∧ Q .non H
def prsO : Option (List (Int × Int)) → List (Int × Int)
  | none => []
  | some ps => ps
def sp_keptPr : Sp := fun vs H Q _ => ∃ (v : V) (o : Option (List (Int × Int))) (n : Int), vs = [v, .int n] ∧ LnIn H v o ∧ okPrs n (prsO o) ∧ ∀ k xs H', Same H H' → H k = none → H' k = some (.lst xs) → PrsAt H' xs (prsO o) → Q (.ref k) H'
section
variable {P : Program} {w : World} {K : PySem.W.Frag} {mg : Str → Option Value} {base : Heap}
theorem ok_chkEd {C : Addr} (T : Txt K mg) (EC : EdC K C) (O : OwnK K C) (kk : PySem.W.kitOne K (.ref C) (.ref C) = some true) (gC : ∃ u, mg "Edition" = some u ∧ RelV (.ref C) u) (D : Df K mg "check_edition" s_check_edition ["thing"]) : Cl P w K mg base 2 "check_edition" ["thing"] (sp_chkEd C) := by
  refine ok_of D sc_check_edition (fun vs H Q E h => ?_) (fun f cdv A outer s H vs Q E hr h => ?_)
  · obtain ⟨S, e, B, L, rfl, _⟩ := h
    rfl
  · obtain ⟨S, e, B, L, rfl, h1, q⟩ := h
    refine ⟨_, (pss_one (ps_if (pt_not (pt_val (pe_callB call_isb (by rfl) T.b_isinstance (by decide +kernel) (pa_cons (pv 0) (pa_cons (C8.pe_gc (by rfl) gC) pa_nil))))) (pss_one ps_never) pss_nil)), ?_⟩
    obtain ⟨w1, hw1⟩ := id h1
    exact ⟨.ref e, rfl, .inl ⟨.ref e, .ref C, _, _, true, rfl, .own C, .base (.ins hw1.at_ O.cl O.ha O.hn O.htk O.hm), kk, _, rfl, ite2 (fun z => absurd z (by decide)) fun _ => q⟩⟩
end
end My
set_option Elab.async false
set_option linter.all false
set_option maxRecDepth 100000
set_option maxHeartbeats 4000000
namespace My
open PySem PySem.Spec PyProof.Rows L2
/-! P3: Places: its __init__, what it tells. -/
structure PlC (K : PySem.W.Frag) (C : Addr) : Prop where
  cl : Cls K C
  n1 : NoAttr K C "_edition"
  n2 : NoAttr K C "_numbers"
  n3 : NoAttr K C "_runs"
  n4 : NoAttr K C "_held"
structure PcW where
  dx : Addr
  dn : Addr
  dr : Addr
  rows : List V
  dh : Addr
def pcF (e : Addr) (w : PcW) : List (Str × V) := [("_edition", .ref e), ("_numbers", .ref w.dn), ("_runs", .ref w.dr), ("_held", .ref w.dh)]
/-- places of the edition at e, the numbers N, stand at x -/
structure PcIn (S : Av) (H : Hp) (C x e : Addr) (N : List Int) (w : PcW) : Prop where
  at_ : H x = some (.ins C w.dx (pcF e w))
  n0 : ¬ S x
  n1 : ¬ S w.dn
  n2 : ¬ S w.dr
  n3 : ¬ S w.dh
  h1 : H w.dn = some (.lst (N.map V.int))
  h2 : H w.dr = some (.lst w.rows)
  c2 : AtAll S H w.rows ((runsD N).map prD)
  h3 : H w.dh = some (.dK (tkD N))
def PcAt (S : Av) (H : Hp) (C x e : Addr) (N : List Int) : Prop := ∃ w, PcIn S H C x e N w
theorem PcAt.bt {S : Av} {H H' : Hp} {C x e : Addr} {N : List Int} (h : PcAt S H C x e N) (b : BtS S H H') : PcAt S H' C x e N := by
  obtain ⟨w, h⟩ := h
  exact ⟨w, { h with at_ := b _ _ h.n0 h.at_, h1 := b _ _ h.n1 h.h1, h2 := b _ _ h.n2 h.h2, c2 := AtAll.bt b _ _ h.c2, h3 := b _ _ h.n3 h.h3 }⟩
theorem PcAt.plusN {S : Av} {H : Hp} {C x e : Addr} {N : List Int} {D : Addr} (h : PcAt S H C x e N) (g : H D = none) : PcAt (Plus S D) H C x e N := by
  obtain ⟨w, h⟩ := h
  have ne : ∀ {b : Addr} {o : HO}, H b = some o → ¬ S b → ¬ Plus S D b := fun e n z => z.elim n fun q => by rw [q, g] at e; cases e
  exact ⟨w, { h with n0 := ne h.at_ h.n0, n1 := ne h.h1 h.n1, n2 := ne h.h2 h.n2, n3 := ne h.h3 h.n3, c2 := h.c2.plusN g }⟩
def sp_initP (CP C : Addr) : Sp := fun vs H Q _ => ∃ (S : Av) (x dx e : Addr) (lv0 : V) (B : Bks) (L : List Int) (o : Option (List (Int × Int))), vs = [.ref x, .ref e, lv0] ∧ ¬ S x ∧ Occ S H ∧ H x = some (.ins CP dx []) ∧ EdAt (Plus S x) H C e B L ∧ (plOf B).length ≤ 400 ∧ LnIn H lv0 o ∧ okPrs (plOf B).length (prsO o) ∧
  ∀ H' N, Bt x H H' → IsNums (prsO o) N → PcAt S H' CP x e N → Q .non H'
def sp_pcEd (CP : Addr) : Sp := fun vs H Q _ => ∃ (S : Av) (x e : Addr) (N : List Int), vs = [.ref x] ∧ PcAt S H CP x e N ∧ Q (.ref e) H
def sp_pcRuns (CP : Addr) : Sp := fun vs H Q _ => ∃ (S : Av) (x e : Addr) (N : List Int), vs = [.ref x] ∧ PcAt S H CP x e N ∧ ∀ l rows, H l = none → AtAll S H rows ((runsD N).map prD) → Q (.ref l) (upd H l (.lst rows))
def sp_pcNums (CP : Addr) : Sp := fun vs H Q _ => ∃ (S : Av) (x e : Addr) (N : List Int), vs = [.ref x] ∧ PcAt S H CP x e N ∧ ∀ l, H l = none → Q (.ref l) (upd H l (.lst (N.map V.int)))
/-- whether a thing is a number among N -/
def inN (N : List Int) : V → Bool
  | .int z => decide (z ∈ N)
  | _ => false
def sp_pcHas (K : PySem.W.Frag) (CP : Addr) : Sp := fun vs H Q _ => ∃ (S : Av) (x e : Addr) (N : List Int) (v : V), vs = [.ref x, v] ∧ PcAt S H CP x e N ∧ Th K H v ∧ Q (.bl (inN N v)) H
section
variable {P : Program} {w : World} {K : PySem.W.Frag} {mg : Str → Option Value} {base : Heap}
end
end My
set_option Elab.async false
set_option linter.all false
set_option maxRecDepth 100000
set_option maxHeartbeats 4000000
namespace My
open PySem PySem.Spec PyProof.Rows L2
/-! P4: places of numbers. -/
theorem runs_last : ∀ {N : List Int}, N.Pairwise (· < ·) → IsNums (runsD N) N ∧ (∀ s ∈ runsD N, s.1 ≤ s.2) ∧ (runsD N).getLast?.map (·.2) = N.getLast? := by
  intro N
  have key : ∀ i, i ≤ N.length → N.Pairwise (· < ·) → IsNums (runsD (N.take i)) (N.take i) ∧ (∀ s ∈ runsD (N.take i), s.1 ≤ s.2) ∧ (runsD (N.take i)).getLast?.map (·.2) = (N.take i).getLast? := by
    intro i
    induction i with
    | zero =>
      intro _ _
      rw [List.take_zero]
      exact ⟨IsNums.nil, (fun s h => nomatch h), rfl⟩
    | succ i ih =>
      intro hi pw
      obtain ⟨h1, h2, h3⟩ := ih (by omega) pw
      have hz : N[i]? = some N[i] := List.getElem?_eq_getElem (by omega)
      have et : N.take (i + 1) = N.take i ++ [N[i]] := by rw [List.take_add_one, hz]; rfl
      have pw2 : (N.take i ++ [N[i]]).Pairwise (· < ·) := by rw [← et]; exact pw.sublist (List.take_sublist ..)
      rw [runsD_succ hz, et, List.getLast?_concat]
      generalize N[i] = z at pw2
      generalize N.take i = T at h1 h2 h3 pw2
      generalize runsD T = R at h1 h2 h3
      rcases List.eq_nil_or_concat R with e | ⟨ps, s, e⟩
      · subst e
        rw [rn_nil]
        refine ⟨⟨pw2, fun y => ?_⟩, fun s hs => by cases List.mem_singleton.mp hs; exact Int.le_refl _, rfl⟩
        rw [List.mem_append, h1.mem, List.mem_singleton]
        constructor
        · rintro (⟨s, hs, _⟩ | rfl)
          · cases hs
          · exact ⟨(y, y), by simp, by simp⟩
        · rintro ⟨s, hs, a, b⟩
          cases List.mem_singleton.mp hs
          exact .inr (by dsimp only at a b; omega)
      · rw [List.concat_eq_append] at e
        subst e
        rw [List.getLast?_concat] at h3
        have hs := h2 s (by simp)
        rw [rn_snoc]
        by_cases e : z = s.2 + 1
        · rw [if_pos e]
          refine ⟨⟨pw2, fun y => ?_⟩, fun t ht => ?_, by rw [List.getLast?_concat]; rfl⟩
          · rw [List.mem_append, h1.mem, List.mem_singleton]
            constructor
            · rintro (⟨t, ht, a, b⟩ | rfl)
              · rcases List.mem_append.mp ht with ht | ht
                · exact ⟨t, List.mem_append_left _ ht, a, b⟩
                · cases List.mem_singleton.mp ht
                  exact ⟨(s.1, z), by simp, a, by dsimp only; omega⟩
              · exact ⟨(s.1, y), by simp, by dsimp only; omega, Int.le_refl _⟩
            · rintro ⟨t, ht, a, b⟩
              rcases List.mem_append.mp ht with ht | ht
              · exact .inl ⟨t, List.mem_append_left _ ht, a, b⟩
              · cases List.mem_singleton.mp ht
                dsimp only at a b
                by_cases q : y = z
                · exact .inr q
                · exact .inl ⟨s, by simp, a, by omega⟩
          · rcases List.mem_append.mp ht with ht | ht
            · exact h2 t (List.mem_append_left _ ht)
            · cases List.mem_singleton.mp ht
              dsimp only
              omega
        · rw [if_neg e]
          refine ⟨⟨pw2, fun y => ?_⟩, fun t ht => ?_, by rw [List.getLast?_concat]; rfl⟩
          · rw [List.mem_append, h1.mem, List.mem_singleton]
            constructor
            · rintro (⟨t, ht, a, b⟩ | rfl)
              · exact ⟨t, List.mem_append_left _ ht, a, b⟩
              · exact ⟨(y, y), by simp, by simp⟩
            · rintro ⟨t, ht, a, b⟩
              rcases List.mem_append.mp ht with ht | ht
              · exact .inl ⟨t, ht, a, b⟩
              · cases List.mem_singleton.mp ht
                exact .inr (by dsimp only at a b; omega)
          · rcases List.mem_append.mp ht with ht | ht
            · exact h2 t ht
            · cases List.mem_singleton.mp ht
              exact Int.le_refl _
  intro pw
  have := key N.length (Nat.le_refl _) pw
  rw [List.take_length] at this
  exact this
/-- places made anew, of any stretches -/
theorem mk_pcI {S : Av} {H : Hp} {CP C e x dx : Addr} {B : Bks} {L : List Int} {pr : V} {o : Option (List (Int × Int))} {Q : VK} {E : XK} (ho : Occ S H) (ed : EdAt S H C e B L) (l4 : (plOf B).length ≤ 400) (hl : LnIn H pr o) (ok : okPrs (plOf B).length (prsO o)) (hx : H x = none) (hdx : H dx = none) (ne : dx ≠ x)
    (q : ∀ H' N, Same H H' → IsNums (prsO o) N → PcAt S H' CP x e N → Q .non H') : sp_initP CP C [.ref x, .ref e, pr] (upd (upd H dx (.own x)) x (.ins CP dx [])) Q E := by
  have S8 : Same H (upd (upd H dx (.own x)) x (.ins CP dx [])) := (same_new hdx).trans (same_new (by rw [upd_ne ne.symm]; exact hx))
  exact ⟨S, x, dx, e, pr, B, L, o, rfl, ho.free hx, ho.same S8, upd_same, (ed.plusN hx).bt (Same.btS S8), l4, hl.same S8, ok, fun H' N b nm pc => q H' N (fun p ob eo => b p ob (ne_of_none eo hx) (S8 p ob eo)) nm pc⟩
theorem all_prs {S : Av} {H : Hp} : ∀ {xs : List V} {ps : List (Int × Int)}, AtAll S H xs (ps.map prD) → PrsAt H xs ps := fun h => ⟨by rw [h.len, List.length_map], fun i x s a b => by
  obtain ⟨s', h1, h2⟩ := h.at_ a
  rw [b] at h1
  cases h1
  obtain ⟨t, e, _, f⟩ := h2.pair
  exact ⟨t, e, f⟩⟩
def sp_ofStr (K : PySem.W.Frag) (CP C : Addr) : Sp := fun vs H Q _ => ∃ (S : Av) (e l : Addr) (xs : List V) (ps : List (Int × Int)) (B : Bks) (L : List Int), vs = [.ref e, .ref l] ∧ Occ S H ∧ EdAt S H C e B L ∧ (plOf B).length ≤ 400 ∧ SqL K H l xs ∧ PrsAt H xs ps ∧ (∀ s ∈ ps, 0 ≤ s.1 ∧ s.1 ≤ s.2 ∧ s.2 < ((plOf B).length : Nat)) ∧ ∀ y N H', Same H H' → H y = none → IsNums ps N → PcAt S H' CP y e N → Q (.ref y) H'
/-- places of the numbers M, in any order, also more than once -/
def sp_ofNum (K : PySem.W.Frag) (CP C : Addr) : Sp := fun vs H Q _ => ∃ (S : Av) (e l : Addr) (M : List Int) (B : Bks) (L : List Int), vs = [.ref e, .ref l] ∧ Occ S H ∧ EdAt S H C e B L ∧ (plOf B).length ≤ 400 ∧ SqL K H l (M.map V.int) ∧ M.length ≤ 1000 ∧ (∀ z ∈ M, 0 ≤ z ∧ z < ((plOf B).length : Nat)) ∧ ∀ y N H', Same H H' → H y = none → N.Pairwise (· < ·) → (∀ z, z ∈ N ↔ z ∈ M) → PcAt S H' CP y e N → Q (.ref y) H'
/-- places of an edition that is the same as this one -/
def sp_isPl (CP C : Addr) : Sp := fun vs H Q _ => ∃ (S : Av) (e y e2 : Addr) (N : List Int) (B : Bks) (L : List Int), vs = [.ref e, .ref y] ∧ Occ S H ∧ EdAt S H C e B L ∧ PcAt S H CP y e2 N ∧ EdAt S H C e2 B L ∧ L.length ≤ 1000 ∧ (∀ b ∈ B, okName b.1) ∧ ∀ H', Same H H' → Q (.bl true) H'
section
variable {P : Program} {w : World} {K : PySem.W.Frag} {mg : Str → Option Value} {base : Heap}
end
end My
set_option Elab.async false
set_option linter.all false
set_option maxRecDepth 100000
set_option maxHeartbeats 4000000
namespace My
open PySem PySem.Spec PyProof.Rows L2
/-! P5: joined, met, without, apart, rest, within. -/
/-- two sets of places of one edition, told twice perhaps -/
structure Two (S : Av) (H : Hp) (CP C x y e e2 : Addr) (N M : List Int) (B : Bks) (L : List Int) : Prop where
  occ : Occ S H
  x : PcAt S H CP x e N
  y : PcAt S H CP y e2 M
  e : EdAt S H C e B L
  e2 : EdAt S H C e2 B L
  lL : L.length ≤ 1000
  nm : ∀ b ∈ B, okName b.1
  l4 : (plOf B).length ≤ 400
  nN : ∀ z ∈ N, 0 ≤ z ∧ z < ((plOf B).length : Nat)
  nM : ∀ z ∈ M, 0 ≤ z ∧ z < ((plOf B).length : Nat)
  pN : N.Pairwise (· < ·)
  pM : M.Pairwise (· < ·)
theorem Two.same {S : Av} {H H' : Hp} {CP C x y e e2 : Addr} {N M : List Int} {B : Bks} {L : List Int} (h : Two S H CP C x y e e2 N M B L) (z : Same H H') : Two S H' CP C x y e e2 N M B L :=
  { h with occ := h.occ.same z, x := h.x.bt (Same.btS z), y := h.y.bt (Same.btS z), e := h.e.bt (Same.btS z), e2 := h.e2.bt (Same.btS z) }
theorem Two.swap {S : Av} {H : Hp} {CP C x y e e2 : Addr} {N M : List Int} {B : Bks} {L : List Int} (h : Two S H CP C x y e e2 N M B L) : Two S H CP C y x e2 e M N B L :=
  ⟨h.occ, h.y, h.x, h.e2, h.e, h.lL, h.nm, h.l4, h.nM, h.nN, h.pM, h.pN⟩
theorem rise_le {N : List Int} {n : Nat} (p : N.Pairwise (· < ·)) (h : ∀ z ∈ N, 0 ≤ z ∧ z < (n : Int)) : N.length ≤ n := by
  have := rise_len N 0 n p h
  omega
def sp_chkO (CP C : Addr) : Sp := fun vs H Q _ => ∃ (S : Av) (x y e e2 : Addr) (N M : List Int) (B : Bks) (L : List Int), vs = [.ref x, .ref y] ∧ Two S H CP C x y e e2 N M B L ∧ ∀ H', Same H H' → Q .non H'
/-- what is made of two: places of x's edition, of the numbers that p asks -/
def sp_deed (CP C : Addr) (p : List Int → List Int → Int → Prop) : Sp := fun vs H Q _ => ∃ (S : Av) (x y e e2 : Addr) (N M : List Int) (B : Bks) (L : List Int), vs = [.ref x, .ref y] ∧ Two S H CP C x y e e2 N M B L ∧ ∀ v R H', Same H H' → H v = none → R.Pairwise (· < ·) → (∀ z, z ∈ R ↔ p N M z) → PcAt S H' CP v e R → Q (.ref v) H'
section
variable {P : Program} {w : World} {K : PySem.W.Frag} {mg : Str → Option Value} {base : Heap}
end
end My
set_option Elab.async false
set_option linter.all false
set_option maxRecDepth 100000
set_option maxHeartbeats 4000000
namespace My
open PySem PySem.Spec PyProof.Rows L2
/-! P6: apart, all of an edition, rest, within. -/
def sp_allOf (CP C : Addr) : Sp := fun vs H Q _ => ∃ (S : Av) (e : Addr) (B : Bks) (L : List Int), vs = [.ref e] ∧ Occ S H ∧ EdAt S H C e B L ∧ (plOf B).length ≤ 400 ∧ 1 ≤ (plOf B).length ∧ ∀ v R H', Same H H' → H v = none → R.Pairwise (· < ·) → (∀ z : Int, z ∈ R ↔ 0 ≤ z ∧ z < ((plOf B).length : Nat)) → PcAt S H' CP v e R → Q (.ref v) H'
def sp_rest (CP C : Addr) : Sp := fun vs H Q _ => ∃ (S : Av) (x e : Addr) (N : List Int) (B : Bks) (L : List Int), vs = [.ref x] ∧ Two S H CP C x x e e N N B L ∧ 1 ≤ (plOf B).length ∧ ∀ v R H', Same H H' → H v = none → R.Pairwise (· < ·) → (∀ z : Int, z ∈ R ↔ (0 ≤ z ∧ z < ((plOf B).length : Nat)) ∧ z ∉ N) → PcAt S H' CP v e R → Q (.ref v) H'
def sp_within (CP C : Addr) : Sp := fun vs H Q _ => ∃ (S : Av) (x y e e2 : Addr) (N M : List Int) (B : Bks) (L : List Int), vs = [.ref x, .ref y] ∧ Two S H CP C x y e e2 N M B L ∧ ∀ H', Same H H' → Q (.bl (N.all fun z => decide (z ∈ M))) H'
section
variable {P : Program} {w : World} {K : PySem.W.Frag} {mg : Str → Option Value} {base : Heap}
end
end My
set_option Elab.async false
set_option linter.all false
set_option maxRecDepth 100000
set_option maxHeartbeats 4000000
namespace My
open PySem PySem.Spec PyProof.Rows L2
def sp_cellAt (K : PySem.W.Frag) : Sp := fun vs H Q _ => ∃ (a : Addr) (ns : List Int) (k : Int), vs = [.ref a, .int k] ∧ SqL K H a (ns.map V.int) ∧ 0 ≤ k ∧ ∀ z, Q (.int z) H
def sp_row : Sp := fun vs H Q _ => ∃ (c : Int) (m : Nat) (sl : Int), vs = [.int c, .int (m : Nat), .int sl] ∧ m ≤ 1000 ∧ 0 ≤ sl ∧ sl ≤ 100000 ∧
  ∀ (ns : List Int) l H', ns.length = m → (∀ z ∈ ns, 0 ≤ z ∧ z < 134217728) → H l = none → Same H H' → H' l = some (.lst (ns.map V.int)) → Q (.ref l) H'
section
variable {P : Program} {w : World} {K : PySem.W.Frag} {mg : Str → Option Value} {base : Heap}
theorem ok_cellAt (T : Txt K mg) (D : Df K mg "_law_cell_at" s__law_cell_at ["script", "k"]) : Cl P w K mg base 2 "_law_cell_at" ["script", "k"] (sp_cellAt K) := by
  refine ok_of D sc__law_cell_at (fun vs H Q E h => ?_) (fun f cdv A outer s H vs Q E hr h => ?_)
  · obtain ⟨a, ns, k, rfl, _⟩ := h
    rfl
  · obtain ⟨a, ns, k, rfl, hS, hk, q⟩ := h
    refine ⟨_, (pss_cons (ps_if (pt_cmpR op_lt (pv 1) (pe_callB call_len (by rfl) T.b_len (by decide +kernel) (pa_cons (pv 0) pa_nil)) (nomark _)) (pss_one (ps_ret (pe_ix ix_list (pv 0) (pv 1) (fun _ _ => rfl)))) pss_nil)
      (pss_one (ps_ret pe_int))), ?_⟩
    refine ⟨.int k, rfl, .ref a, rfl, _, _, rfl, .inl ⟨_, hS, rfl⟩, k, _, rfl, rfl, _, rfl, ite2 (fun e => ?_) (fun e => ?_)⟩
    · have e1 : k < ((ns.map V.int).length : Int) := of_decide_eq_true e
      rw [List.length_map] at e1
      have hj : k.toNat < ns.length := by omega
      have hx : (ns.map V.int)[k.toNat]? = some (.int ns[k.toNat]) := by
        rw [List.getElem?_map, List.getElem?_eq_getElem hj]
        rfl
      exact ⟨.ref a, rfl, .int k, rfl, a, _, k, _, rfl, rfl, hS, at_of (j := k.toNat) (by omega) hx, q _⟩
    · exact q 0
theorem ok_rowL (T : Txt K mg) (D : Df K mg "_law_row" s__law_row ["cell", "count", "salt"]) : Cl P w K mg base 2 "_law_row" ["cell", "count", "salt"] sp_row := by
  refine ok_of D sc__law_row (fun vs H Q E h => ?_) (fun f cdv A outer s H vs Q E hr h => ?_)
  · obtain ⟨c, m, sl, rfl, _⟩ := h
    rfl
  · obtain ⟨c, m, sl, rfl, hm, s0, s1, q⟩ := h
    refine ⟨_, (pss_cons (ps_set (i := 3) sc__law_row.nd rfl (.inl rfl) (pe_lst pa_nil))
      (pss_cons (ps_set (i := 4) sc__law_row.nd rfl (.inl rfl) pe_int)
      (C8.pss_cut (ps_if (pt_cmpR op_ge (pe_callB call_abs (by rfl) T.b_abs (by decide +kernel) (pa_cons (pv 0) pa_nil)) (pe_op op_pow pe_int pe_int) (nomark _)) (pss_one (ps_set (i := 4) sc__law_row.nd rfl (.inl rfl) (pe_callB call_abs (by rfl) T.b_abs (by decide +kernel) (pa_cons (pv 0) pa_nil)))) pss_nil)
      (pss_cons (ps_for PassesOwn.never rfl (pi_range1 (by rfl) T.b_range (pa_cons (pv 1) pa_nil)) (pg_name (i := 5) sc__law_row.nd rfl (.inl rfl))
        (pss_one (ps_if (pt_cmpR op_gt (pv 4) pe_int (nomark _)) (pss_cons (ps_expr (pe_bm PySem.F.plainAttrs_list PySem.F.slot_list_append PySem.F.type_list_append mt_append (pv 3) (pa_cons (pe_op op_mod (pv 4) pe_int) pa_nil)))
          (pss_one (ps_set (i := 4) sc__law_row.nd rfl (.inl rfl) (pe_op op_fdiv (pv 4) pe_int)))) (pss_cons (ps_set (i := 6) sc__law_row.nd rfl (.inl rfl) (pe_op op_add (pe_op op_add (pe_op op_mul (pe_op op_add (pe_op op_mod (pv 0) pe_int) pe_int) (pe_op op_add (pv 2) (pe_op op_mul pe_int (pv 5)))) (pe_op op_mul pe_int (pv 5))) (pv 2)))
          (pss_cons (ps_set (i := 6) sc__law_row.nd rfl (.inl rfl) (pe_op op_mod (pe_op op_pow (pe_op op_mod (pv 6) pe_int) pe_int) pe_int))
          (pss_one (ps_expr (pe_bm PySem.F.plainAttrs_list PySem.F.slot_list_append PySem.F.type_list_append mt_append (pv 3) (pa_cons (pe_op op_fdiv (pe_op op_mod (pe_op op_pow (pe_op op_add (pv 6) (pv 5)) pe_int) pe_int) pe_int) pa_nil)))))))))
      (pss_one (ps_ret (pv 3))))))), ?_⟩
    refine ⟨Nat.zero_le _, fun l hl => ?_⟩
    have S0 := same_new (o := .lst []) hl
    refine ⟨fun σ' H' => ∃ r : Int, σ' = [some (.int c), some (.int (m : Nat)), some (.int sl), some (.ref l), some (.int r), none, none] ∧ 0 ≤ r ∧ H' = upd H l (.lst []), ?_, ?_⟩
    · refine ⟨_, rfl, c, rfl, 10, 18, rfl, rfl, ⟨by decide, by decide, by decide⟩, _, _, rfl, rfl, _, rfl, ite2 (fun e => ?_) (fun e => ?_)⟩
      · exact ⟨_, rfl, c, rfl, _, rfl, by omega, rfl⟩
      · exact ⟨0, rfl, Int.le_refl _, rfl⟩
    · rintro σ H1 ⟨r, rfl, r0, rfl⟩
      refine ⟨_, rfl, _, rfl, by omega, by omega, ?_⟩
      rw [Int.toNat_natCast]
      refine for_range (lo := 0) (n := m) (fun i σ H' => ∃ (r : Int) (ns : List Int) (t5 t6 : Option V), σ = [some (.int c), some (.int (m : Nat)), some (.int sl), some (.ref l), some (.int r), t5, t6] ∧ 0 ≤ r ∧ Same H H' ∧ H' l = some (.lst (ns.map V.int)) ∧ ns.length = i ∧ ∀ z ∈ ns, 0 ≤ z ∧ z < 134217728) ⟨r, [], _, _, rfl, r0, S0, upd_same, rfl, fun _ z => nomatch z⟩ ?_ ?_
      · rintro i σ H2 hi ⟨r, ns, t5, t6, rfl, r0, S2, h2, ln, hz⟩
        have step : ∀ z : Int, 0 ≤ z → z < 134217728 → Same H (upd H2 l (.lst (ns.map V.int ++ [.int z]))) ∧ upd H2 l (.lst (ns.map V.int ++ [.int z])) l = some (.lst ((ns ++ [z]).map V.int)) ∧ (ns ++ [z]).length = i + 1 ∧ ∀ y ∈ ns ++ [z], 0 ≤ y ∧ y < 134217728 := fun z z0 z1 => by
          refine ⟨fun b o e => ?_, by rw [upd_same, List.map_append]; rfl, by rw [List.length_append, ln]; rfl, fun y hy => ?_⟩
          · rw [upd_ne (ne_of_none e hl)]
            exact S2 b o e
          · rcases List.mem_append.mp hy with hy | hy
            · exact hz y hy
            · rw [List.mem_singleton.mp hy]
              exact ⟨z0, z1⟩
        refine ⟨_, rfl, _, _, rfl, rfl, _, rfl, ite2 (fun e => ?_) (fun e => ?_)⟩
        · have c0 := Int.emod_nonneg r (show (1000003 : Int) ≠ 0 by decide)
          have c1 := Int.emod_lt_of_pos r (show (0 : Int) < 1000003 by decide)
          obtain ⟨a1, a2, a3, a4⟩ := step (r % 1000003) c0 (by omega)
          refine ⟨_, rfl, .inl ⟨rfl, _, .inl (.inl h2)⟩, _, rfl, r, 1000003, rfl, rfl, (by show (0 : Int) < 1000003; decide), l, _, _, rfl, rfl, h2, by rw [List.length_map]; exact Evl.sz_lt (by omega), ?_⟩
          exact ⟨_, rfl, r, 1000003, rfl, rfl, ⟨by decide, by decide⟩, _, _, _, _, rfl, Int.ediv_nonneg r0 (by decide), a1, a2, a3, a4⟩
        · have c0 := Int.emod_nonneg c (show (2147483629 : Int) ≠ 0 by decide)
          have c1 := Int.emod_lt_of_pos c (show (0 : Int) < 2147483629 by decide)
          refine ⟨_, rfl, c, 2147483629, rfl, rfl, (by show (0 : Int) < 2147483629; decide), _, 1, rfl, rfl, _, rfl, _, rfl, 48271, _, rfl, rfl, .inl (by decide), _, _, rfl, rfl, _, _, rfl, rfl, .inl ⟨by omega, by omega⟩, _, rfl, 69621, _, rfl, rfl, .inl (by decide), _, _, rfl, rfl, _, rfl, _, _, rfl, rfl, ?_⟩
          refine ⟨_, rfl, _, 2147483647, rfl, rfl, (by show (0 : Int) < 2147483647; decide), _, 5, rfl, rfl, ⟨by decide, by decide, by omega⟩, _, 2147483647, rfl, rfl, (by show (0 : Int) < 2147483647; decide), ?_⟩
          refine ⟨_, rfl, .inl ⟨rfl, _, .inl (.inl h2)⟩, _, rfl, _, rfl, _, _, rfl, rfl, _, 5, rfl, rfl, ⟨by decide, by decide, by omega⟩, _, 2147483629, rfl, rfl, (by show (0 : Int) < 2147483629; decide), _, 16, rfl, rfl, ⟨by decide, by decide⟩, l, _, _, rfl, rfl, h2, by rw [List.length_map]; exact Evl.sz_lt (by omega), ?_⟩
          obtain ⟨a1, a2, a3, a4⟩ := step (((((c % 2147483629 + 1) * (sl + 48271 * (0 + (i : Int))) + 69621 * (0 + (i : Int)) + sl) % 2147483647) ^ Int.toNat 5 % 2147483647 + (0 + (i : Int))) ^ Int.toNat 5 % 2147483629 / 16) (by omega) (by omega)
          exact ⟨_, _, _, _, rfl, r0, a1, a2, a3, a4⟩
      · rintro σ H2 ⟨r, ns, t5, t6, rfl, r0, S2, h2, ln, hz⟩
        exact ⟨_, rfl, q ns l H2 ln hz hl S2 h2⟩
end
end My
set_option Elab.async false
set_option linter.all false
set_option maxRecDepth 100000
set_option maxHeartbeats 4000000
namespace My
open PySem PySem.Spec PyProof.Rows L2
theorem slice_mid {a : List Nat} {i j : Int} (h0 : 0 ≤ i) (h1 : i ≤ j) (h2 : i ≤ a.length) : Txt.slice (SX.S a) (some i) (some j) = SX.S ((a.drop i.toNat).take (j - i).toNat) := by
  rw [← C8.cutS_slice]
  unfold cutS
  have e1 : HT.sIx (SX.S a).length 0 (some i) = i.toNat := by
    rw [SX.S_len]
    show (if i < 0 then _ else min i.toNat _) = _
    rw [if_neg (by omega)]
    omega
  have e2 : HT.sIx (SX.S a).length (SX.S a).length (some j) = min j.toNat a.length := by
    rw [SX.S_len]
    show (if j < 0 then _ else min j.toNat _) = _
    rw [if_neg (by omega)]
  rw [e1, e2]
  show SX.S ((a.drop i.toNat).take (min j.toNat a.length - i.toNat)) = _
  congr 1
  by_cases h : j.toNat ≤ a.length
  · rw [Nat.min_eq_left h]
    congr 1
    omega
  · rw [Nat.min_eq_right (by omega), List.take_of_length_le (by rw [List.length_drop]; omega), List.take_of_length_le (by rw [List.length_drop]; omega)]
/-- the names that the law makes -/
structure NmK (st : List Nat) (at_ : Nat) (ch : Nat → Nat) (tl : Nat → List Nat) : Prop where
  l5 : st.length = 5
  a5 : at_ ≤ 5
  sl : ∀ c ∈ st, c ∈ letters26
  cl : ∀ k, ch k ∈ letters26
  ci : ∀ i j, i < 6 → j < 6 → ch i = ch j → i = j
  ta : ∀ k, ∀ c ∈ tl k, c ∈ letters26
  tn : ∀ k, at_ + 1 + (tl k).length ≤ 6
def nmK (st : List Nat) (at_ : Nat) (ch : Nat → Nat) (tl : Nat → List Nat) (k : Nat) : List Nat := st.take at_ ++ [ch k] ++ tl k
theorem NmK.at_ {st : List Nat} {a : Nat} {ch : Nat → Nat} {tl : Nat → List Nat} (h : NmK st a ch tl) (k : Nat) : (nmK st a ch tl k)[a]? = some (ch k) := by
  unfold nmK
  have := h.a5
  have := h.l5
  rw [List.getElem?_append_left (by rw [List.length_append, List.length_take]; show a < min a st.length + 1; omega), List.getElem?_append_right (by rw [List.length_take]; omega)]
  rw [List.length_take]
  have e : a - min a st.length = 0 := by omega
  rw [e]
  rfl
theorem NmK.ok {st : List Nat} {a : Nat} {ch : Nat → Nat} {tl : Nat → List Nat} (h : NmK st a ch tl) (k : Nat) : okName (nmK st a ch tl k) := by
  have l5 := h.l5
  have a5 := h.a5
  have tn := h.tn k
  refine ⟨?_, ?_, fun c hc => ?_⟩
  · unfold nmK
    rw [List.length_append, List.length_append]
    show 1 ≤ _ + 1 + _
    omega
  · unfold nmK
    rw [List.length_append, List.length_append, List.length_take]
    show min a st.length + 1 + (tl k).length ≤ 6
    omega
  · unfold nmK at hc
    rcases List.mem_append.mp hc with hc | hc
    · rcases List.mem_append.mp hc with hc | hc
      · exact h.sl c (List.mem_of_mem_take hc)
      · rw [List.mem_singleton.mp hc]
        exact h.cl k
    · exact h.ta k c hc
theorem NmK.names {st : List Nat} {a : Nat} {ch : Nat → Nat} {tl : Nat → List Nat} (h : NmK st a ch tl) {n : Nat} (hn : n ≤ 6) : okNames ((List.range n).map (nmK st a ch tl)) := by
  refine ⟨List.pairwise_map.mpr ((List.nodup_range (n := n)).imp_of_mem fun {i j} hi hj ne e => ?_), fun w hw => ?_⟩
  · have h1 := h.at_ i
    rw [e, h.at_ j] at h1
    have := h.ci j i (by have := List.mem_range.mp hj; omega) (by have := List.mem_range.mp hi; omega) (Option.some.inj h1)
    exact ne this.symm
  · obtain ⟨k, _, rfl⟩ := List.mem_map.mp hw
    exact h.ok k
/-- six names, the second one another -/
def six (f : Nat → List Nat) (a b : List Nat) : List (List Nat) := [a, b, f 2, f 3, f 4, f 5]
theorem NmK.more {st : List Nat} {a : Nat} {ch : Nat → Nat} {tl : Nat → List Nat} (h : NmK st a ch tl) {c : Nat} (hc : c ∈ letters26) (l6 : (nmK st a ch tl 0).length < 6) :
    okNames (six (nmK st a ch tl) (nmK st a ch tl 0) (nmK st a ch tl 0 ++ [c])) ∧ okNames (six (nmK st a ch tl) (nmK st a ch tl 0 ++ [c]) (nmK st a ch tl 0)) := by
  have o0 := h.ok 0
  have o1 : okName (nmK st a ch tl 0 ++ [c]) := by
    refine ⟨by rw [List.length_append]; show 1 ≤ _ + 1; omega, by rw [List.length_append]; show _ + 1 ≤ 6; omega, fun x hx => ?_⟩
    rcases List.mem_append.mp hx with hx | hx
    · exact o0.a x hx
    · rw [List.mem_singleton.mp hx]
      exact hc
  have ne0 : nmK st a ch tl 0 ≠ nmK st a ch tl 0 ++ [c] := fun z => by
    have := congrArg List.length z
    rw [List.length_append] at this
    have : (nmK st a ch tl 0).length = (nmK st a ch tl 0).length + 1 := this
    omega
  have at1 : (nmK st a ch tl 0 ++ [c])[a]? = some (ch 0) := by
    have h0 := h.at_ 0
    rw [List.getElem?_append_left (List.getElem?_eq_some_iff.mp h0).1]
    exact h0
  have nek : ∀ i j, i < 6 → j < 6 → i ≠ j → nmK st a ch tl i ≠ nmK st a ch tl j := fun i j hi hj ne e => by
    have h1 := h.at_ i
    rw [e, h.at_ j] at h1
    exact ne (h.ci j i hj hi (Option.some.inj h1)).symm
  have ne1 : ∀ j, j < 6 → j ≠ 0 → nmK st a ch tl 0 ++ [c] ≠ nmK st a ch tl j := fun j hj ne e => by
    rw [e, h.at_ j] at at1
    exact ne (h.ci j 0 hj (by decide) (Option.some.inj at1))
  constructor
  · refine ⟨?_, fun w hw => ?_⟩
    · unfold six
      simp only [List.nodup_cons, List.mem_cons, List.not_mem_nil, or_false, not_or, List.nodup_nil, and_true]
      refine ⟨⟨ne0, nek 0 2 (by decide) (by decide) (by decide), nek 0 3 (by decide) (by decide) (by decide), nek 0 4 (by decide) (by decide) (by decide), nek 0 5 (by decide) (by decide) (by decide)⟩, ⟨ne1 2 (by decide) (by decide), ne1 3 (by decide) (by decide), ne1 4 (by decide) (by decide), ne1 5 (by decide) (by decide)⟩, ⟨nek 2 3 (by decide) (by decide) (by decide), nek 2 4 (by decide) (by decide) (by decide), nek 2 5 (by decide) (by decide) (by decide)⟩, ⟨nek 3 4 (by decide) (by decide) (by decide), nek 3 5 (by decide) (by decide) (by decide)⟩, nek 4 5 (by decide) (by decide) (by decide), fun z => z⟩
    · unfold six at hw
      simp only [List.mem_cons, List.not_mem_nil, or_false] at hw
      rcases hw with rfl | rfl | rfl | rfl | rfl | rfl
      · exact o0
      · exact o1
      all_goals exact h.ok _
  · refine ⟨?_, fun w hw => ?_⟩
    · unfold six
      simp only [List.nodup_cons, List.mem_cons, List.not_mem_nil, or_false, not_or, List.nodup_nil, and_true]
      refine ⟨⟨ne0.symm, ne1 2 (by decide) (by decide), ne1 3 (by decide) (by decide), ne1 4 (by decide) (by decide), ne1 5 (by decide) (by decide)⟩, ⟨nek 0 2 (by decide) (by decide) (by decide), nek 0 3 (by decide) (by decide) (by decide), nek 0 4 (by decide) (by decide) (by decide), nek 0 5 (by decide) (by decide) (by decide)⟩, ⟨nek 2 3 (by decide) (by decide) (by decide), nek 2 4 (by decide) (by decide) (by decide), nek 2 5 (by decide) (by decide) (by decide)⟩, ⟨nek 3 4 (by decide) (by decide) (by decide), nek 3 5 (by decide) (by decide) (by decide)⟩, nek 4 5 (by decide) (by decide) (by decide), fun z => z⟩
    · unfold six at hw
      simp only [List.mem_cons, List.not_mem_nil, or_false] at hw
      rcases hw with rfl | rfl | rfl | rfl | rfl | rfl
      · exact o1
      · exact o0
      all_goals exact h.ok _
theorem okNames.take {ws : List (List Nat)} (h : okNames ws) (n : Nat) : okNames (ws.take n) := ⟨h.nd.sublist (List.take_sublist n ws), fun w hw => h.ok w (List.mem_of_mem_take hw)⟩
def sp_namesK : Sp := fun vs H Q _ => ∃ (rl : Addr) (ns : List Int), vs = [.ref rl, .int 6] ∧ H rl = some (.lst (ns.map V.int)) ∧ 10 ≤ ns.length ∧ ns.length ≤ 1000 ∧ (∀ z ∈ ns, 0 ≤ z ∧ z < 134217728) ∧
  ∀ (ws : List (List Nat)) l H', okNames ws → ws.length = 6 → H l = none → Same H H' → H' l = some (.lst (nmV ws)) → Q (.ref l) H'
theorem let_at {z : Int} (h0 : 0 ≤ z) (h1 : z < 26) : ∃ c, atI letters26 z = some c ∧ c ∈ letters26 ∧ letters26[z.toNat]? = some c := by
  obtain ⟨c, hc, mc⟩ := ix_some letters26 h0 (by rw [len26]; exact h1)
  refine ⟨c, hc, mc, ?_⟩
  have : z.toNat < letters26.length := by rw [len26]; omega
  have e : letters26[z.toNat]? = some letters26[z.toNat] := List.getElem?_eq_getElem this
  have h := atI_nat e
  rw [Int.toNat_of_nonneg h0, hc] at h
  rw [e, ← h]
/-- the letters of six names are unlike -/
theorem ch_inj {st r : Int} (hs : st = 7 ∨ st = 19 ∨ st = 3 ∨ st = 23) {i j : Nat} (hi : i < 6) (hj : j < 6) (h : (letters26[((r + st * (i : Int)) % 26).toNat]?).getD 97 = (letters26[((r + st * (j : Int)) % 26).toNat]?).getD 97) : i = j := by
  have b1 := Int.emod_nonneg (r + st * (i : Int)) (show (26 : Int) ≠ 0 by decide)
  have b2 := Int.emod_lt_of_pos (r + st * (i : Int)) (show (0 : Int) < 26 by decide)
  have b3 := Int.emod_nonneg (r + st * (j : Int)) (show (26 : Int) ≠ 0 by decide)
  have b4 := Int.emod_lt_of_pos (r + st * (j : Int)) (show (0 : Int) < 26 by decide)
  obtain ⟨c1, _, _, h1⟩ := let_at b1 b2
  obtain ⟨c2, _, _, h2⟩ := let_at b3 b4
  rw [h1, h2] at h
  have h : c1 = c2 := h
  subst h
  have e := (List.getElem?_inj (by rw [len26]; omega) nd26).mp (h1.trans h2.symm)
  have e : (r + st * (i : Int)) % 26 = (r + st * (j : Int)) % 26 := by omega
  rcases hs with rfl | rfl | rfl | rfl <;> omega
section
variable {P : Program} {w : World} {K : PySem.W.Frag} {mg : Str → Option Value} {base : Heap}
theorem ok_namesK (T : Txt K mg) (D : Df K mg "_law_names" s__law_names ["row", "count"]) : Cl P w K mg base 2 "_law_names" ["row", "count"] sp_namesK := by
  refine ok_of D sc__law_names (fun vs H Q E h => ?_) (fun f cdv A outer s H vs Q E hr h => ?_)
  · obtain ⟨rl, ns, rfl, _⟩ := h
    rfl
  · obtain ⟨rl, ns, rfl, hl, n10, n1000, hz, q⟩ := h
    refine ⟨_, (pss_cons (ps_set (i := 2) sc__law_names.nd rfl (.inr rfl) pe_str)
      (pss_cons (ps_set (i := 3) sc__law_names.nd rfl (.inl rfl) (pe_join pe_str (pe_lc (own := [("number", 10)]) rfl sc__law_names.nd (pi_list (pe_slice sl_list (pv 0) po_none (po_some pe_int))) (blkOk_by (own := [("number", 10)]) (N := N__law_names) (sc := defScope s__law_names) (by decide +kernel)) (fun _ _ _ _ _ => (pg_name (i := 10) sc__law_names.nd rfl (.inl rfl))) (fun _ _ _ _ _ => pts_nil) (fun _ _ _ _ _ => (pe_ix ix_str (pv 2) (pe_op op_mod (pv 10) pe_int) (fun _ _ => rfl))))))
      (pss_cons (ps_set (i := 4) sc__law_names.nd rfl (.inl rfl) (pe_op op_mod (pe_ix ix_list (pv 0) pe_int (fun _ _ => rfl)) pe_int))
      (pss_cons (ps_set (i := 5) sc__law_names.nd rfl (.inl rfl) (pe_ix ix_list (pe_lst (pa_cons pe_int (pa_cons pe_int (pa_cons pe_int (pa_cons pe_int pa_nil))))) (pe_op op_mod (pe_ix ix_list (pv 0) pe_int (fun _ _ => rfl)) pe_int) (fun _ _ => rfl)))
      (pss_cons (ps_set (i := 6) sc__law_names.nd rfl (.inl rfl) (pe_lst pa_nil))
      (pss_cons (ps_for PassesOwn.never rfl (pi_range1 (by rfl) T.b_range (pa_cons (pv 1) pa_nil)) (pg_name (i := 7) sc__law_names.nd rfl (.inl rfl))
        (pss_cons (ps_set (i := 8) sc__law_names.nd rfl (.inl rfl) (pe_op op_mod (pe_op op_fdiv (pe_ix ix_list (pv 0) pe_int (fun _ _ => rfl)) (pe_op op_add pe_int (pe_op op_mul pe_int (pv 7)))) (pe_op op_sub pe_int (pv 4))))
        (pss_cons (ps_set (i := 9) sc__law_names.nd rfl (.inl rfl) (pe_ix ix_str (pv 2) (pe_op op_mod (pe_op op_add (pe_ix ix_list (pv 0) pe_int (fun _ _ => rfl)) (pe_op op_mul (pv 5) (pv 7))) pe_int) (fun _ _ => rfl)))
        (pss_one (ps_expr (pe_bm PySem.F.plainAttrs_list PySem.F.slot_list_append PySem.F.type_list_append mt_append (pv 6) (pa_cons (pe_op op_add_str (pe_op op_add_str (pe_slice C8.sl_txt (pv 3) po_none (po_some (pv 4))) (pv 9)) (pe_slice C8.sl_txt (pv 3) (po_some (pv 4)) (po_some (pe_op op_add (pv 4) (pv 8))))) pa_nil)))))))
      (C8.pss_cut (ps_if (PW.pt (pw_and (pt_cmpR op_gt (pv 1) pe_int (nomark _)) (pw_and (pt_cmpR op_eq (pe_op op_mod (pe_ix ix_list (pv 0) pe_int (fun _ _ => rfl)) pe_int) pe_int (nomark _)) (pw_and1 (pt_cmpR op_lt (pe_callB call_len (by rfl) T.b_len (by decide +kernel) (pa_cons (pe_ix ix_list (pv 6) pe_int (fun _ _ => rfl)) pa_nil)) pe_int (nomark _)))))) (pss_cons (ps_asg (pe_op op_add_str (pe_ix ix_list (pv 6) pe_int (fun _ _ => rfl)) (pe_ix ix_str (pv 2) (pe_op op_mod (pe_op op_fdiv (pe_ix ix_list (pv 0) pe_int (fun _ _ => rfl)) pe_int) pe_int) (fun _ _ => rfl))) (pg_sub (pv 6) pe_int set_list))
        (pss_one (ps_if (pt_cmpR op_eq (pe_op op_mod (pe_op op_fdiv (pe_ix ix_list (pv 0) pe_int (fun _ _ => rfl)) pe_int) pe_int) pe_int (nomark _)) (pss_one (ps_asg (pe_tup (pa_cons (pe_ix ix_list (pv 6) pe_int (fun _ _ => rfl)) (pa_cons (pe_ix ix_list (pv 6) pe_int (fun _ _ => rfl)) pa_nil))) (pg_tup rfl (pgs_cons (pg_sub (pv 6) pe_int set_list) (pgs_cons (pg_sub (pv 6) pe_int set_list) pgs_nil))))) pss_nil))) pss_nil)
      (pss_one (ps_ret (pv 6)))))))))), ?_⟩
    have lns : (ns.map V.int).length = ns.length := List.length_map ..
    have get : ∀ i, i < 10 → ∃ z, (ns.map V.int)[i]? = some (.int z) ∧ 0 ≤ z ∧ z < 134217728 := fun i hi => by
      have h1 : ns[i]? = some ns[i] := List.getElem?_eq_getElem (by omega)
      exact ⟨ns[i], by rw [List.getElem?_map, h1]; rfl, hz _ (List.getElem_mem _)⟩
    -- stem
    refine ⟨⟨_, rfl⟩, _, rfl, 5, rfl, rl, _, rfl, .inl (.inl hl), fun sl hsl => ?_⟩
    have S1 := same_new (o := .lst (cutV (ns.map V.int) none (some 5))) hsl
    have c5 : cutV (ns.map V.int) none (some 5) = (ns.take 5).map V.int := by
      unfold cutV
      have e2 : HT.sIx (ns.map V.int).length (ns.map V.int).length (some 5) = 5 := by
        show (if (5 : Int) < 0 then ((5 : Int) + ((ns.map V.int).length : Int)).toNat else min (5 : Int).toNat (ns.map V.int).length) = 5
        rw [if_neg (by decide), lns]
        show min 5 ns.length = 5
        omega
      rw [e2, HT.sIx_none, List.drop_zero, List.map_take]
    have es := upd_same (H := H) (a := sl) (o := .lst (cutV (ns.map V.int) none (some 5)))
    rw [c5] at S1 es
    rw [c5]
    generalize upd H sl (.lst ((ns.take 5).map V.int)) = H1 at S1 es ⊢
    refine ⟨sl, rfl, ⟨_, .inl (.inl es)⟩, fun Dl hDl => ?_⟩
    refine lc_it (walk_list (xs := (ns.take 5).map V.int)) (fun i H' => ∃ cs : List Nat, cs.length = i ∧ (∀ c ∈ cs, c ∈ letters26) ∧ Same H1 H' ∧ H' Dl = some (.lst (cs.map fun c => .str ⟨#[c]⟩))) ⟨[], rfl, (fun _ z => nomatch z), same_new hDl, upd_same⟩ (fun i H' _ ⟨_, _, _, z, _⟩ => .inl (.inl (z _ _ es))) ?_ ?_
    · rintro i y H2' H2 hi ⟨cs, lc, ca, S2, hD⟩ ⟨rfl, hy⟩
      rw [List.length_map, List.length_take] at hi
      obtain ⟨z, hni⟩ : ∃ z, (ns.take 5)[i]? = some z := ⟨_, List.getElem?_eq_getElem (by rw [List.length_take]; exact hi)⟩
      have hy : ((ns.take 5).map V.int)[i]? = some y := hy
      rw [List.getElem?_map, hni] at hy
      cases hy
      obtain ⟨c, hc, mc, _⟩ := let_at (Int.emod_nonneg z (show (26 : Int) ≠ 0 by decide)) (Int.emod_lt_of_pos z (show (0 : Int) < 26 by decide))
      refine ⟨rfl, _, rfl, _, rfl, z, 26, rfl, rfl, (by show (0 : Int) < 26; decide), _, _, c, rfl, rfl, by decide +kernel, hc, _, hD, ?_, cs ++ [c], by rw [List.length_append, lc]; rfl, fun x hx => ?_, ?_, by rw [upd_same, List.map_append]; rfl⟩
      · rw [List.length_map]
        exact sz1000 (by omega)
      · rcases List.mem_append.mp hx with hx | hx
        · exact ca x hx
        · rw [List.mem_singleton.mp hx]
          exact mc
      · exact fun q o e => by
          rw [upd_ne (ne_of_none e hDl)]
          exact S2 q o e
    · rintro H2 ⟨st, lst, sta, S2, hD⟩
      have l5 : st.length = 5 := by
        rw [lst, List.length_map, List.length_take]
        omega
      refine ⟨_, Dl, st.map fun c => (⟨#[c]⟩ : Str), rfl, rfl, .inl (.inl (.inl (by rw [hD, List.map_map]; rfl))), ?_, ?_⟩
      · rw [lens1]
        show st.length + _ * 0 ≤ 16777216
        omega
      rw [join_signs]
      have S12 := S1.trans S2
      have hl2 := S12 _ _ hl
      obtain ⟨r5, g5, z5, _⟩ := get 5 (by decide)
      obtain ⟨r6, g6, z6, _⟩ := get 6 (by decide)
      obtain ⟨r7, g7, z7, _⟩ := get 7 (by decide)
      obtain ⟨r8, g8, z8, _⟩ := get 8 (by decide)
      obtain ⟨r9, g9, z9, _⟩ := get 9 (by decide)
      -- at, step
      refine ⟨_, rfl, rl, _, 5, _, rfl, rfl, .inl (.inl hl2), atI_nat (j := 5) g5, r5, 6, rfl, rfl, (by show (0 : Int) < 6; decide), ?_⟩
      have a0 := Int.emod_nonneg r5 (show (6 : Int) ≠ 0 by decide)
      have a1 := Int.emod_lt_of_pos r5 (show (0 : Int) < 6 by decide)
      refine ⟨by show 4 ≤ sizeLine; decide, fun ql hql => ?_⟩
      have S3 := S12.trans (same_new (o := .lst [.int 7, .int 19, .int 3, .int 23]) hql)
      have hl3 := S3 _ _ hl
      have b0 := Int.emod_nonneg r8 (show (4 : Int) ≠ 0 by decide)
      have b1 := Int.emod_lt_of_pos r8 (show (0 : Int) < 4 by decide)
      obtain ⟨sp, hsp, msp⟩ := ix_int (ns := [7, 19, 3, 23]) b0 b1
      have hsp4 : sp = 7 ∨ sp = 19 ∨ sp = 3 ∨ sp = 23 := by
        simp only [List.mem_cons, List.not_mem_nil, or_false] at msp
        exact msp
      refine ⟨_, rfl, rl, _, 8, _, rfl, rfl, .inl (.inl hl3), atI_nat (j := 8) g8, r8, 4, rfl, rfl, (by show (0 : Int) < 4; decide), ql, _, _, _, rfl, rfl, .inl (.inl upd_same), hsp, ?_⟩
      generalize upd H2 ql (.lst [.int 7, .int 19, .int 3, .int 23]) = H3 at S3 hl3 ⊢
      refine ⟨Nat.zero_le _, fun nl hnl => ?_⟩
      have S4 := S3.trans (same_new (o := .lst []) hnl)
      have hl4 := S4 _ _ hl
      have NK : NmK st (r5 % 6).toNat (fun k => (letters26[((r7 + sp * (k : Int)) % 26).toNat]?).getD 97) (fun k => (st.drop (r5 % 6).toNat).take (r6 / (1 + 2 * (k : Int)) % (6 - r5 % 6)).toNat) := by
        refine ⟨l5, by omega, sta, fun k => ?_, fun i j hi hj h => ch_inj hsp4 hi hj h, fun k c hc => sta c (List.mem_of_mem_drop (List.mem_of_mem_take hc)), fun k => ?_⟩
        · obtain ⟨c, _, mc, h1⟩ := let_at (Int.emod_nonneg (r7 + sp * (k : Int)) (show (26 : Int) ≠ 0 by decide)) (Int.emod_lt_of_pos (r7 + sp * (k : Int)) (show (0 : Int) < 26 by decide))
          show (letters26[((r7 + sp * (k : Int)) % 26).toNat]?).getD 97 ∈ letters26
          rw [h1]
          exact mc
        · show _ + 1 + ((st.drop (r5 % 6).toNat).take _).length ≤ 6
          have := List.length_take_le (r6 / (1 + 2 * (k : Int)) % (6 - r5 % 6)).toNat (st.drop (r5 % 6).toNat)
          have h2 : ((st.drop (r5 % 6).toNat).take (r6 / (1 + 2 * (k : Int)) % (6 - r5 % 6)).toNat).length ≤ (st.drop (r5 % 6).toNat).length := List.length_take_le' ..
          rw [List.length_drop, l5] at h2
          omega
      generalize hch : (fun k : Nat => (letters26[((r7 + sp * (k : Int)) % 26).toNat]?).getD 97) = ch at NK
      generalize htl : (fun k : Nat => (st.drop (r5 % 6).toNat).take (r6 / (1 + 2 * (k : Int)) % (6 - r5 % 6)).toNat) = tl at NK
      generalize hA : (r5 % 6).toNat = A at NK htl
      have lst5 : st.length ≤ 1000 := by omega
      refine ⟨_, rfl, _, rfl, by decide, by decide, for_range (lo := 0) (n := 6) (fun i σ H' => ∃ (t7 t8 t9 t10 : Option V), σ = [some (.ref rl), some (.int 6), some (.str "abcdefghijklmnopqrstuvwxyz"), some (.str (SX.S st)), some (.int (r5 % 6)), some (.int sp), some (.ref nl), t7, t8, t9, t10] ∧ Same H H' ∧ H' nl = some (.lst (nmV ((List.range i).map (nmK st A ch tl))))) ⟨_, _, _, _, rfl, S4, upd_same⟩ ?_ ?_⟩
      · rintro i σ H5 hi ⟨t7, t8, t9, t10, rfl, S5, h5⟩
        have hl5 := S5 _ _ hl
        have zi : (0 : Int) + (i : Int) = i := Int.zero_add _
        obtain ⟨c, hc, mc, hc'⟩ := let_at (Int.emod_nonneg (r7 + sp * (0 + (i : Int))) (show (26 : Int) ≠ 0 by decide)) (Int.emod_lt_of_pos (r7 + sp * (0 + (i : Int))) (show (0 : Int) < 26 by decide))
        have lg0 := Int.emod_nonneg (r6 / (1 + 2 * (0 + (i : Int)))) (show (6 - r5 % 6 : Int) ≠ 0 by omega)
        refine ⟨_, rfl, rl, _, 6, _, rfl, rfl, .inl (.inl hl5), atI_nat (j := 6) g6, _, rfl, 2, _, rfl, rfl, .inl (by decide), 1, _, rfl, rfl, _, _, rfl, rfl, ⟨by omega, by omega⟩, _, rfl, 6, _, rfl, rfl, _, _, rfl, rfl, (by show (0 : Int) < 6 - r5 % 6; omega), ?_⟩
        refine ⟨_, rfl, _, rfl, rl, _, 7, _, rfl, rfl, .inl (.inl hl5), atI_nat (j := 7) g7, _, rfl, _, rfl, _, _, rfl, rfl, .inl (by rcases hsp4 with h | h | h | h <;> rw [h] <;> decide), _, _, rfl, rfl, _, 26, rfl, rfl, (by show (0 : Int) < 26; decide), _, _, c, rfl, rfl, by decide +kernel, hc, ?_⟩
        refine ⟨_, rfl, .inl ⟨rfl, _, .inl (.inl h5)⟩, _, rfl, _, rfl, _, rfl, SX.S st, rfl, S_le lst5, _, rfl, _, _, rfl, rfl, ?_, ?_⟩
        · rw [SX.slice_to a0, SX.S_len, List.length_take]
          exact Evl.sz_of (show min _ _ + 1 ≤ _ by omega)
        · rw [SX.slice_to a0, show (⟨#[c]⟩ : Str) = SX.S [c] from rfl, SX.S_cat]
          refine ⟨_, rfl, _, rfl, _, rfl, _, rfl, _, rfl, _, _, rfl, rfl, _, rfl, SX.S st, rfl, S_le lst5, ?_⟩
          rw [slice_mid (i := r5 % 6) (j := r5 % 6 + r6 / (1 + 2 * (0 + (i : Int))) % (6 - r5 % 6)) a0 (by omega) (by omega)]
          have e1 : (st.drop (r5 % 6).toNat).take (r5 % 6 + r6 / (1 + 2 * (0 + (i : Int))) % (6 - r5 % 6) - r5 % 6).toNat = tl i := by
            rw [← htl, zi, hA]
            show _ = (st.drop A).take (r6 / (1 + 2 * (i : Int)) % (6 - r5 % 6)).toNat
            congr 1
            omega
          rw [e1, hA]
          have e2 : c = ch i := by
            rw [← hch]
            show c = (letters26[((r7 + sp * (i : Int)) % 26).toNat]?).getD 97
            rw [← zi, hc']
            rfl
          rw [e2]
          have okn := NK.ok i
          have okl := okn.l1
          refine ⟨_, _, rfl, rfl, ?_, ?_⟩
          · rw [SX.S_len, SX.S_len]
            unfold nmK at okl
            rw [List.length_append] at okl
            exact Evl.sz_of (by omega)
          · rw [SX.S_cat]
            refine ⟨nl, _, _, rfl, rfl, h5, ?_, ?_⟩
            · unfold nmV
              rw [List.length_map, List.length_map, List.length_range]
              exact Evl.sz_lt (by omega)
            · refine ⟨_, _, _, _, rfl, fun b o e => ?_, ?_⟩
              · rw [upd_ne (ne_of_none e (Same.fresh S3 hnl))]
                exact S5 b o e
              · rw [upd_same, List.range_succ, List.map_append]
                unfold nmV
                rw [List.map_append]
                rfl
      · rintro σ H5 ⟨t7, t8, t9, t10, rfl, S5, h5⟩
        -- the second one
        have ok6 := NK.names (Nat.le_refl 6)
        have hnl0 : H nl = none := Same.fresh S3 hnl
        have e6 : (List.range 6).map (nmK st A ch tl) = six (nmK st A ch tl) (nmK st A ch tl 0) (nmK st A ch tl 1) := rfl
        have hl5 := S5 _ _ hl
        rw [e6] at h5
        refine ⟨fun σ' H' => ∃ (ws : List (List Nat)) (t7 t8 t9 t10 : Option V), σ' = [some (.ref rl), some (.int 6), some (.str "abcdefghijklmnopqrstuvwxyz"), some (.str (SX.S st)), some (.int (r5 % 6)), some (.int sp), some (.ref nl), t7, t8, t9, t10] ∧ okNames ws ∧ ws.length = 6 ∧ Same H H' ∧ H' nl = some (.lst (nmV ws)), ?_, ?_⟩
        · have fin0 : ∃ (ws : List (List Nat)) (t7' t8' t9' t10' : Option V), [some (V.ref rl), some (.int 6), some (.str "abcdefghijklmnopqrstuvwxyz"), some (.str (SX.S st)), some (.int (r5 % 6)), some (.int sp), some (.ref nl), t7, t8, t9, t10] = [some (V.ref rl), some (.int 6), some (.str "abcdefghijklmnopqrstuvwxyz"), some (.str (SX.S st)), some (.int (r5 % 6)), some (.int sp), some (.ref nl), t7', t8', t9', t10'] ∧ okNames ws ∧ ws.length = 6 ∧ Same H H5 ∧ H5 nl = some (.lst (nmV ws)) := ⟨_, _, _, _, _, rfl, e6 ▸ ok6, rfl, S5, h5⟩
          have SQ5 : H5 nl = some (.lst (nmV (six (nmK st A ch tl) (nmK st A ch tl 0) (nmK st A ch tl 1)))) := h5
          refine ⟨_, rfl, _, _, rfl, rfl, _, rfl, ite2 (fun _ => ?_) (fun _ => ite2 (fun z => absurd z Bool.false_ne_true) fun _ => fin0)⟩
          refine ⟨_, rfl, rl, _, 9, _, rfl, rfl, .inl (.inl hl5), atI_nat (j := 9) g9, _, 3, rfl, rfl, (by show (0 : Int) < 3; decide), rfl, _, rfl, ite2 (fun _ => ?_) (fun _ => ite2 (fun z => absurd z Bool.false_ne_true) fun _ => fin0)⟩
          have okn0 := NK.ok 0
          have okl0 := okn0.l1
          refine ⟨_, rfl, nl, _, 0, .str (SX.S (nmK st A ch tl 0)), rfl, rfl, .inl (.inl h5), atI_nat (j := 0) rfl, _, _, rfl, ⟨S_le (by omega), rfl⟩, _, 6, rfl, rfl, _, rfl, ite2 (fun e9 => ?_) (fun _ => fin0)⟩
          have l6 : (nmK st A ch tl 0).length < 6 := by
            have := of_decide_eq_true e9
            rw [SX.S_len] at this
            omega
          obtain ⟨c2, hc2, mc2, _⟩ := let_at (Int.emod_nonneg (r9 / 3) (show (26 : Int) ≠ 0 by decide)) (Int.emod_lt_of_pos (r9 / 3) (show (0 : Int) < 26 by decide))
          obtain ⟨okA, okB⟩ := NK.more mc2 l6
          refine ⟨_, rfl, nl, _, 0, .str (SX.S (nmK st A ch tl 0)), rfl, rfl, .inl (.inl h5), atI_nat (j := 0) rfl, _, rfl, _, rfl, rl, _, 9, _, rfl, rfl, .inl (.inl hl5), atI_nat (j := 9) g9, _, 3, rfl, rfl, ⟨by decide, by decide⟩, _, 26, rfl, rfl, (by show (0 : Int) < 26; decide), _, _, c2, rfl, rfl, by decide +kernel, hc2, _, _, rfl, rfl, ?_, ?_⟩
          · rw [SX.S_len]
            exact Evl.sz_of (show _ + 1 ≤ _ by omega)
          rw [show (⟨#[c2]⟩ : Str) = SX.S [c2] from rfl, SX.S_cat]
          refine ⟨_, rfl, nl, _, 1, 1, rfl, rfl, h5, rfl, ?_⟩
          have h6 : upd H5 nl (.lst ((nmV (six (nmK st A ch tl) (nmK st A ch tl 0) (nmK st A ch tl 1))).set 1 (.str (SX.S (nmK st A ch tl 0 ++ [c2]))))) nl = some (.lst (nmV (six (nmK st A ch tl) (nmK st A ch tl 0) (nmK st A ch tl 0 ++ [c2])))) := upd_same
          have S6 : Same H (upd H5 nl (.lst ((nmV (six (nmK st A ch tl) (nmK st A ch tl 0) (nmK st A ch tl 1))).set 1 (.str (SX.S (nmK st A ch tl 0 ++ [c2])))))) := fun b o e => by
            rw [upd_ne (ne_of_none e hnl0)]
            exact S5 b o e
          generalize upd H5 nl (.lst ((nmV (six (nmK st A ch tl) (nmK st A ch tl 0) (nmK st A ch tl 1))).set 1 (.str (SX.S (nmK st A ch tl 0 ++ [c2]))))) = H6 at h6 S6 ⊢
          have hl6 := S6 _ _ hl
          refine ⟨_, rfl, rl, _, 9, _, rfl, rfl, .inl (.inl hl6), atI_nat (j := 9) g9, _, 78, rfl, rfl, ⟨by decide, by decide⟩, _, 2, rfl, rfl, (by show (0 : Int) < 2; decide), rfl, _, rfl, ite2 (fun _ => ?_) (fun _ => ⟨_, _, _, _, _, rfl, okA, rfl, S6, h6⟩)⟩
          refine ⟨_, rfl, nl, _, 1, .str (SX.S (nmK st A ch tl 0 ++ [c2])), rfl, rfl, .inl (.inl h6), atI_nat (j := 1) rfl, _, rfl, nl, _, 0, .str (SX.S (nmK st A ch tl 0)), rfl, rfl, .inl (.inl h6), atI_nat (j := 0) rfl, by show 2 ≤ sizeLine; decide, fun t ht => ?_⟩
          have S7 := same_new (o := .tup [.str (SX.S (nmK st A ch tl 0 ++ [c2])), .str (SX.S (nmK st A ch tl 0))]) ht
          have h7 := S7 _ _ h6
          refine ⟨t, _, rfl, .inl (.inl upd_same), rfl, _, _, rfl, _, rfl, nl, _, 0, 0, rfl, rfl, h7, rfl, _, _, rfl, _, rfl, nl, _, 1, 1, rfl, rfl, upd_same, rfl, rfl, ?_⟩
          refine ⟨_, _, _, _, _, rfl, okB, rfl, fun b o e => ?_, upd_same⟩
          rw [upd_ne (ne_of_none e hnl0), upd_ne (ne_of_none e hnl0)]
          exact S7 _ _ (S6 b o e)
        · rintro σ H6 ⟨ws, t7, t8, t9, t10, rfl, okw, lw, S6, h6⟩
          exact ⟨_, rfl, q ws nl H6 okw lw hnl0 S6 h6⟩
end
end My
set_option Elab.async false
set_option linter.all false
set_option maxRecDepth 100000
set_option maxHeartbeats 4000000
namespace My
open PySem PySem.Spec PyProof.Rows L2
/-- a book as the law makes it -/
def bkLD (b : List Nat × List (List Int)) : PyData := .tuple [.str (SX.S b.1), bookD b.2]
def bksLD (B : Bks) : PyData := .list (B.map bkLD)
structure smBk (b : List Nat × List (List Int)) : Prop where
  c0 : 1 ≤ b.2.length
  c1 : b.2.length ≤ 3
  r : ∀ c ∈ b.2, 1 ≤ c.length ∧ c.length ≤ 5 ∧ ∀ x ∈ c, 1 ≤ x ∧ x ≤ 4
theorem smBk.ok {B : Bks} (h : ∀ b ∈ B, smBk b) (nm : okNames (B.map (·.1))) (l0 : 1 ≤ B.length) (l1 : B.length ≤ 6) : okBks B := by
  refine ⟨l0, l1, nm.nd, fun b hb => nm.ok _ (List.mem_map_of_mem hb), fun b hb => ⟨(h b hb).c0, by have := (h b hb).c1; omega, fun c hc => ⟨((h b hb).r c hc).1, by have := ((h b hb).r c hc).2.1; omega, ((h b hb).r c hc).2.2⟩⟩, ?_, ?_⟩
  · have key : ∀ T : Bks, (∀ b ∈ T, b.2.length ≤ 3) → (T.map fun b => b.2.length).sum ≤ 3 * T.length := by
      intro T
      induction T with
      | nil => intro _; simp
      | cons b T ih =>
        intro k
        have := ih fun x hx => k x (List.mem_cons_of_mem _ hx)
        have := k b (List.mem_cons_self ..)
        rw [List.map_cons, List.sum_cons, List.length_cons]
        omega
    have := key B fun b hb => (h b hb).c1
    omega
  · have key1 : ∀ b : List (List Int), (∀ c ∈ b, c.length ≤ 5 ∧ ∀ x ∈ c, x ≤ 4) → (b.map List.sum).sum ≤ 20 * (b.length : Int) := by
      intro b
      induction b with
      | nil => intro _; simp
      | cons c b ih =>
        intro k
        have h1 := ih fun x hx => k x (List.mem_cons_of_mem _ hx)
        obtain ⟨k1, k2⟩ := k c (List.mem_cons_self ..)
        have h2 := sum_le 4 c k2
        rw [List.map_cons, List.sum_cons, List.length_cons]
        omega
    have key : ∀ T : Bks, (∀ b ∈ T, smBk b) → (T.map fun b => (b.2.map List.sum).sum).sum ≤ 60 * (T.length : Int) := by
      intro T
      induction T with
      | nil => intro _; simp
      | cons b T ih =>
        intro k
        have h1 := ih fun x hx => k x (List.mem_cons_of_mem _ hx)
        have kb := k b (List.mem_cons_self ..)
        have h2 := key1 b.2 fun c hc => ⟨(kb.r c hc).2.1, fun x hx => ((kb.r c hc).2.2 x hx).2⟩
        have := kb.c1
        rw [List.map_cons, List.sum_cons, List.length_cons]
        omega
    have := key B h
    omega
def sp_booksK : Sp := fun vs H Q _ => ∃ (S : Av) (c sl : Int), vs = [.int c, .int sl] ∧ 0 ≤ sl ∧ sl ≤ 100000 ∧ Occ S H ∧ ∀ (B : Bks) l H', okBks B → Same H H' → H l = none → At S H' (.ref l) (bksLD B) → Q (.ref l) H'
section
variable {P : Program} {w : World} {K : PySem.W.Frag} {mg : Str → Option Value} {base : Heap}
theorem ok_booksK (T : Txt K mg) (c__law_row : Cl P w K mg base 2 "_law_row" ["cell", "count", "salt"] sp_row) (c__law_names : Cl P w K mg base 2 "_law_names" ["row", "count"] sp_namesK) (D : Df K mg "_law_books" s__law_books ["cell", "salt"]) : Cl P w K mg base 3 "_law_books" ["cell", "salt"] sp_booksK := by
  refine ok_of D sc__law_books (fun vs H Q E h => ?_) (fun f cdv A outer s H vs Q E hr h => ?_)
  · obtain ⟨S, c, sl, rfl, _⟩ := h
    rfl
  · obtain ⟨S, c, sl, rfl, s0, s1, ho, q⟩ := h
    refine ⟨_, (pss_cons (ps_set (i := 2) sc__law_books.nd rfl (.inl rfl) (pe_cl c__law_row hr (by decide) (by rfl) (pa_cons (pv 0) (pa_cons pe_int (pa_cons (pv 1) pa_nil)))))
      (pss_cons (ps_set (i := 3) sc__law_books.nd rfl (.inl rfl) (pe_cl c__law_names hr (by decide) (by rfl) (pa_cons (pv 2) (pa_cons pe_int pa_nil))))
      (pss_cons (ps_if (pt_cmpR op_eq (pe_op op_mod (pe_ix ix_list (pv 2) pe_int (fun _ _ => rfl)) pe_int) pe_int (nomark _)) (pss_one (ps_ret (pe_lst (pa_cons (pe_tup (pa_cons (pe_ix ix_list (pv 3) pe_int (fun _ _ => rfl)) (pa_cons (pe_lc (own := [("k", 6)]) rfl sc__law_books.nd (pi_range1 (by rfl) T.b_range (pa_cons pe_int pa_nil)) (blkOk_by (own := [("k", 6)]) (N := N__law_books) (sc := defScope s__law_books) (by decide +kernel)) (fun _ _ _ _ _ => (pg_name (i := 6) sc__law_books.nd rfl (.inl rfl))) (fun _ _ _ _ _ => pts_nil) (fun _ _ _ _ _ => (pe_op op_rep (pe_lst (pa_cons pe_int pa_nil)) pe_int))) pa_nil))) (pa_cons (pe_tup (pa_cons (pe_ix ix_list (pv 3) pe_int (fun _ _ => rfl)) (pa_cons (pe_lst (pa_cons (pe_op op_rep (pe_lst (pa_cons pe_int pa_nil)) pe_int) pa_nil)) pa_nil))) pa_nil))))) pss_nil)
      (pss_cons (ps_set (i := 4) sc__law_books.nd rfl (.inl rfl) (pe_op op_add pe_int (pe_op op_mod (pe_ix ix_list (pv 2) pe_int (fun _ _ => rfl)) pe_int)))
      (C8.pss_cut (ps_if (pt_cmpR op_eq (pe_op op_mod (pe_ix ix_list (pv 2) pe_int (fun _ _ => rfl)) pe_int) pe_int (nomark _)) (pss_one (ps_set (i := 4) sc__law_books.nd rfl (.inl rfl) pe_int)) pss_nil)
      (pss_cons (ps_set (i := 5) sc__law_books.nd rfl (.inl rfl) (pe_lst pa_nil))
      (pss_cons (ps_for PassesOwn.never rfl (pi_range1 (by rfl) T.b_range (pa_cons (pv 4) pa_nil)) (pg_name (i := 6) sc__law_books.nd rfl (.inl rfl))
        (pss_cons (ps_set (i := 7) sc__law_books.nd rfl (.inl rfl) (pe_lst pa_nil))
        (pss_cons (ps_for PassesOwn.never rfl (pi_range1 (by rfl) T.b_range (pa_cons (pe_op op_add pe_int (pe_op op_mod (pe_ix ix_list (pv 2) (pe_op op_add pe_int (pv 6)) (fun _ _ => rfl)) pe_int)) pa_nil)) (pg_name (i := 8) sc__law_books.nd rfl (.inl rfl))
          (pss_cons (ps_set (i := 9) sc__law_books.nd rfl (.inl rfl) (pe_ix ix_list (pv 2) (pe_op op_add (pe_op op_add pe_int (pe_op op_mul pe_int (pv 6))) (pv 8)) (fun _ _ => rfl)))
          (pss_cons (ps_set (i := 10) sc__law_books.nd rfl (.inl rfl) (pe_op op_add pe_int (pe_op op_mod (pv 9) pe_int)))
          (pss_cons (ps_set (i := 9) sc__law_books.nd rfl (.inl rfl) (pe_op op_fdiv (pv 9) pe_int))
          (pss_cons (ps_expr (pe_bm PySem.F.plainAttrs_list PySem.F.slot_list_append PySem.F.type_list_append mt_append (pv 7) (pa_cons (pe_lst pa_nil) pa_nil)))
          (pss_one (ps_for PassesOwn.never rfl (pi_range1 (by rfl) T.b_range (pa_cons (pv 10) pa_nil)) (pg_name (i := 11) sc__law_books.nd rfl (.inl rfl))
            (pss_cons (ps_expr (pe_bm PySem.F.plainAttrs_list PySem.F.slot_list_append PySem.F.type_list_append mt_append (pe_ix ix_list (pv 7) (pe_un un_neg pe_int) (fun _ _ => rfl)) (pa_cons (pe_op op_add pe_int (pe_op op_mod (pv 9) pe_int)) pa_nil)))
            (pss_one (ps_set (i := 9) sc__law_books.nd rfl (.inl rfl) (pe_op op_fdiv (pv 9) pe_int)))))))))))
        (pss_one (ps_expr (pe_bm PySem.F.plainAttrs_list PySem.F.slot_list_append PySem.F.type_list_append mt_append (pv 5) (pa_cons (pe_tup (pa_cons (pe_ix ix_list (pv 3) (pv 6) (fun _ _ => rfl)) (pa_cons (pv 7) pa_nil))) pa_nil)))))))
      (pss_one (ps_ret (pv 5)))))))))), ?_⟩
    refine ⟨_, rfl, _, rfl, c, 60, sl, rfl, by decide, s0, s1, fun ns rl H1 lns hz hrl S1 erl => ?_⟩
    refine ⟨_, rfl, rl, ns, rfl, erl, by omega, by omega, hz, fun ws nl H2 okw lw hnl S2 enl => ?_⟩
    have S02 := S1.trans S2
    have erl2 := S2 _ _ erl
    have o2 := ho.same S02
    have get : ∀ i, i < 60 → ∃ z, (ns.map V.int)[i]? = some (.int z) ∧ 0 ≤ z ∧ z < 134217728 := fun i hi => by
      have h1 : ns[i]? = some ns[i] := List.getElem?_eq_getElem (by omega)
      exact ⟨ns[i], by rw [List.getElem?_map, h1]; rfl, hz _ (List.getElem_mem _)⟩
    have nm : ∀ i, i < 6 → ∃ w, ws[i]? = some w ∧ (nmV ws)[i]? = some (.str (SX.S w)) := fun i hi => by
      have h1 : ws[i]? = some ws[i] := List.getElem?_eq_getElem (by omega)
      exact ⟨ws[i], h1, by unfold nmV; rw [List.getElem?_map, h1]; rfl⟩
    obtain ⟨r10, g10, z10, _⟩ := get 10 (by decide)
    obtain ⟨r11, g11, z11, _⟩ := get 11 (by decide)
    refine ⟨_, rfl, rl, _, 10, _, rfl, rfl, .inl (.inl erl2), atI_nat (j := 10) g10, _, 16, rfl, rfl, (by show (0 : Int) < 16; decide), rfl, _, rfl, ite2 (fun _ => ?_) (fun _ => ?_)⟩
    · -- 400 parts
      obtain ⟨w0, hw0, e0⟩ := nm 0 (by decide)
      obtain ⟨w1, hw1, e1⟩ := nm 1 (by decide)
      refine ⟨_, rfl, nl, _, 0, _, rfl, rfl, .inl (.inl enl), atI_nat (j := 0) e0, 12, rfl, by decide, by decide, fun Dl hDl => ?_⟩
      refine lc_range (lo := 0) (n := 12) (fun i H' => ∃ rows : List V, LcS S H2 Dl rows (List.replicate i (rowD (List.replicate 30 1))) H') ⟨[], LcS.start hDl⟩ ?_ ?_
      · rintro i H3 hi ⟨rows, L⟩
        refine ⟨rfl, by show 1 ≤ sizeLine; decide, fun b hb => ⟨b, 30, _, rfl, rfl, upd_same, by decide, by decide, by show 1 * 30 ≤ sizeLine; decide, fun a ha => ?_⟩⟩
        have L2 := (L.keep (same_new (o := .lst [.int 1]) hb)).keep (same_new (o := .lst (List.replicate (30 : Int).toNat [V.int 1]).flatten) ha)
        have na : ¬ Plus S Dl a := ((L.keep (same_new (o := .lst [.int 1]) hb)).occ o2).free ha
        have hd : At (Plus S Dl) (upd (upd H3 b (.lst [.int 1])) a (.lst (List.replicate (30 : Int).toNat [V.int 1]).flatten)) (.ref a) (rowD (List.replicate 30 1)) := .ofrow na (by rw [upd_same, rep_int]; rfl)
        have L3 := L2.step hd
        refine ⟨rows, L2.at_, ?_, rows ++ [.ref a], ?_⟩
        · rw [L.len, List.length_replicate]
          exact sz1000 (by omega)
        · rw [List.replicate_succ']
          exact L3
      · rintro H3 ⟨rows, L⟩
        have S3 := L.s
        have nDl : ¬ S Dl := o2.free hDl
        have aD : At S H3 (.ref Dl) (bookD (List.replicate 12 (List.replicate 30 1))) := .lst nDl L.at_ (by rw [List.map_replicate]; exact L.done)
        have o3 := o2.same S3
        refine ⟨by show 2 ≤ sizeLine; decide, fun t1 ht1 => ?_⟩
        have S4 := same_new (o := .tup [.str (SX.S w0), .ref Dl]) ht1
        have a1 : At S (upd H3 t1 (.tup [.str (SX.S w0), .ref Dl])) (.ref t1) (bkLD (w0, List.replicate 12 (List.replicate 30 1))) := .tup (o3.free ht1) upd_same (.cons (.str _) (.cons (At.same aD S4) .nil))
        generalize upd H3 t1 (.tup [.str (SX.S w0), .ref Dl]) = H4 at S4 a1 ⊢
        have o4 := o3.same S4
        have S24 := S3.trans S4
        refine ⟨_, rfl, nl, _, 1, _, rfl, rfl, .inl (.inl (S24 _ _ enl)), atI_nat (j := 1) e1, by show 1 ≤ sizeLine; decide, fun b hb => ⟨b, 10, _, rfl, rfl, upd_same, by decide, by decide, by show 1 * 10 ≤ sizeLine; decide, fun a ha => ?_⟩⟩
        have S5 := (same_new (o := .lst [.int 4]) hb).trans (same_new (o := .lst (List.replicate (10 : Int).toNat [V.int 4]).flatten) ha)
        have o5 := o4.same (same_new (o := .lst [.int 4]) hb)
        have aa : At S (upd (upd H4 b (.lst [.int 4])) a (.lst (List.replicate (10 : Int).toNat [V.int 4]).flatten)) (.ref a) (rowD (List.replicate 10 4)) := .ofrow (o5.free ha) (by rw [upd_same, rep_int]; rfl)
        generalize upd (upd H4 b (.lst [.int 4])) a (.lst (List.replicate (10 : Int).toNat [V.int 4]).flatten) = H5 at S5 aa ⊢
        have o5 := o4.same S5
        refine ⟨by show 1 ≤ sizeLine; decide, fun c5 hc5 => ?_⟩
        have S6 := same_new (o := .lst [.ref a]) hc5
        have ac : At S (upd H5 c5 (.lst [.ref a])) (.ref c5) (bookD [List.replicate 10 4]) := .lst (o5.free hc5) upd_same (.cons (At.same aa S6) .nil)
        generalize upd H5 c5 (.lst [.ref a]) = H6 at S6 ac ⊢
        have o6 := o5.same S6
        refine ⟨by show 2 ≤ sizeLine; decide, fun t2 ht2 => ?_⟩
        have S7 := same_new (o := .tup [.str (SX.S w1), .ref c5]) ht2
        have a2 : At S (upd H6 t2 (.tup [.str (SX.S w1), .ref c5])) (.ref t2) (bkLD (w1, [List.replicate 10 4])) := .tup (o6.free ht2) upd_same (.cons (.str _) (.cons (At.same ac S7) .nil))
        generalize upd H6 t2 (.tup [.str (SX.S w1), .ref c5]) = H7 at S7 a2 ⊢
        have o7 := o6.same S7
        refine ⟨by show 2 ≤ sizeLine; decide, fun l hl => ?_⟩
        have S8 := same_new (o := .lst [.ref t1, .ref t2]) hl
        have S47 := (S5.trans S6).trans S7
        have S07 := S02.trans ((S24.trans S5).trans (S6.trans S7))
        refine q [(w0, List.replicate 12 (List.replicate 30 1)), (w1, [List.replicate 10 4])] l _ ?_ (S07.trans S8) (Same.fresh S07 hl) (.lst (o7.free hl) upd_same (.cons (At.same a1 (S47.trans S8)) (.cons (At.same a2 S8) .nil)))
        have nd2 : w0 ≠ w1 := fun z => by
          have h1 := (List.getElem?_inj (i := 0) (j := 1) (by omega) okw.nd).mp (by rw [hw0, hw1, z])
          cases h1
        refine ⟨by show 1 ≤ 2; decide, by show 2 ≤ 6; decide, ?_, fun b hb => ?_, fun b hb => ?_, by show ([12, 1] : List Nat).sum ≤ 40; decide, by show ([((List.replicate 12 (List.replicate 30 (1 : Int))).map List.sum).sum, ([List.replicate 10 (4 : Int)].map List.sum).sum] : List Int).sum ≤ 400; decide +kernel⟩
        · show [w0, w1].Nodup
          simp [nd2]
        · simp only [List.mem_cons, List.not_mem_nil, or_false] at hb
          rcases hb with rfl | rfl
          · exact okw.ok _ (List.mem_of_getElem? hw0)
          · exact okw.ok _ (List.mem_of_getElem? hw1)
        · simp only [List.mem_cons, List.not_mem_nil, or_false] at hb
          rcases hb with rfl | rfl
          · refine ⟨by show 1 ≤ 12; decide, by show 12 ≤ 12; decide, fun c hc => ?_⟩
            rw [List.eq_of_mem_replicate hc]
            exact ⟨by decide, by decide, by decide⟩
          · refine ⟨by show 1 ≤ 1; decide, by show 1 ≤ 12; decide, fun c hc => ?_⟩
            rw [List.mem_singleton.mp hc]
            exact ⟨by decide, by decide, by decide⟩
    · -- many
      have m0 := Int.emod_nonneg r11 (show (4 : Int) ≠ 0 by decide)
      have m1 := Int.emod_lt_of_pos r11 (show (0 : Int) < 4 by decide)
      refine ⟨_, rfl, rl, _, 11, _, rfl, rfl, .inl (.inl erl2), atI_nat (j := 11) g11, _, 4, rfl, rfl, (by show (0 : Int) < 4; decide), 1, _, rfl, rfl, ?_⟩
      refine ⟨fun σ' H' => ∃ m : Nat, σ' = [some (.int c), some (.int sl), some (.ref rl), some (.ref nl), some (.int (m : Nat)), none, none, none, none, none, none, none] ∧ 1 ≤ m ∧ m ≤ 6 ∧ H' = H2, ?_, ?_⟩
      · refine ⟨_, rfl, rl, _, 10, _, rfl, rfl, .inl (.inl erl2), atI_nat (j := 10) g10, _, 16, rfl, rfl, (by show (0 : Int) < 16; decide), rfl, _, rfl, ite2 (fun _ => ?_) (fun _ => ?_)⟩
        · exact ⟨6, rfl, by decide, by decide, rfl⟩
        · refine ⟨(1 + r11 % 4).toNat, ?_, by omega, by omega, rfl⟩
          rw [Int.toNat_of_nonneg (by omega)]
          rfl
      · rintro σ H2' ⟨m, rfl, m0, m6, rfl⟩
        refine ⟨Nat.zero_le _, fun bl hbl => ?_⟩
        refine ⟨_, rfl, _, rfl, by omega, by omega, ?_⟩
        rw [Int.toNat_natCast]
        refine for_range (lo := 0) (n := m) (fun i σ H' => ∃ (B : Bks) (rows : List V) (t6 t7 t8 t9 t10 t11 : Option V), σ = [some (.int c), some (.int sl), some (.ref rl), some (.ref nl), some (.int (m : Nat)), some (.ref bl), t6, t7, t8, t9, t10, t11] ∧ B.map (·.1) = ws.take i ∧ (∀ b ∈ B, smBk b) ∧ LcS S H2' bl rows (B.map bkLD) H') ⟨[], [], _, _, _, _, _, _, rfl, rfl, (fun _ z => nomatch z), LcS.start hbl⟩ ?_ ?_
        · rintro i σ H3 hi ⟨B, rows, t6, t7, t8, t9, t10, t11, rfl, eB, sB, L⟩
          have oS := L.occ o2
          refine ⟨Nat.zero_le _, fun cl hcl => ?_⟩
          obtain ⟨rk, gk, zk, _⟩ := get (12 + i) (by omega)
          have erl3 := L.s _ _ erl2
          have S4 := same_new (o := .lst []) hcl
          have c0 := Int.emod_nonneg rk (show (3 : Int) ≠ 0 by decide)
          have c1 := Int.emod_lt_of_pos rk (show (0 : Int) < 3 by decide)
          refine ⟨_, rfl, _, rfl, 12, _, rfl, rfl, rl, _, _, _, rfl, rfl, .inl (.inl (S4 _ _ erl3)), at_of (j := 12 + i) (by omega) gk, _, 3, rfl, rfl, (by show (0 : Int) < 3; decide), 1, _, rfl, rfl, _, rfl, by omega, by omega, ?_⟩
          have o4 : Occ (Plus S bl) (upd H3 cl (.lst [])) := oS.same S4
          refine for_range (lo := 0) (n := (1 + rk % 3).toNat) (fun j σ H' => ∃ (C : List (List Int)) (rws : List V) (t8 t9 t10 t11 : Option V), σ = [some (.int c), some (.int sl), some (.ref rl), some (.ref nl), some (.int (m : Nat)), some (.ref bl), some (.int (0 + (i : Int))), some (.ref cl), t8, t9, t10, t11] ∧ C.length = j ∧ (∀ c ∈ C, 1 ≤ c.length ∧ c.length ≤ 5 ∧ ∀ x ∈ c, 1 ≤ x ∧ x ≤ 4) ∧ LcS (Plus S bl) H3 cl rws (C.map rowD) H') ⟨[], [], _, _, _, _, rfl, rfl, (fun _ z => nomatch z), LcS.start hcl⟩ ?_ ?_
          · rintro j σ H5 hj ⟨C, rws, t8, t9, t10, t11, rfl, lC, kC, M⟩
            have j3 : j < 3 := by omega
            obtain ⟨rn, gn, zn, _⟩ := get (18 + 3 * i + j) (by omega)
            have erl5 := M.s _ _ erl3
            have d0 := Int.emod_nonneg rn (show (5 : Int) ≠ 0 by decide)
            have d1 := Int.emod_lt_of_pos rn (show (0 : Int) < 5 by decide)
            refine ⟨_, rfl, _, rfl, 3, _, rfl, rfl, .inl (by decide), 18, _, rfl, rfl, _, rfl, _, _, rfl, rfl, rl, _, _, _, rfl, rfl, .inl (.inl erl5), at_of (j := 18 + 3 * i + j) (by omega) gn, ?_⟩
            refine ⟨_, rfl, rn, 5, rfl, rfl, (by show (0 : Int) < 5; decide), 1, _, rfl, rfl, ?_⟩
            refine ⟨_, rfl, rn, 5, rfl, rfl, ⟨by decide, by decide⟩, ?_⟩
            -- a new row
            refine ⟨_, rfl, .inl ⟨rfl, _, .inl (.inl M.at_)⟩, Nat.zero_le _, fun w hw => ?_⟩
            have S6 := same_new (o := .lst []) hw
            have M6 := M.keep S6
            have wcl : w ≠ cl := fun z => by
              rw [z, M.at_] at hw
              cases hw
            have lrw : rws.length = j := by rw [M.len, List.length_map, lC]
            refine ⟨cl, _, _, rfl, rfl, M6.at_, by rw [lrw]; exact sz1000 (by omega), ?_⟩
            have nw : ¬ Plus (Plus S bl) cl w := (M.occ oS).free hw
            have aw : AtAll (Plus (Plus (Plus S bl) cl) w) (upd (upd H5 w (.lst [])) cl (.lst (rws ++ [.ref w]))) rws (C.map rowD) := by
              have a1 := AtAll.plusN M.a hw
              have U1 : BtS (Plus (Plus (Plus S bl) cl) w) H5 (upd H5 w (.lst [])) := BtS.upd (.inr rfl)
              have U2 : BtS (Plus (Plus (Plus S bl) cl) w) (upd H5 w (.lst [])) (upd (upd H5 w (.lst [])) cl (.lst (rws ++ [.ref w]))) := BtS.upd (.inl (.inr rfl))
              exact AtAll.bt U2 _ _ (AtAll.bt U1 _ _ a1)
            have ew : upd (upd H5 w (.lst [])) cl (.lst (rws ++ [.ref w])) w = some (.lst []) := by rw [upd_ne wcl, upd_same]
            have ec : upd (upd H5 w (.lst [])) cl (.lst (rws ++ [.ref w])) cl = some (.lst (rws ++ [.ref w])) := upd_same
            have S36 : Same H3 (upd (upd H5 w (.lst [])) cl (.lst (rws ++ [.ref w]))) := fun b o e => by
              rw [upd_ne (ne_of_none e hcl)]
              exact S6 _ _ (M.s b o e)
            have w3 : H3 w = none := Same.fresh M.s hw
            generalize upd (upd H5 w (.lst [])) cl (.lst (rws ++ [.ref w])) = H6 at aw ew ec S36 ⊢
            refine ⟨_, rfl, _, rfl, by omega, by omega, ?_⟩
            refine for_range (lo := 0) (n := (1 + rn % 5).toNat) (fun v σ H' => ∃ (r : List Int) (nn : Int) (t11 : Option V), σ = [some (.int c), some (.int sl), some (.ref rl), some (.ref nl), some (.int (m : Nat)), some (.ref bl), some (.int (0 + (i : Int))), some (.ref cl), some (.int (0 + (j : Int))), some (.int nn), some (.int (1 + rn % 5)), t11] ∧ r.length = v ∧ (∀ x ∈ r, 1 ≤ x ∧ x ≤ 4) ∧ BtS (O1 w) H6 H' ∧ H' w = some (.lst (r.map V.int))) ⟨[], _, _, rfl, rfl, (fun _ z => nomatch z), BtS.refl, ew⟩ ?_ ?_
            · rintro v σ H7 hv ⟨r, nn, t11, rfl, lr, kr, B7, e7⟩
              have ec7 := B7 _ _ (fun z => wcl z.symm) ec
              have f0 := Int.emod_nonneg nn (show (4 : Int) ≠ 0 by decide)
              have f1 := Int.emod_lt_of_pos nn (show (0 : Int) < 4 by decide)
              refine ⟨_, rfl, 1, rfl, cl, _, -1, .ref w, rfl, rfl, .inl (.inl ec7), atI_last _ _, .inl ⟨rfl, _, .inl (.inl e7)⟩, _, rfl, nn, 4, rfl, rfl, (by show (0 : Int) < 4; decide), 1, _, rfl, rfl, w, _, _, rfl, rfl, e7, by rw [List.length_map]; exact sz1000 (by omega), ?_⟩
              refine ⟨_, rfl, nn, 4, rfl, rfl, ⟨by decide, by decide⟩, r ++ [1 + nn % 4], _, _, rfl, by rw [List.length_append, lr]; rfl, fun x hx => ?_, B7.trans (BtS.upd rfl), by rw [upd_same, List.map_append]; rfl⟩
              rcases List.mem_append.mp hx with hx | hx
              · exact kr x hx
              · rw [List.mem_singleton.mp hx]
                omega
            · rintro σ H7 ⟨r, nn, t11, rfl, lr, kr, B7, e7⟩
              refine ⟨C ++ [r], rws ++ [.ref w], _, _, _, _, rfl, by rw [List.length_append, lC]; rfl, fun x hx => ?_, ⟨hcl, fun b o e => ?_, B7 _ _ (fun z => wcl z.symm) ec, ?_⟩⟩
              · rcases List.mem_append.mp hx with hx | hx
                · exact kC x hx
                · rw [List.mem_singleton.mp hx]
                  exact ⟨by omega, by omega, kr⟩
              · exact B7 _ _ (ne_of_none e w3) (S36 b o e)
              · rw [List.map_append]
                refine AtAll.app (AtAll.weak (fun _ z => .inl z) _ _ (AtAll.bt (B7.mono fun b z => .inr z) _ _ aw)) (.cons (.ofrow nw e7) .nil)
          · rintro σ H5 ⟨C, rws, t8, t9, t10, t11, rfl, lC, kC, M⟩
            have L5 := L.keep M.s
            have lB : B.length = i := by
              have := congrArg List.length eB
              rw [List.length_map, List.length_take] at this
              omega
            obtain ⟨wi, hwi, ei⟩ := nm i (by omega)
            have enl5 := L5.s _ _ enl
            have ncl : ¬ Plus S bl cl := oS.free hcl
            have aC : At (Plus S bl) H5 (.ref cl) (bookD C) := .lst ncl M.at_ M.done
            refine ⟨_, rfl, .inl ⟨rfl, _, .inl (.inl L5.at_)⟩, _, rfl, _, rfl, nl, _, _, _, rfl, rfl, .inl (.inl enl5), at_of (j := i) (by omega) ei, _, rfl, by show 2 ≤ sizeLine; decide, fun t ht => ?_⟩
            have S6 := same_new (o := .tup [.str (SX.S wi), .ref cl]) ht
            have L6 := L5.keep S6
            have nt : ¬ Plus S bl t := (oS.same M.s).free ht
            have at1 : At (Plus S bl) (upd H5 t (.tup [.str (SX.S wi), .ref cl])) (.ref t) (bkLD (wi, C)) := .tup nt upd_same (.cons (.str _) (.cons (At.same aC S6) .nil))
            refine ⟨bl, _, _, rfl, rfl, L6.at_, by rw [L.len, List.length_map, lB]; exact sz1000 (by omega), ?_⟩
            refine ⟨B ++ [(wi, C)], rows ++ [.ref t], _, _, _, _, _, _, rfl, ?_, fun b hb => ?_, ?_⟩
            · rw [List.map_append, eB, List.take_add_one, hwi]
              rfl
            · rcases List.mem_append.mp hb with hb | hb
              · exact sB b hb
              · rw [List.mem_singleton.mp hb]
                refine ⟨?_, ?_, kC⟩
                · show 1 ≤ C.length
                  omega
                · show C.length ≤ 3
                  omega
            · rw [List.map_append]
              exact L6.step at1
        · rintro σ H3 ⟨B, rows, t6, t7, t8, t9, t10, t11, rfl, eB, sB, L⟩
          have lB : B.length = m := by
            have := congrArg List.length eB
            rw [List.length_map, List.length_take] at this
            omega
          refine ⟨_, rfl, q B bl H3 (smBk.ok sB (by rw [eB]; exact okw.take m) (by omega) (by omega)) (S02.trans L.s) (Same.fresh S02 hbl) (.lst (o2.free hbl) L.at_ L.done)⟩
end
end My
set_option Elab.async false
set_option linter.all false
set_option maxRecDepth 100000
set_option maxHeartbeats 4000000
namespace My
open PySem PySem.Spec PyProof.Rows L2
theorem At.bkL {S : Av} {H : Hp} {v : V} {b : List Nat × List (List Int)} (h : At S H v (bkLD b)) : ∃ a c zs, v = .ref a ∧ ¬ S a ∧ H a = some (.tup [.str (SX.S b.1), .ref c]) ∧ ¬ S c ∧ H c = some (.lst zs) ∧ AtAll S H zs (b.2.map rowD) := by
  cases h with
  | tup n e k =>
    cases k with
    | cons h1 k2 =>
      cases k2 with
      | cons h2 k3 =>
        cases k3
        cases h1
        cases h2 with
        | lst n2 e2 k4 => exact ⟨_, _, _, rfl, n, e, n2, e2, k4⟩
theorem At.bksL {S : Av} {H : Hp} {v : V} {B : Bks} (h : At S H v (bksLD B)) : ∃ a xs, v = .ref a ∧ ¬ S a ∧ H a = some (.lst xs) ∧ AtAll S H xs (B.map bkLD) := by
  cases h with
  | lst n e k => exact ⟨_, _, rfl, n, e, k⟩
/-- books as the law makes them are books handed in -/
theorem bksL_in {S : Av} {H : Hp} {v : V} {B : Bks} (h : At S H v (bksLD B)) : BksIn S H v B := by
  obtain ⟨a, xs, rfl, n, e, k⟩ := h.bksL
  refine ⟨a, xs, rfl, .inl e, by rw [k.len, List.length_map], fun i x b h1 h2 => ?_⟩
  obtain ⟨b', h3, h4⟩ := k.at_ h1
  rw [h2] at h3
  cases h3
  obtain ⟨a2, c, zs, e1, n1, e2, n2, e3, k2⟩ := h4.bkL
  refine ⟨a2, c, zs, e1, e2, .inl e3, by rw [k2.len, List.length_map], fun j y cc h5 h6 => ?_⟩
  obtain ⟨c', h7, h8⟩ := k2.at_ h5
  rw [h6] at h7
  cases h7
  obtain ⟨a', e4, n4, e5⟩ := h8.row
  exact ⟨a', e4, n4, .inl e5⟩
def sp_copy : Sp := fun vs H Q _ => ∃ (S S0 : Av) (v : V) (B : Bks), vs = [v] ∧ Occ S H ∧ At S0 H v (bksLD B) ∧ B.length ≤ 6 ∧ (∀ b ∈ B, b.2.length ≤ 12) ∧ ∀ l H', H l = none → Same H H' → At S H' (.ref l) (bksLD B) → Q (.ref l) H'
def sp_spotsL : Sp := fun vs H Q _ => ∃ (S S0 : Av) (v : V) (B : Bks), vs = [v] ∧ Occ S H ∧ At S0 H v (bksLD B) ∧ okBks B ∧ ∀ l rows H', H l = none → Same H H' → H' l = some (.lst rows) → AtAll S H' rows ((plOf B).map plD) → Q (.ref l) H'
section
variable {P : Program} {w : World} {K : PySem.W.Frag} {mg : Str → Option Value} {base : Heap}
theorem ok_copy (T : Txt K mg) (D : Df K mg "_law_copy" s__law_copy ["books"]) : Cl P w K mg base 2 "_law_copy" ["books"] sp_copy := by
  refine ok_of D sc__law_copy (fun vs H Q E h => ?_) (fun f cdv A outer s H vs Q E hr h => ?_)
  · obtain ⟨S, S0, v, B, rfl, _⟩ := h
    rfl
  · obtain ⟨S, S0, v, B, rfl, ho, hv, l6, c12, q⟩ := h
    refine ⟨_, (pss_one (ps_ret (pe_lc (own := [("name", 2), ("chapters", 3)]) rfl sc__law_copy.nd (pi_list (pv 0)) (blkOk_by (own := [("name", 2), ("chapters", 3)]) (N := N__law_copy) (sc := defScope s__law_copy) (by decide +kernel)) (fun _ _ _ _ _ => (pg_tupK (K := K) (n := 2) rfl rfl (pgs_cons (pg_name (i := 2) sc__law_copy.nd rfl (.inl rfl)) (pgs_cons (pg_name (i := 3) sc__law_copy.nd rfl (.inl rfl)) pgs_nil)))) (fun _ _ _ _ _ => pts_nil) (fun _ _ _ _ _ => (pe_tup (pa_cons (pv 2) (pa_cons (pe_lc (own := [("chapter", 1)]) rfl sc__law_copy.nd (pi_listK (K := K) rfl (pv 3)) (blkOk_by (own := [("chapter", 1)]) (N := N__law_copy) (by kernel_rfl)) (fun _ _ _ _ _ => (pg_name (i := 1) sc__law_copy.nd rfl (.inl rfl))) (fun _ _ _ _ _ => pts_nil) (fun _ _ _ _ _ => (pe_callTy (call_list_ofK (K := K) rfl) (by rfl) T.b_list (by decide +kernel) (pa_cons (pv 1) pa_nil)))) pa_nil))))))), ?_⟩
    obtain ⟨a, xs, rfl, na, ea, ka⟩ := hv.bksL
    have lx : xs.length = B.length := by rw [ka.len, List.length_map]
    refine ⟨_, rfl, a, rfl, ⟨_, .inl (.inl ea)⟩, fun bl hbl => ?_⟩
    refine lc_it (walk_list (xs := xs)) (fun i H' => ∃ rows : List V, LcS S H bl rows ((B.take i).map bkLD) H') ⟨[], LcS.start hbl⟩ (fun i H' _ ⟨_, L⟩ => .inl (.inl (L.s _ _ ea))) ?_ ?_
    · rintro i y H1x H1 hi ⟨rows, L⟩ ⟨rfl, hy⟩
      obtain ⟨b, hb, hbv⟩ := ka.at_ hy
      obtain ⟨t, c, zs, rfl, nt, et, nc, ec, kz⟩ := hbv.bkL
      have lz : zs.length = b.2.length := by rw [kz.len, List.length_map]
      have c12 := c12 b (List.mem_of_getElem? hb)
      have oS := L.occ ho
      refine ⟨t, _, rfl, .inl (.inl (L.s _ _ et)), rfl, _, _, rfl, _, _, rfl, rfl, rfl, ?_⟩
      refine ⟨_, rfl, _, rfl, c, rfl, ⟨_, .inl (.inl (L.s _ _ ec))⟩, fun cl hcl => ?_⟩
      refine lc_it (walk_list (xs := zs)) (fun j H' => ∃ rws : List V, LcS (Plus S bl) H1 cl rws ((b.2.take j).map rowD) H') ⟨[], LcS.start hcl⟩ (fun i H' _ ⟨_, M⟩ => .inl (.inl (M.s _ _ (L.s _ _ ec)))) ?_ ?_
      · rintro j y H2x H2 hj ⟨rws, M⟩ ⟨rfl, hy2⟩
        obtain ⟨r, hrr, hrv⟩ := kz.at_ hy2
        obtain ⟨ar, rfl, nar, ear⟩ := hrv.row
        refine ⟨rfl, _, rfl, ar, _, rfl, .inl (.inl (.inl (M.s _ _ (L.s _ _ ear)))), fun l hl => ?_⟩
        have M2 := M.keep (same_new (o := .lst (r.map V.int)) hl)
        have nl : ¬ Plus (Plus S bl) cl l := (M.occ oS).free hl
        have lr : rws.length ≤ j := by
          rw [M.len, List.length_map, List.length_take]
          omega
        refine ⟨rws, M2.at_, sz1000 (by omega), rws ++ [.ref l], ?_⟩
        rw [List.take_add_one, hrr, List.map_append]
        exact M2.step (.ofrow nl upd_same)
      · rintro H2 ⟨rws, M⟩
        rw [lz, List.take_length] at M
        have L2 := L.keep M.s
        have ncl : ¬ Plus S bl cl := oS.free hcl
        have aC : At (Plus S bl) H2 (.ref cl) (bookD b.2) := .lst ncl M.at_ M.done
        refine ⟨by show 2 ≤ sizeLine; decide, fun t2 ht2 => ?_⟩
        have S3 := same_new (o := .tup [.str (SX.S b.1), .ref cl]) ht2
        have L3 := L2.keep S3
        have nt2 : ¬ Plus S bl t2 := (oS.same M.s).free ht2
        have lr : rows.length ≤ i := by
          rw [L.len, List.length_map, List.length_take]
          omega
        refine ⟨rows, L3.at_, sz1000 (by omega), rows ++ [.ref t2], ?_⟩
        rw [List.take_add_one, hb, List.map_append]
        exact L3.step (.tup nt2 upd_same (.cons (.str _) (.cons (At.same aC S3) .nil)))
    · rintro H1 ⟨rows, L⟩
      rw [lx, List.take_length] at L
      exact q bl H1 hbl L.s (.lst (ho.free hbl) L.at_ L.done)
theorem ok_spotsL (T : Txt K mg) (D : Df K mg "_law_spots" s__law_spots ["books"]) : Cl P w K mg base 2 "_law_spots" ["books"] sp_spotsL := by
  refine ok_of D sc__law_spots (fun vs H Q E h => ?_) (fun f cdv A outer s H vs Q E hr h => ?_)
  · obtain ⟨S, S0, v, B, rfl, _⟩ := h
    rfl
  · obtain ⟨S, S0, v, B, rfl, ho, hv, ok, q⟩ := h
    refine ⟨_, (pss_cons (ps_set (i := 1) sc__law_spots.nd rfl (.inl rfl) (pe_lst pa_nil))
      (pss_cons (ps_for PassesOwn.never rfl (pi_list (pv 0)) (pg_tup rfl (pgs_cons (pg_name (i := 2) sc__law_spots.nd rfl (.inr rfl)) (pgs_cons (pg_name (i := 3) sc__law_spots.nd rfl (.inl rfl)) pgs_nil)))
        (pss_one (ps_for PassesOwn.never rfl (pi_range1 (by rfl) T.b_range (pa_cons (pe_callB call_len (by rfl) T.b_len (by decide +kernel) (pa_cons (pv 3) pa_nil)) pa_nil)) (pg_name (i := 4) sc__law_spots.nd rfl (.inr rfl))
          (pss_one (ps_for PassesOwn.never rfl (pi_range1 (by rfl) T.b_range (pa_cons (pe_callB call_len (by rfl) T.b_len (by decide +kernel) (pa_cons (pe_ix ix_list (pv 3) (pv 4) (fun _ _ => rfl)) pa_nil)) pa_nil)) (pg_name (i := 5) sc__law_spots.nd rfl (.inr rfl))
            (pss_one (ps_expr (pe_bm PySem.F.plainAttrs_list PySem.F.slot_list_extend PySem.F.type_list_extend mt_extend (pv 1) (pa_cons (pe_lc (own := [("p", 6)]) rfl sc__law_spots.nd (pi_range1 (by rfl) T.b_range (pa_cons (pe_ix ix_list (pe_ix ix_list (pv 3) (pv 4) (fun _ _ => rfl)) (pv 5) (fun _ _ => rfl)) pa_nil)) (blkOk_by (own := [("p", 6)]) (N := N__law_spots) (sc := defScope s__law_spots) (by decide +kernel)) (fun _ _ _ _ _ => (pg_name (i := 6) sc__law_spots.nd rfl (.inl rfl))) (fun _ _ _ _ _ => pts_nil) (fun _ _ _ _ _ => (pe_tup (pa_cons (pv 2) (pa_cons (pe_op op_add (pv 4) pe_int) (pa_cons (pe_op op_add (pv 5) pe_int) (pa_cons (pe_op op_add (pv 6) pe_int) pa_nil))))))) pa_nil)))))))))
      (pss_one (ps_ret (pv 1))))), ?_⟩
    obtain ⟨a, xs, rfl, na, ea, ka⟩ := hv.bksL
    refine ⟨Nat.zero_le _, fun k hk => ?_⟩
    have lx : xs.length = B.length := by rw [ka.len, List.length_map]
    have bnd : ∀ b ∈ B, b.2.length ≤ 12 ∧ ∀ c ∈ b.2, c.length ≤ 30 ∧ ∀ m ∈ c, m ≤ 4 := fun b hb => ⟨(ok.ch b hb).2.1, fun c hc => ⟨((ok.ch b hb).2.2 c hc).l1, fun m hm => (((ok.ch b hb).2.2 c hc).x m hm).2⟩⟩
    refine ⟨.ref a, rfl, a, rfl, ⟨_, .inl (.inl (same_new hk _ _ ea))⟩, for_it (walk_list (xs := xs)) (fun i σ H' => ∃ (t2 t3 t4 t5 t6 : Option V) (rows : List V), σ = [some (.ref a), some (.ref k), t2, t3, t4, t5, t6] ∧ LcS S H k rows ((plOf (B.take i)).map plD) H')
      ⟨_, _, _, _, _, _, rfl, LcS.start hk⟩ (fun i σ H' _ ⟨_, _, _, _, _, _, _, L⟩ => .inl (.inl (L.s _ _ ea))) ?_ ?_⟩
    · rintro i x σ H1 H1' hi ⟨t2, t3, t4, t5, t6, rows, rfl, L1⟩ ⟨rfl, hxi⟩
      obtain ⟨b, hb, hv⟩ := ka.at_ hxi
      have hbm : b ∈ B := List.mem_of_getElem? hb
      obtain ⟨ab, ac, zs, rfl, nb, eb, nc, ec, kz⟩ := hv.bkL
      have lz : zs.length = b.2.length := by rw [kz.len, List.length_map]
      have lB := plOf_len (B := B.take i) fun b hb => bnd b (List.mem_of_mem_take hb)
      rw [List.length_take] at lB
      have okl := ok.l1
      have okc := (bnd b hbm).1
      refine ⟨ab, _, rfl, .inl (.inl (L1.s _ _ eb)), rfl, _, _, rfl, _, _, rfl, rfl, ?_⟩
      refine ⟨.ref ac, rfl, _, _, rfl, .inl ⟨_, .inl (.inl (L1.s _ _ ec)), rfl⟩, _, rfl, by omega, by omega, ?_⟩
      rw [Int.toNat_natCast]
      refine for_range (lo := 0) (n := zs.length) (fun j σ H' => ∃ (t4 t5 t6 : Option V) (rows : List V), σ = [some (.ref a), some (.ref k), some (.str (SX.S b.1)), some (.ref ac), t4, t5, t6] ∧ LcS S H k rows ((plOf (B.take i) ++ plB (b.1, b.2.take j)).map plD) H') ⟨_, _, _, rows, rfl, ?_⟩ ?_ ?_
      · have e0 : plB (b.1, b.2.take 0) = [] := rfl
        rw [e0, List.append_nil]
        exact L1
      · rintro j σ H2 hj ⟨t4, t5, t6, rows, rfl, L2⟩
        have hzj : zs[j]? = some zs[j] := List.getElem?_eq_getElem hj
        obtain ⟨c, hc, hcv⟩ := kz.at_ hzj
        have hcm : c ∈ b.2 := List.mem_of_getElem? hc
        obtain ⟨ad, ead0, nd, ed⟩ := hcv.row
        rw [ead0] at hzj
        have lC := plB_len (b := (b.1, b.2.take j)) fun c hc => (bnd b hbm).2 c (List.mem_of_mem_take hc)
        have lC : (plB (b.1, b.2.take j)).length ≤ 120 * (b.2.take j).length := lC
        rw [List.length_take] at lC
        have okr := (ok.ch b hbm).2.2 c hcm
        have okv := okr.l1
        have zj : (0 : Int) + (j : Int) = (j : Nat) := Int.zero_add _
        refine ⟨_, rfl, _, rfl, ac, _, _, _, rfl, rfl, .inl (.inl (L2.s _ _ ec)), at_of (j := j) zj hzj, _, _, rfl, .inl ⟨_, .inl (.inl (L2.s _ _ ed)), rfl⟩, _, rfl, by rw [List.length_map]; omega, by rw [List.length_map]; omega, ?_⟩
        rw [Int.toNat_natCast, List.length_map]
        refine for_range (lo := 0) (n := c.length) (fun v σ H' => ∃ (t5 t6 : Option V) (rows : List V), σ = [some (.ref a), some (.ref k), some (.str (SX.S b.1)), some (.ref ac), some (.int (0 + (j : Int))), t5, t6] ∧ LcS S H k rows ((plOf (B.take i) ++ plB (b.1, b.2.take j) ++ plC b.1 j (c.take v)).map plD) H') ⟨_, _, rows, rfl, ?_⟩ ?_ ?_
        · have e0 : plC b.1 j (c.take 0) = [] := rfl
          rw [e0, List.append_nil]
          exact L2
        · rintro v σ H3 hv3 ⟨t5, t6, rows, rfl, L3⟩
          obtain ⟨mm, hmm⟩ : ∃ mm, c[v]? = some mm := ⟨_, List.getElem?_eq_getElem hv3⟩
          have hm4 := okr.x mm (List.mem_of_getElem? hmm)
          have lD := plC_len (nm := b.1) (ci := j) (c := c.take v) fun m hm => (((okr.x m (List.mem_of_mem_take hm))).2)
          rw [List.length_take] at lD
          have zv : (0 : Int) + (v : Int) = (v : Nat) := Int.zero_add _
          have oS := L3.occ ho
          refine ⟨.ref k, rfl, .inl ⟨rfl, _, .inl (.inl L3.at_)⟩, _, rfl, _, rfl, ac, _, _, _, rfl, rfl, .inl (.inl (L3.s _ _ ec)), at_of (j := j) zj hzj, _, rfl, ad, _, _, _, rfl, rfl, .inl (.inl (L3.s _ _ ed)), at_of (j := v) zv (by rw [List.getElem?_map, hmm]; rfl), _, rfl, by omega, by omega, fun n hn => ?_⟩
          refine lc_range (lo := 0) (n := mm.toNat) (fun m H' => ∃ new : List V, LcS (Plus S k) H3 n new ((plV b.1 j v (m : Int)).map plD) H') ⟨[], LcS.start hn⟩ ?_ ?_
          · rintro m H4 hm ⟨new, N⟩
            have ln : new.length = m := by
              rw [N.len, List.length_map, plV_len]
              omega
            refine ⟨rfl, _, rfl, _, rfl, _, 1, rfl, rfl, _, rfl, _, 1, rfl, rfl, _, rfl, _, 1, rfl, rfl, by show 4 ≤ sizeLine; decide, fun t ht => ?_⟩
            have e4 : [V.str (SX.S b.1), .int (0 + (j : Int) + 1), .int (0 + (v : Int) + 1), .int (0 + (m : Int) + 1)] = [.str (SX.S b.1), .int (1 + (j : Int)), .int (1 + (v : Int)), .int (1 + (m : Int))] := by
              rw [show (0 : Int) + (j : Int) + 1 = 1 + (j : Int) by omega, show (0 : Int) + (v : Int) + 1 = 1 + (v : Int) by omega, show (0 : Int) + (m : Int) + 1 = 1 + (m : Int) by omega]
            have N2 := N.keep (same_new (o := .tup [.str (SX.S b.1), .int (0 + (j : Int) + 1), .int (0 + (v : Int) + 1), .int (0 + (m : Int) + 1)]) ht)
            refine ⟨new, N2.at_, Evl.sz_lt (by omega), new ++ [.ref t], ?_⟩
            have nt : ¬ Plus (Plus S k) n t := (N.occ oS).free ht
            have et : upd H4 t (.tup [.str (SX.S b.1), .int (0 + (j : Int) + 1), .int (0 + (v : Int) + 1), .int (0 + (m : Int) + 1)]) t = some (.tup [.str (SX.S b.1), .int (1 + (j : Int)), .int (1 + (v : Int)), .int (1 + (m : Int))]) := by
              rw [upd_same, e4]
            have hd : At (Plus (Plus S k) n) (upd H4 t (.tup [.str (SX.S b.1), .int (0 + (j : Int) + 1), .int (0 + (v : Int) + 1), .int (0 + (m : Int) + 1)])) (.ref t) (plD ⟨b.1, 1 + (j : Int), 1 + (v : Int), 1 + (m : Int)⟩) := .tup nt et (.cons (.str _) (.cons (.int _) (.cons (.int _) (.cons (.int _) .nil))))
            have N3 := N2.step hd
            have ev : plV b.1 j v (((m + 1 : Nat)) : Int) = plV b.1 j v (m : Int) ++ [⟨b.1, 1 + (j : Int), 1 + (v : Int), 1 + (m : Int)⟩] := by
              unfold plV
              rw [Int.toNat_natCast, Int.toNat_natCast, List.range_succ, List.map_append]
              rfl
            rw [ev, List.map_append]
            exact N3
          · rintro H4 ⟨new, N⟩
            have em : ((mm.toNat : Nat) : Int) = mm := Int.toNat_of_nonneg (by omega)
            rw [em] at N
            have L4 := L3.keep N.s
            have ln : new.length = mm.toNat := by
              rw [N.len, List.length_map, plV_len]
            have lr : rows.length ≤ 1440 * 6 + 120 * 12 + 4 * 30 := by
              rw [L3.len, List.length_map, List.length_append, List.length_append]
              omega
            refine ⟨k, n, _, _, rfl, rfl, L4.at_, N.at_, Nat.le_of_lt (Evl.sz_lt (by omega)), _, _, rows ++ new, rfl, ?_⟩
            have ev : plC b.1 j (c.take (v + 1)) = plC b.1 j (c.take v) ++ plV b.1 j v mm := by
              unfold plC
              rw [zi_succ hmm, List.flatMap_append]
              simp
            rw [ev, ← List.append_assoc, List.map_append (l₂ := plV b.1 j v mm)]
            exact L4.put (L4.a.app N.done)
        · rintro σ H3 ⟨t5, t6, rows, rfl, L3⟩
          rw [List.take_length] at L3
          refine ⟨_, _, _, rows, rfl, ?_⟩
          have ev : plB (b.1, b.2.take (j + 1)) = plB (b.1, b.2.take j) ++ plC b.1 j c := by
            unfold plB
            show ((b.2.take (j + 1)).zipIdx.flatMap _) = ((b.2.take j).zipIdx.flatMap _) ++ _
            rw [zi_succ hc, List.flatMap_append]
            simp
          rw [ev, ← List.append_assoc]
          exact L3
      · rintro σ H2 ⟨t4, t5, t6, rows, rfl, L2⟩
        rw [lz, List.take_length] at L2
        refine ⟨_, _, _, _, _, rows, rfl, ?_⟩
        have ev : plOf (B.take (i + 1)) = plOf (B.take i) ++ plB b := by
          unfold plOf
          rw [List.take_add_one, hb, List.flatMap_append]
          simp
        rw [ev]
        exact L2
    · rintro σ H1 ⟨t2, t3, t4, t5, t6, rows, rfl, L⟩
      rw [lx, List.take_length] at L
      exact ⟨.ref k, rfl, q k rows H1 hk L.s L.at_ L.done⟩
end
end My
set_option Elab.async false
set_option linter.all false
set_option maxRecDepth 100000
set_option maxHeartbeats 4000000
namespace My
open PySem PySem.Spec PyProof.Rows L2
/-! H1e: two that stand for the same are told alike. -/
theorem ix_seqK {X : Cx} {K : PySem.W.Frag} (h : X.K = K) : IxR X (rIx K) := h ▸ ix_seq
/-- data of less than n steps into the depth -/
def Dpt : Nat → PyData → Prop
  | 0, _ => False
  | n + 1, d => ((∃ b, d = .bool b) ∨ d = .none) ∨ (∃ i, d = .int i) ∨ (∃ s : Str, d = .str s) ∨ ∃ ds : List PyData, ds.length ≤ 1000 ∧ (∀ x ∈ ds, Dpt n x) ∧ (d = .list ds ∨ d = .tuple ds)
def sp_alike (n : Nat) : Sp := fun vs H Q _ => ∃ (S1 S2 : Av) (f d : V) (D : PyData), vs = [f, d] ∧ At S1 H f D ∧ At S2 H d D ∧ Dpt n D ∧ ∀ H', Same H H' → Q (.bl true) H'
section
variable {P : Program} {w : World} {K : PySem.W.Frag} {mg : Str → Option Value} {base : Heap}
theorem ok_alike0 (T : Txt K mg) (D : Df K mg "_law_alike" s__law_alike ["found", "due"]) : Cl P w K mg base 1 "_law_alike" ["found", "due"] (sp_alike 0) := by
  refine ok_of D sc__law_alike (fun vs H Q E h => ?_) (fun f cdv A outer s H vs Q E hr h => ?_)
  · obtain ⟨_, _, _, _, _, _, _, _, h, _⟩ := h
    exact h.elim
  · obtain ⟨_, _, _, _, _, _, _, _, h, _⟩ := h
    exact h.elim
theorem ok_alikeS {k n : Nat} (T : Txt K mg) (c__law_alike : Cl P w K mg base (k + 1) "_law_alike" ["found", "due"] (sp_alike n)) (D : Df K mg "_law_alike" s__law_alike ["found", "due"]) : Cl P w K mg base (k + 2) "_law_alike" ["found", "due"] (sp_alike (n + 1)) := by
  refine ok_of D sc__law_alike (fun vs H Q E h => ?_) (fun f cdv A outer s H vs Q E hr h => ?_)
  · obtain ⟨_, _, _, _, _, rfl, _⟩ := h
    rfl
  · obtain ⟨S1, S2, fo, du, D, rfl, hf, hd, dp, q⟩ := h
    refine ⟨_, (pss_cons (ps_if (pt_cmpR op_isN (pv 1) pe_non (nomark _)) (pss_one (ps_ret (pe_cmpR op_isN (pv 0) pe_non (nomark _)))) pss_nil)
      (pss_cons (ps_if (pt_val (pe_callB call_isb (by rfl) T.b_isinstance (by decide +kernel) (pa_cons (pv 1) (pa_cons (pe_bltn (v := .ty "bool") (u := .type "bool") (by rfl) T.b_bool (by decide +kernel) rfl) pa_nil)))) (pss_one (ps_ret (pe_and (pe_callB call_isb (by rfl) T.b_isinstance (by decide +kernel) (pa_cons (pv 0) (pa_cons (pe_bltn (v := .ty "bool") (u := .type "bool") (by rfl) T.b_bool (by decide +kernel) rfl) pa_nil))) (pe_one (pe_cmpR op_eq (pv 0) (pv 1) (nomark _)))))) pss_nil)
      (pss_cons (ps_if (pt_val (pe_callB call_isb (by rfl) T.b_isinstance (by decide +kernel) (pa_cons (pv 1) (pa_cons (pe_bltn (v := .ty "int") (u := .type "int") (by rfl) T.b_int (by decide +kernel) rfl) pa_nil)))) (pss_one (ps_ret (pe_and (pe_callB call_isb (by rfl) T.b_isinstance (by decide +kernel) (pa_cons (pv 0) (pa_cons (pe_bltn (v := .ty "int") (u := .type "int") (by rfl) T.b_int (by decide +kernel) rfl) pa_nil))) (pe_and (pe_not (pe_callB call_isb (by rfl) T.b_isinstance (by decide +kernel) (pa_cons (pv 0) (pa_cons (pe_bltn (v := .ty "bool") (u := .type "bool") (by rfl) T.b_bool (by decide +kernel) rfl) pa_nil)))) (pe_one (pe_cmpR op_eq (pv 0) (pv 1) (nomark _))))))) pss_nil)
      (pss_cons (ps_if (pt_val (pe_callB call_isb (by rfl) T.b_isinstance (by decide +kernel) (pa_cons (pv 1) (pa_cons (pe_bltn (v := .ty "str") (u := .type "str") (by rfl) T.b_str (by decide +kernel) rfl) pa_nil)))) (pss_one (ps_ret (pe_and (pe_callB call_isb (by rfl) T.b_isinstance (by decide +kernel) (pa_cons (pv 0) (pa_cons (pe_bltn (v := .ty "str") (u := .type "str") (by rfl) T.b_str (by decide +kernel) rfl) pa_nil))) (pe_one (pe_cmpR op_eq (pv 0) (pv 1) (nomark _)))))) pss_nil)
      (C8.pss_cut (ps_if (pt_val (pe_callB call_isb (by rfl) T.b_isinstance (by decide +kernel) (pa_cons (pv 1) (pa_cons (pe_bltn (v := .ty "tuple") (u := .type "tuple") (by rfl) T.b_tuple (by decide +kernel) rfl) pa_nil)))) (pss_one (ps_if (pt_not (pt_val (pe_callB call_isb (by rfl) T.b_isinstance (by decide +kernel) (pa_cons (pv 0) (pa_cons (pe_bltn (v := .ty "tuple") (u := .type "tuple") (by rfl) T.b_tuple (by decide +kernel) rfl) pa_nil))))) (pss_one (ps_ret pe_bl)) pss_nil)) (pss_one (ps_if (pt_not (pt_val (pe_callB call_isb (by rfl) T.b_isinstance (by decide +kernel) (pa_cons (pv 0) (pa_cons (pe_bltn (v := .ty "list") (u := .type "list") (by rfl) T.b_list (by decide +kernel) rfl) pa_nil))))) (pss_one (ps_ret pe_bl)) pss_nil)))
      (pss_cons (ps_if (pt_cmpR op_ne (pe_callB call_len (by rfl) T.b_len (by decide +kernel) (pa_cons (pv 0) pa_nil)) (pe_callB call_len (by rfl) T.b_len (by decide +kernel) (pa_cons (pv 1) pa_nil)) (nomark _)) (pss_one (ps_ret pe_bl)) pss_nil)
      (pss_one (ps_ret (pe_callB (cr_all rfl) (by rfl) T.b_all (by decide +kernel) (pa_cons (pe_lc (own := [("k", 2)]) rfl sc__law_alike.nd (pi_range1 (by rfl) T.b_range (pa_cons (pe_callB call_len (by rfl) T.b_len (by decide +kernel) (pa_cons (pv 1) pa_nil)) pa_nil)) (blkOk_by (own := [("k", 2)]) (N := N__law_alike) (sc := defScope s__law_alike) (by decide +kernel)) (fun _ _ _ _ _ => (pg_name (i := 2) sc__law_alike.nd rfl (.inl rfl))) (fun _ _ _ _ _ => pts_nil) (fun _ _ _ _ _ => (pe_cl c__law_alike hr (Nat.le_refl _) (by rfl) (pa_cons (pe_ix (ix_seqK (K := K) rfl) (pv 0) (pv 2) (fun _ _ => rfl)) (pa_cons (pe_ix (ix_seqK (K := K) rfl) (pv 1) (pv 2) (fun _ _ => rfl)) pa_nil))))) pa_nil)))))))))), ?_⟩
    have no : ∀ {x : V}, x ≠ .non → ∀ {Q1 Q2 : Prop}, Q2 → (if decide (x = V.non) = true then Q1 else Q2) := fun h _ _ q => ite2 (fun z => absurd (of_decide_eq_true z) h) fun _ => q
    rcases dp with (⟨b, rfl⟩ | rfl) | ⟨i, rfl⟩ | ⟨z, rfl⟩ | ⟨ds, l1, sub, e⟩
    · cases hf
      cases hd
      refine ⟨_, rfl, rfl, _, rfl, no (by intro z; cases z) ?_⟩
      refine ⟨_, rfl, isi_b (b := true) (.bl _) (by decide +kernel) ⟨_, rfl, ite2 (fun _ => ?_) fun z => absurd (show true = true from rfl) z⟩⟩
      refine ⟨_, rfl, isi_b (b := true) (.bl _) (by decide +kernel) ⟨_, rfl, ite2 (fun _ => ?_) fun z => absurd (show true = true from rfl) z⟩⟩
      refine ⟨_, rfl, _, rfl, rfl, ?_⟩
      rw [decide_eq_true rfl]
      exact q H (Same.refl H)
    · cases hf
      cases hd
      refine ⟨_, rfl, rfl, _, rfl, ite2 (fun _ => ?_) fun z => absurd (decide_eq_true rfl) z⟩
      refine ⟨_, rfl, rfl, ?_⟩
      rw [decide_eq_true rfl]
      exact q H (Same.refl H)
    · cases hf
      cases hd
      refine ⟨_, rfl, rfl, _, rfl, no (by intro z; cases z) ?_⟩
      refine ⟨_, rfl, isi_b (b := false) (.int _) (by decide +kernel) ⟨_, rfl, ite2 (fun z => absurd z (by decide)) fun _ => ?_⟩⟩
      refine ⟨_, rfl, isi_b (b := true) (.int _) (by decide +kernel) ⟨_, rfl, ite2 (fun _ => ?_) fun z => absurd (show true = true from rfl) z⟩⟩
      refine ⟨_, rfl, isi_b (b := true) (.int _) (by decide +kernel) ⟨_, rfl, ite2 (fun _ => ?_) fun z => absurd (show true = true from rfl) z⟩⟩
      refine ⟨_, rfl, isi_b (b := false) (.int _) (by decide +kernel) ⟨_, rfl, _, rfl, ite2 (fun _ => ?_) fun z => absurd (show (!false) = true from rfl) z⟩⟩
      refine ⟨_, rfl, _, rfl, rfl, ?_⟩
      rw [decide_eq_true rfl]
      exact q H (Same.refl H)
    · cases hf
      cases hd
      refine ⟨_, rfl, rfl, _, rfl, no (by intro z; cases z) ?_⟩
      refine ⟨_, rfl, isi_b (b := false) (.str _) (by decide +kernel) ⟨_, rfl, ite2 (fun z => absurd z (by decide)) fun _ => ?_⟩⟩
      refine ⟨_, rfl, isi_b (b := false) (.str _) (by decide +kernel) ⟨_, rfl, ite2 (fun z => absurd z (by decide)) fun _ => ?_⟩⟩
      refine ⟨_, rfl, isi_b (b := true) (.str _) (by decide +kernel) ⟨_, rfl, ite2 (fun _ => ?_) fun z => absurd (show true = true from rfl) z⟩⟩
      refine ⟨_, rfl, isi_b (b := true) (.str _) (by decide +kernel) ⟨_, rfl, ite2 (fun _ => ?_) fun z => absurd (show true = true from rfl) z⟩⟩
      refine ⟨_, rfl, _, rfl, rfl, ?_⟩
      rw [decide_eq_true rfl]
      exact q H (Same.refl H)
    · obtain ⟨a1, xs, a2, ys, rfl, rfl, k1, k2, kind⟩ : ∃ a1 xs a2 ys, fo = .ref a1 ∧ du = .ref a2 ∧ AtAll S1 H xs ds ∧ AtAll S2 H ys ds ∧ ((H a1 = some (.lst xs) ∧ H a2 = some (.lst ys)) ∨ (H a1 = some (.tup xs) ∧ H a2 = some (.tup ys))) := by
        rcases e with rfl | rfl
        · cases hf with
          | lst n1 e1 k1 =>
          cases hd with
          | lst n2 e2 k2 => exact ⟨_, _, _, _, rfl, rfl, k1, k2, .inl ⟨e1, e2⟩⟩
        · cases hf with
          | tup n1 e1 k1 =>
          cases hd with
          | tup n2 e2 k2 => exact ⟨_, _, _, _, rfl, rfl, k1, k2, .inr ⟨e1, e2⟩⟩
      clear hf hd e
      have lx : xs.length = ds.length := k1.len
      have ly : ys.length = ds.length := k2.len
      have nB : ∀ {Q : VK}, Q (.bl false) H → RB K [.ref a2, .ty "bool"] H Q := fun q => kind.elim (fun e => isi_b (b := false) (.lst e.2) (by decide +kernel) q) fun e => isi_b (b := false) (.tup e.2) (by decide +kernel) q
      have nI : ∀ {Q : VK}, Q (.bl false) H → RB K [.ref a2, .ty "int"] H Q := fun q => kind.elim (fun e => isi_b (b := false) (.lst e.2) (by decide +kernel) q) fun e => isi_b (b := false) (.tup e.2) (by decide +kernel) q
      have nS : ∀ {Q : VK}, Q (.bl false) H → RB K [.ref a2, .ty "str"] H Q := fun q => kind.elim (fun e => isi_b (b := false) (.lst e.2) (by decide +kernel) q) fun e => isi_b (b := false) (.tup e.2) (by decide +kernel) q
      refine ⟨_, rfl, rfl, _, rfl, no (by intro z; cases z) ?_⟩
      refine ⟨_, rfl, nB ⟨_, rfl, ite2 (fun z => absurd z (by decide)) fun _ => ?_⟩⟩
      refine ⟨_, rfl, nI ⟨_, rfl, ite2 (fun z => absurd z (by decide)) fun _ => ?_⟩⟩
      refine ⟨_, rfl, nS ⟨_, rfl, ite2 (fun z => absurd z (by decide)) fun _ => ?_⟩⟩
      refine ⟨fun σ H' => σ = L2.start N__law_alike [.ref a1, .ref a2] ∧ H' = H, ?_, ?_⟩
      · rcases kind with ⟨e1, e2⟩ | ⟨e1, e2⟩
        · refine ⟨_, rfl, isi_b (b := false) (.lst e2) (by decide +kernel) ⟨_, rfl, ite2 (fun z => absurd z (by decide)) fun _ => ?_⟩⟩
          exact ⟨_, rfl, isi_b (b := true) (.lst e1) (by decide +kernel) ⟨_, rfl, ite2 (fun z => absurd z (by decide)) fun _ => ⟨rfl, rfl⟩⟩⟩
        · refine ⟨_, rfl, isi_b (b := true) (.tup e2) (by decide +kernel) ⟨_, rfl, ite2 (fun _ => ?_) fun z => absurd (show true = true from rfl) z⟩⟩
          exact ⟨_, rfl, isi_b (b := true) (.tup e1) (by decide +kernel) ⟨_, rfl, ite2 (fun z => absurd z (by decide)) fun _ => ⟨rfl, rfl⟩⟩⟩
      · rintro σ H' ⟨rfl, rfl⟩
        clear nB nI nS
        have k1 : AtAll S1 H' xs (ds.map id) := by rw [List.map_id]; exact k1
        have k2 : AtAll S2 H' ys (ds.map id) := by rw [List.map_id]; exact k2
        have len1 : LenV K (.ref a1) H' xs.length := kind.elim (fun e => .inl ⟨xs, .inl (.inl e.1), rfl⟩) fun e => .inr ⟨xs, .inl (.inl e.1), rfl⟩
        have len2 : LenV K (.ref a2) H' ys.length := kind.elim (fun e => .inl ⟨ys, .inl (.inl e.2), rfl⟩) fun e => .inr ⟨ys, .inl (.inl e.2), rfl⟩
        have ix1 : ∀ {Q : VK} {H2 : Hp} {i : Nat} {x : V}, Same H' H2 → xs[i]? = some x → Q x H2 → rIx K (.ref a1) (.int (0 + (i : Int))) H2 Q := fun z h q => kind.elim (fun e => .inl ⟨a1, xs, _, _, rfl, rfl, .inl (.inl (z _ _ e.1)), at_of (Int.zero_add _) h, q⟩) fun e => .inr (.inl ⟨a1, xs, _, _, rfl, rfl, .inl (.inl (z _ _ e.1)), at_of (Int.zero_add _) h, q⟩)
        have ix2 : ∀ {Q : VK} {H2 : Hp} {i : Nat} {x : V}, Same H' H2 → ys[i]? = some x → Q x H2 → rIx K (.ref a2) (.int (0 + (i : Int))) H2 Q := fun z h q => kind.elim (fun e => .inl ⟨a2, ys, _, _, rfl, rfl, .inl (.inl (z _ _ e.2)), at_of (Int.zero_add _) h, q⟩) fun e => .inr (.inl ⟨a2, ys, _, _, rfl, rfl, .inl (.inl (z _ _ e.2)), at_of (Int.zero_add _) h, q⟩)
        refine ⟨_, rfl, _, xs.length, rfl, len1, _, rfl, _, ys.length, rfl, len2, rfl, _, rfl, ite2 (fun z => ?_) fun _ => ?_⟩
        · rw [lx, ly, decide_eq_true rfl] at z
          exact absurd z (by decide)
        refine ⟨_, rfl, _, ys.length, rfl, len2, _, rfl, by omega, by omega, fun Dl hDl => ?_⟩
        rw [Int.toNat_natCast]
        refine lc_range (lo := 0) (n := ys.length) (fun i H2 => Same H' H2 ∧ H2 Dl = some (.lst ((List.replicate i true).map V.bl))) ⟨same_new hDl, upd_same⟩ ?_ ?_
        · rintro i H2 hi ⟨S2, hD⟩
          have hxi : xs[i]? = some xs[i] := List.getElem?_eq_getElem (by omega)
          have hyi : ys[i]? = some ys[i] := List.getElem?_eq_getElem hi
          obtain ⟨d1, hd1, at1⟩ := k1.at_ hxi
          obtain ⟨d2, hd2, at2⟩ := k2.at_ hyi
          rw [hd1] at hd2
          cases hd2
          refine ⟨rfl, _, rfl, _, rfl, ix1 S2 hxi ⟨_, rfl, _, rfl, ix2 S2 hyi ⟨_, _, _, _, d1, rfl, At.same at1 S2, At.same at2 S2, sub d1 (List.mem_of_getElem? hd1), fun H3 S3 => ?_⟩⟩⟩
          refine ⟨_, S3 _ _ hD, ?_, ?_, ?_⟩
          · rw [List.length_map, List.length_replicate]
            exact Evl.sz_lt (by omega)
          · exact fun b o e => by
              rw [upd_ne (ne_of_none e hDl)]
              exact S3 _ _ (S2 b o e)
          · rw [upd_same, List.replicate_succ', List.map_append]
            rfl
        · rintro H2 ⟨S2, hD⟩
          refine ⟨Dl, _, rfl, .inl (.inl hD), ?_⟩
          have ea : (List.replicate ys.length true).all id = true := List.all_eq_true.mpr fun b hb => by
            rw [List.eq_of_mem_replicate hb]
            rfl
          rw [ea]
          exact q H2 S2
/-- alike, to six steps into the depth -/
theorem ok_alike (T : Txt K mg) (D : Df K mg "_law_alike" s__law_alike ["found", "due"]) : Cl P w K mg base 7 "_law_alike" ["found", "due"] (sp_alike 6) :=
  ok_alikeS T (ok_alikeS T (ok_alikeS T (ok_alikeS T (ok_alikeS T (ok_alikeS T (ok_alike0 T D) D) D) D) D) D) D
end
end My
set_option Elab.async false
set_option linter.all false
set_option maxRecDepth 100000
set_option maxHeartbeats 4000000
namespace My
open PySem PySem.Spec PyProof.Rows L2
/-! H1f: the law's marks: numbers, runs, pairs. -/
/-- the numbers marked -/
def mkN (M : List Bool) : List Int := M.zipIdx.filterMap fun x => if x.1 = true then some ((x.2 : Nat) : Int) else none
theorem mkN_succ {M : List Bool} {i : Nat} {b : Bool} (h : M[i]? = some b) : mkN (M.take (i + 1)) = mkN (M.take i) ++ (if b = true then [((i : Nat) : Int)] else []) := by
  unfold mkN
  rw [zi_succ h, List.filterMap_append]
  cases b <;> rfl
theorem mkN_len (M : List Bool) : (mkN M).length ≤ M.length := by
  unfold mkN
  have := List.length_filterMap_le (fun x : Bool × Nat => if x.1 = true then some ((x.2 : Nat) : Int) else none) M.zipIdx
  rw [List.length_zipIdx] at this
  exact this
theorem shaped_prs (L : List (Int × Int)) : SeqAt.shaped (.list (L.map prD)) = true := by
  unfold SeqAt.shaped
  rw [Bool.and_eq_true]
  refine ⟨lay_map prD _ fun s _ => lay_pr s, decide_eq_true ?_⟩
  have := dep_map prD 1 L fun s _ => dep_pr s
  show PyData.depthAll _ + 1 ≤ 64
  omega
def sp_pairL : Sp := fun vs H Q _ => ∃ (c n : Int), vs = [.int c, .int n] ∧ 1 ≤ n ∧ n ≤ 400 ∧ ∀ (s : Int × Int) t H', Same H H' → H t = none → H' t = some (.tup [.int s.1, .int s.2]) → 0 ≤ s.1 → s.1 ≤ s.2 → s.2 < n → Q (.ref t) H'
def sp_lawNums : Sp := fun vs H Q _ => ∃ (m : Addr) (M : List Bool), vs = [.ref m] ∧ H m = some (.lst (M.map V.bl)) ∧ M.length ≤ 1000 ∧ ∀ l H', Same H H' → H l = none → H' l = some (.lst ((mkN M).map V.int)) → Q (.ref l) H'
def sp_lawRuns : Sp := fun vs H Q _ => ∃ (S : Av) (m : Addr) (M : List Bool), vs = [.ref m] ∧ Occ S H ∧ H m = some (.lst (M.map V.bl)) ∧ M.length ≤ 1000 ∧ ∀ l rows H', Same H H' → H l = none → H' l = some (.lst rows) → AtAll S H' rows ((runsD (mkN M)).map prD) → Q (.ref l) H'
/-- the marks of the stretches ps -/
def covB (ps : List (Int × Int)) (n : Nat) : List Bool := (List.range n).map fun (i : Nat) => ps.any fun s => decide (s.1 ≤ (i : Int)) && decide ((i : Int) ≤ s.2)
theorem cov_at (ps : List (Int × Int)) (n i : Nat) (h : i < n) : (covB ps n)[i]? = some (ps.any fun s => decide (s.1 ≤ (i : Int)) && decide ((i : Int) ≤ s.2)) := by
  unfold covB
  rw [List.getElem?_map, List.getElem?_range h]
  rfl
theorem cov_len (ps : List (Int × Int)) (n : Nat) : (covB ps n).length = n := by
  unfold covB
  rw [List.length_map, List.length_range]
theorem cov_ext {n : Nat} {L : List Bool} {ps : List (Int × Int)} (hl : L.length = n) (h : ∀ i, i < n → L[i]? = some (ps.any fun s => decide (s.1 ≤ (i : Int)) && decide ((i : Int) ≤ s.2))) : L = covB ps n := by
  refine List.ext_getElem? fun i => ?_
  by_cases hi : i < n
  · rw [h i hi, cov_at ps n i hi]
  · rw [List.getElem?_eq_none (by omega), List.getElem?_eq_none (by rw [cov_len]; omega)]
theorem cov_empty (ps : List (Int × Int)) (n : Nat) {s : Int × Int} (h : s.2 < s.1) : covB (ps ++ [s]) n = covB ps n := by
  refine cov_ext (cov_len _ _) fun i hi => ?_
  rw [cov_at _ _ _ hi, List.any_append]
  have e : ([s].any fun s => decide (s.1 ≤ (i : Int)) && decide ((i : Int) ≤ s.2)) = false := by
    rw [List.any_cons, List.any_nil, Bool.or_false, Bool.and_eq_false_iff]
    by_cases h1 : s.1 ≤ (i : Int)
    · exact .inr (decide_eq_false (by omega))
    · exact .inl (decide_eq_false h1)
  rw [e, Bool.or_false]
theorem cov_set (ps : List (Int × Int)) (n : Nat) {a b : Int} (z : Int) (h0 : 0 ≤ z) (h1 : z < n) (hb : b = z - 1) (ha : a ≤ z) : (covB (ps ++ [(a, b)]) n).set z.toNat true = covB (ps ++ [(a, z)]) n := by
  refine cov_ext (by rw [List.length_set, cov_len]) fun i hi => ?_
  rw [List.getElem?_set, cov_at _ _ _ hi, cov_len]
  by_cases e : z.toNat = i
  · rw [if_pos e, if_pos (by omega)]
    refine congrArg some ?_
    symm
    rw [List.any_append, List.any_cons]
    have e2 : (decide (a ≤ (i : Int)) && decide ((i : Int) ≤ z)) = true := by
      rw [decide_eq_true (by omega), decide_eq_true (by omega)]
      rfl
    show (_ || ((decide (a ≤ (i : Int)) && decide ((i : Int) ≤ z)) || _)) = true
    rw [e2, Bool.true_or, Bool.or_true]
  · rw [if_neg e, List.any_append, List.any_append]
    refine congrArg some (congrArg _ ?_)
    rw [List.any_cons, List.any_nil, List.any_cons, List.any_nil]
    show ((decide (a ≤ (i : Int)) && decide ((i : Int) ≤ b)) || false) = ((decide (a ≤ (i : Int)) && decide ((i : Int) ≤ z)) || false)
    have e3 : decide ((i : Int) ≤ b) = decide ((i : Int) ≤ z) := decide_eq_decide.mpr (by omega)
    rw [e3]
theorem rep_bl (n : Nat) : (List.replicate n [V.bl false]).flatten = (covB [] n).map V.bl := by
  have e : covB [] n = List.replicate n false := by
    unfold covB
    exact List.eq_replicate_iff.mpr ⟨by rw [List.length_map, List.length_range], fun b hb => by obtain ⟨_, _, rfl⟩ := List.mem_map.mp hb; rfl⟩
  rw [e]
  induction n with
  | zero => rfl
  | succ n ih =>
    have ih := ih (by
      unfold covB
      exact List.eq_replicate_iff.mpr ⟨by rw [List.length_map, List.length_range], fun b hb => by obtain ⟨_, _, rfl⟩ := List.mem_map.mp hb; rfl⟩)
    rw [List.replicate_succ, List.flatten_cons, ih, List.replicate_succ]
    rfl
def sp_marked : Sp := fun vs H Q _ => ∃ (l : Addr) (xs : List V) (ps : List (Int × Int)) (n : Nat), vs = [.ref l, .int (n : Nat)] ∧ H l = some (.lst xs) ∧ PrsAt H xs ps ∧ n ≤ 1000 ∧ (∀ s ∈ ps, 0 ≤ s.1 ∧ s.1 ≤ s.2 ∧ s.2 < (n : Nat)) ∧ ∀ m H', Same H H' → H m = none → H' m = some (.lst ((covB ps n).map V.bl)) → Q (.ref m) H'
section
variable {P : Program} {w : World} {K : PySem.W.Frag} {mg : Str → Option Value} {base : Heap}
end
end My
set_option Elab.async false
set_option linter.all false
set_option maxRecDepth 100000
set_option maxHeartbeats 4000000
namespace My
open PySem PySem.Spec PyProof.Rows L2
/-! H1m: marks and their numbers; places made anew; how deep data are. -/
theorem mkN_mem {M : List Bool} {z : Int} : z ∈ mkN M ↔ ∃ i : Nat, z = (i : Int) ∧ M[i]? = some true := by
  unfold mkN
  rw [List.mem_filterMap]
  constructor
  · rintro ⟨⟨b, i⟩, hx, e⟩
    cases b with
    | false => cases e
    | true =>
      cases e
      exact ⟨i, rfl, by simpa using List.mem_zipIdx_iff_getElem?.mp hx⟩
  · rintro ⟨i, rfl, h⟩
    exact ⟨(true, i), List.mem_zipIdx_iff_getElem?.mpr (by simpa using h), rfl⟩
theorem mkN_bnd {M : List Bool} {z : Int} (h : z ∈ mkN M) : 0 ≤ z ∧ z < (M.length : Int) := by
  obtain ⟨i, rfl, hi⟩ := mkN_mem.mp h
  have := (List.getElem?_eq_some_iff.mp hi).1
  omega
theorem has_mark {M : List Bool} {i : Nat} {b : Bool} (h : M[i]? = some b) : inN (mkN M) (.int (i : Nat)) = b := by
  show decide (((i : Nat) : Int) ∈ mkN M) = b
  cases b with
  | true => exact decide_eq_true (mkN_mem.mpr ⟨i, rfl, h⟩)
  | false =>
    refine decide_eq_false fun z => ?_
    obtain ⟨j, e, hj⟩ := mkN_mem.mp z
    have : i = j := by omega
    subst this
    rw [h] at hj
    cases hj
theorem no_mark {M : List Bool} {z : Int} (h : z < 0 ∨ (M.length : Int) ≤ z) : inN (mkN M) (.int z) = false := decide_eq_false fun q => by
  have := mkN_bnd q
  omega
/-- data of ints, of pairs -/
theorem dpt_ints {n : Nat} (L : List Int) (h : L.length ≤ 1000) : Dpt (n + 2) (.list (L.map PyData.int)) := .inr (.inr (.inr ⟨_, by rw [List.length_map]; exact h, fun x hx => by
  obtain ⟨i, _, rfl⟩ := List.mem_map.mp hx
  exact .inr (.inl ⟨i, rfl⟩), .inl rfl⟩))
theorem dpt_prs {n : Nat} (L : List (Int × Int)) (h : L.length ≤ 1000) : Dpt (n + 3) (.list (L.map prD)) := .inr (.inr (.inr ⟨_, by rw [List.length_map]; exact h, fun x hx => by
  obtain ⟨s, _, rfl⟩ := List.mem_map.mp hx
  refine .inr (.inr (.inr ⟨_, by show 2 ≤ 1000; decide, fun y hy => ?_, .inr rfl⟩))
  simp only [List.mem_cons, List.not_mem_nil, or_false] at hy
  rcases hy with rfl | rfl
  · exact .inr (.inl ⟨_, rfl⟩)
  · exact .inr (.inl ⟨_, rfl⟩), .inl rfl⟩))
theorem at_ints {H : Hp} {l : Addr} {L : List Int} (h : H l = some (.lst (L.map V.int))) : At (fun _ => False) H (.ref l) (.list (L.map PyData.int)) := .lst (fun z => z) h (AtAll.ints L)
theorem at_prs {S : Av} {H : Hp} {l : Addr} {rows : List V} {L : List (Int × Int)} (h : H l = some (.lst rows)) (a : AtAll S H rows (L.map prD)) : At (fun _ => False) H (.ref l) (.list (L.map prD)) := .lst (fun z => z) h (AtAll.weak (fun _ z => z.elim) _ _ a)
theorem mkN_pw (M : List Bool) : (mkN M).Pairwise (· < ·) := by
  have key : ∀ i, i ≤ M.length → (mkN (M.take i)).Pairwise (· < ·) ∧ ∀ z ∈ mkN (M.take i), z < (i : Int) := by
    intro i
    induction i with
    | zero => exact fun _ => ⟨by rw [List.take_zero]; exact .nil, fun z h => by rw [List.take_zero] at h; cases h⟩
    | succ i ih =>
      intro hi
      obtain ⟨h1, h2⟩ := ih (by omega)
      rw [mkN_succ (List.getElem?_eq_getElem (by omega : i < M.length))]
      split
      · refine ⟨List.pairwise_append.mpr ⟨h1, List.pairwise_singleton .., fun a ha b hb => ?_⟩, fun z hz => ?_⟩
        · rw [List.mem_singleton.mp hb]
          exact h2 a ha
        · rcases List.mem_append.mp hz with hz | hz
          · have := h2 z hz
            omega
          · have := List.mem_singleton.mp hz
            omega
      · rw [List.append_nil]
        exact ⟨h1, fun z hz => by have := h2 z hz; omega⟩
  have := (key M.length (Nat.le_refl _)).1
  rw [List.take_length] at this
  exact this
theorem nums_cov {ps : List (Int × Int)} {N : List Int} {n : Nat} (h : IsNums ps N) (k : ∀ s ∈ ps, 0 ≤ s.1 ∧ s.1 ≤ s.2 ∧ s.2 < (n : Int)) : N = mkN (covB ps n) := by
  refine rise_ext h.pw (mkN_pw _) fun z => ?_
  rw [h.mem, mkN_mem]
  constructor
  · rintro ⟨s, hs, h1, h2⟩
    have := k s hs
    refine ⟨z.toNat, by omega, ?_⟩
    rw [cov_at _ _ _ (by omega)]
    refine congrArg some (List.any_eq_true.mpr ⟨s, hs, ?_⟩)
    rw [decide_eq_true (by omega), decide_eq_true (by omega)]
    rfl
  · rintro ⟨i, rfl, hi⟩
    have hlt := (List.getElem?_eq_some_iff.mp hi).1
    rw [cov_len] at hlt
    rw [cov_at _ _ _ hlt] at hi
    obtain ⟨s, hs, e⟩ := List.any_eq_true.mp (Option.some.inj hi)
    rw [Bool.and_eq_true] at e
    exact ⟨s, hs, of_decide_eq_true e.1, of_decide_eq_true e.2⟩
/-- places made anew -/
theorem mk_pc {S : Av} {H : Hp} {CP C e x dx : Addr} {B : Bks} {L : List Int} {pr : V} {o : Option (List (Int × Int))} {Q : VK} {E : XK} (ho : Occ S H) (ed : EdAt S H C e B L) (l4 : (plOf B).length ≤ 400) (hl : LnIn H pr o) (ok : okPrs (plOf B).length (prsO o)) (hx : H x = none) (hdx : H dx = none) (ne : dx ≠ x)
    (q : ∀ H', Same H H' → PcAt S H' CP x e (mkN (covB (prsO o) (plOf B).length)) → Q .non H') : sp_initP CP C [.ref x, .ref e, pr] (upd (upd H dx (.own x)) x (.ins CP dx [])) Q E := by
  have S8 : Same H (upd (upd H dx (.own x)) x (.ins CP dx [])) := (same_new hdx).trans (same_new (by rw [upd_ne ne.symm]; exact hx))
  refine ⟨S, x, dx, e, pr, B, L, o, rfl, ho.free hx, ho.same S8, upd_same, (ed.plusN hx).bt (Same.btS S8), l4, hl.same S8, ok, fun H' N b nm pc => ?_⟩
  have S9 : Same H H' := fun p ob eo => b p ob (ne_of_none eo hx) (S8 p ob eo)
  have e2 := nums_cov nm fun s hs => ok.2 s hs
  rw [e2] at pc
  exact q H' S9 pc
theorem fewest_all (n : Nat) (h : 1 ≤ n) : fewest (lnP (0, (n : Nat))) = [(0, ((n : Nat) : Int))] := by
  have ll : (lnP (0, ((n : Nat) : Int))).length = n := by
    rw [lnP_len]
    exact Int.toNat_natCast n
  have key : ∀ k : Nat, 1 ≤ k → k ≤ n → fewest ((lnP (0, ((n : Nat) : Int))).take k) = [(0, ((k : Nat) : Int))] := by
    intro k
    induction k with
    | zero => intro h; omega
    | succ k ih =>
      intro _ hk
      have hz : (lnP (0, ((n : Nat) : Int)))[k]? = some (k : Int) := by
        unfold lnP
        rw [List.getElem?_map, List.getElem?_range (by show k < ((n : Nat) : Int).toNat; omega)]
        show some ((0 : Int) + (k : Int)) = _
        rw [Int.zero_add]
      rw [fewest_succ hz]
      by_cases h0 : k = 0
      · subst h0
        rw [List.take_zero]
        rfl
      · rw [ih (by omega) (by omega)]
        show fpStep ([] ++ [(0, ((k : Nat) : Int))]) _ = _
        rw [fp_snoc, if_pos (by show (k : Int) = 0 + (k : Int); omega)]
        show [((0 : Int), ((k : Nat) : Int) + 1)] = _
        rw [show ((k : Nat) : Int) + 1 = ((k + 1 : Nat) : Int) by omega]
  have := key n h (Nat.le_refl _)
  rw [List.take_of_length_le (by omega)] at this
  exact this
theorem dpt_tup {n : Nat} {ds : List PyData} (h : ds.length ≤ 1000) (k : ∀ x ∈ ds, Dpt n x) : Dpt (n + 1) (.tuple ds) := .inr (.inr (.inr ⟨ds, h, k, .inr rfl⟩))
theorem dpt_ch {n : Nat} (c : List Int) (h : c.length ≤ 30) : Dpt (n + 2) (chD c) := dpt_tup (by rw [List.length_map]; omega) fun x hx => by
  obtain ⟨i, _, rfl⟩ := List.mem_map.mp hx
  exact .inr (.inl ⟨i, rfl⟩)
theorem dpt_pr {n : Nat} (s : Int × Int) : Dpt (n + 2) (prD s) := dpt_tup (by show 2 ≤ 1000; decide) fun y hy => by
  simp only [List.mem_cons, List.not_mem_nil, or_false] at hy
  rcases hy with rfl | rfl
  · exact .inr (.inl ⟨_, rfl⟩)
  · exact .inr (.inl ⟨_, rfl⟩)
theorem dpt_bk {n : Nat} {b : List Nat × List (List Int)} (h : b.2.length ≤ 12) (k : ∀ c ∈ b.2, c.length ≤ 30) : Dpt (n + 4) (bkD b) := dpt_tup (by show 2 ≤ 1000; decide) fun y hy => by
  simp only [List.mem_cons, List.not_mem_nil, or_false] at hy
  rcases hy with rfl | rfl
  · exact .inr (.inr (.inl ⟨_, rfl⟩))
  · exact dpt_tup (by rw [List.length_map]; omega) fun x hx => by
      obtain ⟨c, hc, rfl⟩ := List.mem_map.mp hx
      exact dpt_ch c (k c hc)
theorem dpt_told {B : Bks} (ok : okBks B) (s : Int × Int) : Dpt 6 (.tuple [bksD B, .tuple [prD s]]) := dpt_tup (by show 2 ≤ 1000; decide) fun y hy => by
  simp only [List.mem_cons, List.not_mem_nil, or_false] at hy
  have l6 := ok.l1
  rcases hy with rfl | rfl
  · exact dpt_tup (by rw [List.length_map]; omega) fun x hx => by
      obtain ⟨b, hb, rfl⟩ := List.mem_map.mp hx
      exact dpt_bk (ok.ch b hb).2.1 fun c hc => ((ok.ch b hb).2.2 c hc).l1
  · exact dpt_tup (by show 1 ≤ 1000; decide) fun x hx => by
      rw [List.mem_singleton.mp hx]
      exact dpt_pr s
theorem same_over {H H1 : Hp} {l : Addr} {o : HO} (s : Same H H1) (h : H l = none) : Same H (upd H1 l o) := fun b ob e => by
  rw [upd_ne (ne_of_none e h)]
  exact s b ob e
end My
set_option Elab.async false
set_option linter.all false
set_option maxRecDepth 100000
set_option maxHeartbeats 4000000
namespace My
open PySem PySem.Spec PyProof.Rows L2
/-! H2a: threads (lines of an edition), marks. -/
def sp_threads : Sp := fun vs H Q _ => ∃ (rl : Addr) (ns : List Int) (n : Nat) (sp low way : Int), vs = [.ref rl, .int (n : Nat), .int sp, .int low, .int way] ∧ H rl = some (.lst (ns.map V.int)) ∧ ns.length ≤ 40 ∧ (∀ z ∈ ns, 0 ≤ z) ∧ n ≤ 400 ∧ 1 ≤ sp ∧ sp ≤ 403 ∧ 0 ≤ low ∧ low < 4600 ∧
  ∀ l (Th : List Int) H', Same H H' → H l = none → H' l = some (.lst (Th.map V.int)) → Th.length = n → Th.Nodup → (∀ z ∈ Th, 0 ≤ z ∧ z < 9999) → Q (.ref l) H'
structure EdOk (B : Bks) (L : List Int) : Prop where
  bk : okBks B
  l4 : (plOf B).length ≤ 400
  ll : L.length = (plOf B).length
  nd : L.Nodup
  ln : lns L
/-- lines that may be one further on -/
def lnt (L : List Int) : Prop := ∀ z ∈ L, 0 ≤ z ∧ z < 9999
theorem lnt.ln {L : List Int} (h : lnt L) : lns L := fun z hz => ⟨(h z hz).1, by have := (h z hz).2; omega⟩
def sp_marksL : Sp := fun vs H Q _ => ∃ (c : Int) (n : Nat) (sl : Int), vs = [.int c, .int (n : Nat), .int sl] ∧ n ≤ 400 ∧ 0 ≤ sl ∧ sl ≤ 100000 ∧ ∀ l M H', Same H H' → H l = none → H' l = some (.lst ((M : List Bool).map V.bl)) → M.length = n → Q (.ref l) H'
theorem rep_b (n : Nat) (d : Bool) : (List.replicate n [V.bl d]).flatten = (List.replicate n d).map V.bl := by
  induction n with
  | zero => rfl
  | succ n ih =>
    rw [List.replicate_succ, List.flatten_cons, ih, List.replicate_succ]
    rfl
section
variable {P : Program} {w : World} {K : PySem.W.Frag} {mg : Str → Option Value} {base : Heap}
end
end My
set_option Elab.async false
set_option linter.all false
set_option maxRecDepth 100000
set_option maxHeartbeats 4000000
namespace My
open PySem PySem.Spec PyProof.Rows L2
/-! H2b: threads. -/
theorem lnP_succN (low : Int) (i : Nat) : lnP (low, ((i + 1 : Nat) : Int)) = lnP (low, ((i : Nat) : Int)) ++ [low + (i : Int)] := by
  unfold lnP
  show (List.range ((i + 1 : Nat) : Int).toNat).map _ = (List.range ((i : Nat) : Int).toNat).map _ ++ _
  rw [Int.toNat_natCast, Int.toNat_natCast, List.range_succ, List.map_append]
  rfl
theorem shapedI (L : List Int) : SeqAt.shaped (.list (L.map PyData.int)) = true := by
  unfold SeqAt.shaped
  rw [Bool.and_eq_true]
  refine ⟨lay_map PyData.int L fun _ _ => rfl, decide_eq_true ?_⟩
  have := dep_map PyData.int 0 L fun x _ => Nat.le_refl _
  show PyData.depthAll _ + 1 ≤ 64
  omega
theorem tk_some {L : List Int} {z : Int} (m : z ∈ L) : (valV (tkD L) (Sum.inl z : Key)).isSome = true := by
  have := tk_any L z
  rw [decide_eq_true m] at this
  unfold valV
  cases hf : (tkD L).find? (fun kv => decide (kv.1 = (Sum.inl z : Key))) with
  | none =>
    rw [List.find?_eq_none] at hf
    obtain ⟨kv, a, b⟩ := List.any_eq_true.mp this
    exact absurd b (hf kv a)
  | some kv => rfl
structure OkTh (Th : List Int) (n : Nat) (lo hi : Int) : Prop where
  nd : Th.Nodup
  bd : ∀ z ∈ Th, lo ≤ z ∧ z < hi
  ln : Th.length ≤ n
section
variable {P : Program} {w : World} {K : PySem.W.Frag} {mg : Str → Option Value} {base : Heap}
theorem ok_threads (T : Txt K mg) (D : Df K mg "_law_threads" s__law_threads ["row", "size", "span", "low", "way"]) : Cl P w K mg base 2 "_law_threads" ["row", "size", "span", "low", "way"] sp_threads := by
  refine ok_of D sc__law_threads (fun vs H Q E h => ?_) (fun f cdv A outer s H vs Q E hr h => ?_)
  · obtain ⟨rl, ns, n, sp, low, way, rfl, _⟩ := h
    rfl
  · obtain ⟨rl, ns, n, sp, low, way, rfl, hrl, l40, nn, n4, p0, p1, l0, l1, q⟩ := h
    refine ⟨_, (pss_cons (ps_if (pt_cmpR op_eq (pv 4) pe_int (nomark _)) (pss_one (ps_ret (pe_lc (own := [("n", 11)]) rfl sc__law_threads.nd (pi_range1 (by rfl) T.b_range (pa_cons (pv 1) pa_nil)) (blkOk_by (own := [("n", 11)]) (N := N__law_threads) (sc := defScope s__law_threads) (by decide +kernel)) (fun _ _ _ _ _ => (pg_name (i := 11) sc__law_threads.nd rfl (.inl rfl))) (fun _ _ _ _ _ => pts_nil) (fun _ _ _ _ _ => (pe_op op_add (pv 3) (pv 11)))))) pss_nil)
      (pss_cons (ps_set (i := 5) sc__law_threads.nd rfl (.inl rfl) (pe_lst pa_nil))
      (pss_cons (ps_set (i := 6) sc__law_threads.nd rfl (.inl rfl) pe_dnewK)
      (pss_cons (ps_for PassesOwn.never rfl (pi_list (pv 0)) (pg_name (i := 7) sc__law_threads.nd rfl (.inl rfl))
        (pss_cons (ps_set (i := 8) sc__law_threads.nd rfl (.inl rfl) (pe_op op_add (pv 3) (pe_op op_mod (pv 7) (pv 2))))
        (C8.pss_cut (ps_if (PW.pt (pw_and (pt_cmpR op_eq (pv 4) pe_int (nomark _)) (pw_and1 (pt_cmpR (op_neD hr.units) (pv 5) (pe_lst pa_nil) (nomark _))))) (pss_one (ps_set (i := 8) sc__law_threads.nd rfl (.inl rfl) (pe_op op_add (pe_op op_add (pe_ix ix_list (pv 5) (pe_un un_neg pe_int) (fun _ _ => rfl)) pe_int) (pe_op op_mod (pv 7) pe_int)))) pss_nil)
        (pss_cons (ps_set (i := 9) sc__law_threads.nd rfl (.inl rfl) (pe_op op_add pe_int (pe_op op_mod (pe_op op_fdiv (pv 7) (pv 2)) (pe_ix ix_list (pe_lst (pa_cons pe_int (pa_cons pe_int (pa_cons pe_int (pa_cons pe_int pa_nil))))) (pe_op op_mod (pe_op op_fdiv (pv 7) (pe_op op_mul pe_int (pv 2))) pe_int) (fun _ _ => rfl)))))
        (pss_one (ps_for PassesOwn.never rfl (pi_range2 (by rfl) T.b_range (pa_cons (pv 8) (pa_cons (pe_op op_add (pv 8) (pv 9)) pa_nil))) (pg_name (i := 10) sc__law_threads.nd rfl (.inl rfl))
          (pss_one (ps_if (PW.pt (pw_and (pt_cmp (pc_dnotin (hu_of hr) (pv 10) (pv 6))) (pw_and1 (pt_cmpR op_lt (pe_callB call_len (by rfl) T.b_len (by decide +kernel) (pa_cons (pv 5) pa_nil)) (pv 1) (nomark _))))) (pss_cons (ps_dput (hu_of hr) (pv 6) (pv 10) pe_bl rfl)
            (pss_one (ps_expr (pe_bm PySem.F.plainAttrs_list PySem.F.slot_list_append PySem.F.type_list_append mt_append (pv 5) (pa_cons (pv 10) pa_nil))))) pss_nil))))))))
      (pss_one (ps_ret (pe_op op_cat (pv 5) (pe_lc (own := [("k", 12)]) rfl sc__law_threads.nd (pi_range1 (by rfl) T.b_range (pa_cons (pe_op op_sub (pv 1) (pe_callB call_len (by rfl) T.b_len (by decide +kernel) (pa_cons (pv 5) pa_nil))) pa_nil)) (blkOk_by (own := [("k", 12)]) (N := N__law_threads) (sc := defScope s__law_threads) (by decide +kernel)) (fun _ _ _ _ _ => (pg_name (i := 12) sc__law_threads.nd rfl (.inl rfl))) (fun _ _ _ _ _ => pts_nil) (fun _ _ _ _ _ => (pe_op op_add (pe_op op_add (pv 3) pe_int) (pv 12))))))))))), ?_⟩
    refine ⟨_, rfl, rfl, _, rfl, ite2 (fun _ => ?_) (fun _ => ?_)⟩
    · refine ⟨_, rfl, (n : Nat), rfl, by omega, by omega, fun Dl hDl => ?_⟩
      rw [Int.toNat_natCast]
      refine lc_range (lo := 0) (n := n) (fun i H' => Same H H' ∧ H' Dl = some (.lst ((lnP (low, (i : Nat))).map V.int))) ⟨same_new hDl, upd_same⟩ ?_ ?_
      · rintro i H1 hi ⟨S1, e1⟩
        refine ⟨rfl, _, rfl, _, rfl, low, 0 + (i : Int), rfl, rfl, _, e1, Evl.sz_lt (by rw [List.length_map, lnP_len]; show (i : Int).toNat < 100000; omega), fun b o eo => ?_, ?_⟩
        · rw [upd_ne (ne_of_none eo hDl)]
          exact S1 b o eo
        · rw [upd_same, lnP_succN, List.map_append]
          show some (HO.lst (_ ++ [V.int (low + (0 + (i : Int)))])) = _
          rw [Int.zero_add]
          rfl
      · rintro H1 ⟨S1, e1⟩
        exact q Dl _ H1 S1 hDl e1 (by rw [lnP_len]; exact Int.toNat_natCast n) (lnP_nodup _) fun z hz => by
          have := mem_lnP hz
          dsimp only at this
          omega
    refine ⟨Nat.zero_le _, fun tl htl => ?_⟩
    intro d hd
    have S0 := (same_new (o := .lst []) htl).trans (same_new (o := .dK []) hd)
    have hd0 : H d = none := Same.fresh (same_new htl) hd
    have tne : tl ≠ d := fun z => by rw [z, upd_same] at hd; cases hd
    have rt : rl ≠ tl := ne_of_none hrl htl
    have rd : rl ≠ d := ne_of_none hrl hd0
    refine ⟨_, rfl, rl, rfl, ⟨_, .inl (.inl (S0 _ _ hrl))⟩, for_it (walk_list (xs := ns.map V.int)) (fun i σ H' => ∃ (t7 t8 t9 t10 : Option V) (Th : List Int), σ = [some (.ref rl), some (.int (n : Nat)), some (.int sp), some (.int low), some (.int way), some (.ref tl), some (.ref d), t7, t8, t9, t10, none, none] ∧ Same H H' ∧ H' rl = some (.lst (ns.map V.int)) ∧ H' tl = some (.lst (Th.map V.int)) ∧ H' d = some (.dK (tkD Th)) ∧ OkTh Th n low (low + 500 + 70 * (i : Int))) ⟨_, _, _, _, [], rfl, S0, S0 _ _ hrl, same_new hd _ _ upd_same, upd_same, List.nodup_nil, (fun z h => nomatch h), Nat.zero_le _⟩ (fun i σ H' _ ⟨_, _, _, _, _, _, _, z, _⟩ => .inl (.inl z)) ?_ ?_⟩
    · rintro i x σ H1x H1 hi ⟨t7, t8, t9, t10, Th, rfl, S1, r1, a1, b1, ok1⟩ ⟨rfl, hx⟩
      rw [List.length_map] at hi
      obtain ⟨z, hz⟩ : ∃ z, ns[i]? = some z := ⟨_, List.getElem?_eq_getElem hi⟩
      rw [List.getElem?_map, hz] at hx
      cases hx
      have z0 := nn z (List.mem_of_getElem? hz)
      have n3 : (0 : Int) < sp := by omega
      have m0 := Int.emod_nonneg z (show sp ≠ 0 by omega)
      have m1 := Int.emod_lt_of_pos z n3
      refine ⟨_, rfl, _, rfl, _, rfl, z, _, rfl, rfl, n3, low, _, rfl, rfl, ?_⟩
      refine ⟨fun σ H' => ∃ (fi : Int), σ = [some (.ref rl), some (.int (n : Nat)), some (.int sp), some (.int low), some (.int way), some (.ref tl), some (.ref d), some (.int z), some (.int fi), t9, t10, none, none] ∧ Same H1 H' ∧ low ≤ fi ∧ fi < low + 503 + 70 * (i : Int), ?_, ?_⟩
      · refine ⟨_, rfl, rfl, _, rfl, ite2 (fun _ => ?_) (fun _ => ite2 (fun z => absurd z Bool.false_ne_true) fun _ => ⟨_, rfl, Same.refl _, by omega, by omega⟩)⟩
        refine ⟨_, rfl, Nat.zero_le _, fun n0 hn0 => ?_⟩
        have S2 := same_new (o := .lst []) hn0
        have dpr : Dp K (upd H1 n0 (.lst [])) (.ref tl) (.list (Th.map PyData.int)) := At.dp _ _ (.lst (p := fun _ => False) (xs := Th.map V.int) (fun z => z) (S2 _ _ a1) (AtAll.ints Th))
        refine ⟨_, .list [], dpr, .lst (.inl (.inl upd_same)) .nil, shapedI _, by decide +kernel, ?_⟩
        clear dpr
        rcases List.eq_nil_or_concat Th with e | ⟨T0, m, e⟩
        · rw [e]
          exact ⟨_, rfl, ite2 (fun z => absurd z (by decide)) fun _ => ⟨_, rfl, S2, by omega, by omega⟩⟩
        · rw [List.concat_eq_append] at e
          have ev : (!PyData.eqv (.list (Th.map PyData.int)) (.list [])) = true := by
            rw [e]
            cases T0 <;> rfl
          rw [ev]
          have hm := ok1.bd m (by rw [e]; simp)
          have k0 := Int.emod_nonneg z (show (3 : Int) ≠ 0 by decide)
          have k1 := Int.emod_lt_of_pos z (show (0 : Int) < 3 by decide)
          have at2 := S2 _ _ a1
          rw [e, List.map_append] at at2
          exact ⟨_, rfl, ite2 (fun _ => ⟨_, rfl, _, rfl, tl, _, -1, .int m, rfl, rfl, .inl (.inl at2), atI_last _ _, m, 1, rfl, rfl, _, rfl, z, 3, rfl, rfl, (by show (0 : Int) < 3; decide), _, _, rfl, rfl, _, rfl, S2, by omega, by omega⟩) (fun z => absurd (show true = true from rfl) z)⟩
      rintro σ H2 ⟨fi, rfl, S2, f0, f1⟩
      obtain ⟨mv, hmv, v0, v1⟩ : ∃ v, atI [V.int 1, .int 3, .int 9, .int 60] (z / (60 * sp) % 4) = some (.int v) ∧ 1 ≤ v ∧ v ≤ 60 := by
        generalize z / (60 * sp) = g
        rcases (by omega : g % 4 = 0 ∨ g % 4 = 1 ∨ g % 4 = 2 ∨ g % 4 = 3) with e | e | e | e <;> rw [e]
        · exact ⟨1, rfl, by decide, by decide⟩
        · exact ⟨3, rfl, by decide, by decide⟩
        · exact ⟨9, rfl, by decide, by decide⟩
        · exact ⟨60, rfl, by decide, by decide⟩
      refine ⟨_, rfl, _, rfl, z, _, rfl, rfl, ⟨by omega, by omega⟩, by show 4 ≤ sizeLine; decide, fun b hb => ⟨_, rfl, _, rfl, 60, _, rfl, rfl, .inl ⟨by decide, by decide⟩, z, _, rfl, rfl, ⟨by omega, by omega⟩, _, 4, rfl, rfl, (by show (0 : Int) < 4; decide), b, _, _, _, rfl, rfl, .inl (.inl upd_same), hmv, _, mv, rfl, rfl, (by show 0 < mv; omega), 1, _, rfl, rfl, ?_⟩⟩
      have y0 := Int.emod_nonneg (z / sp) (show mv ≠ 0 by omega)
      have y1 := Int.emod_lt_of_pos (z / sp) (show 0 < mv by omega)
      obtain ⟨y, hy⟩ : ∃ y, z / sp % mv = y := ⟨_, rfl⟩
      rw [hy] at y0 y1
      have S3 := (S1.trans S2).trans (same_new (o := .lst [V.int 1, .int 3, .int 9, .int 60]) hb)
      have S13 := S2.trans (same_new (o := .lst [V.int 1, .int 3, .int 9, .int 60]) hb)
      have i40 : (i : Int) < 40 := by omega
      refine ⟨_, rfl, _, rfl, _, rfl, fi, 1 + y, rfl, congrArg (fun g => V.int (1 + g)) hy, fi, fi + (1 + y), rfl, ⟨by omega, by omega, by omega, by omega⟩, for_range (lo := fi) (n := (fi + (1 + y) - fi).toNat) (fun j σ H' => ∃ (t9 t10 : Option V) (Th : List Int), σ = [some (.ref rl), some (.int (n : Nat)), some (.int sp), some (.int low), some (.int way), some (.ref tl), some (.ref d), some (.int z), some (.int fi), t9, t10, none, none] ∧ Same H H' ∧ H' rl = some (.lst (ns.map V.int)) ∧ H' tl = some (.lst (Th.map V.int)) ∧ H' d = some (.dK (tkD Th)) ∧ OkTh Th n low (low + 500 + 70 * ((i + 1 : Nat) : Int))) ⟨_, _, Th, rfl, S3, S13 _ _ r1, S13 _ _ a1, S13 _ _ b1, ok1.nd, fun u hu => ?_, ok1.ln⟩ ?_ ?_⟩
      · have := ok1.bd u hu
        omega
      · rintro j σ H4 hj ⟨t9, t10, Th, rfl, S4, r4, a4, b4, ok4⟩
        by_cases hin : fi + (j : Int) ∈ Th
        · refine ⟨_, rfl, .ref d, rfl, d, _, rfl, DGet.k (k := Sum.inl (fi + (j : Int))) b4, _, rfl, ite2 (fun c => ?_) (fun _ => ite2 (fun z => absurd z Bool.false_ne_true) fun _ => ⟨_, _, Th, rfl, S4, r4, a4, b4, ok4⟩)⟩
          rw [tk_some hin] at c
          exact absurd c (by decide)
        · refine ⟨_, rfl, .ref d, rfl, d, _, rfl, DGet.k (k := Sum.inl (fi + (j : Int))) b4, _, rfl, ?_⟩
          rw [tk_val hin]
          refine ite2 (fun _ => ?_) (fun z => absurd (show (!false) = true from rfl) z)
          refine ⟨_, rfl, _, Th.length, rfl, .inl ⟨_, .inl (.inl a4), (List.length_map ..).symm⟩, _, rfl, _, _, rfl, rfl, _, rfl, ite2 (fun c => ?_) (fun _ => ⟨_, _, Th, rfl, S4, r4, a4, b4, ok4⟩)⟩
          have c := of_decide_eq_true c
          refine ⟨.ref d, rfl, _, rfl, d, _, rfl, DPut.k (k := Sum.inl (fi + (j : Int))) b4 (Evl.sz_lt (by unfold tkD; rw [List.length_map]; omega)), ?_⟩
          refine ⟨_, rfl, .inl ⟨rfl, _, .inl (.inl (by rw [upd_ne tne]; exact a4))⟩, _, rfl, tl, _, _, rfl, rfl, by rw [upd_ne tne]; exact a4, Evl.sz_lt (by rw [List.length_map]; omega), ?_⟩
          refine ⟨_, _, Th ++ [fi + (j : Int)], rfl, fun b o eo => ?_, ?_, by rw [upd_same, List.map_append]; rfl, ?_, ?_⟩
          · rw [upd_ne (ne_of_none eo htl), upd_ne (ne_of_none eo hd0)]
            exact S4 b o eo
          · rw [upd_ne rt, upd_ne rd]
            exact r4
          · rw [upd_ne tne.symm, upd_same, tk_put hin]
          · refine ⟨List.nodup_append.mpr ⟨ok4.nd, by simp, fun a ha b hb => ?_⟩, fun u hu => ?_, by rw [List.length_append, List.length_singleton]; omega⟩
            · rw [List.mem_singleton.mp hb]
              exact fun e => hin (e ▸ ha)
            · rcases List.mem_append.mp hu with hu | hu
              · exact ok4.bd u hu
              · have := List.mem_singleton.mp hu
                omega
      · rintro σ H4 ⟨t9, t10, Th, rfl, S4, r4, a4, b4, ok4⟩
        exact ⟨_, _, _, _, Th, rfl, S4, r4, a4, b4, ok4⟩
    · rintro σ H1 ⟨t7, t8, t9, t10, Th, rfl, S1, r1, a1, b1, ok1⟩
      have l4' := ok1.ln
      refine ⟨_, rfl, _, rfl, _, rfl, _, Th.length, rfl, .inl ⟨_, .inl (.inl a1), (List.length_map ..).symm⟩, _, _, rfl, rfl, _, rfl, by omega, by omega, fun Dl hDl => ?_⟩
      have hDl0 : H Dl = none := Same.fresh S1 hDl
      refine lc_range (lo := 0) (n := (((n : Nat) : Int) - (Th.length : Int)).toNat) (fun i H' => Same H1 H' ∧ H' Dl = some (.lst ((lnP (low + 5000, (i : Nat))).map V.int))) ⟨same_new hDl, upd_same⟩ ?_ ?_
      · rintro i H2 hi ⟨S2, e2⟩
        refine ⟨rfl, _, rfl, low, 5000, rfl, rfl, _, rfl, _, 0 + (i : Int), rfl, rfl, _, e2, Evl.sz_lt (by rw [List.length_map, lnP_len]; show (i : Int).toNat < 100000; omega), fun b o eo => ?_, ?_⟩
        · rw [upd_ne (ne_of_none eo hDl)]
          exact S2 b o eo
        · rw [upd_same, lnP_succN, List.map_append]
          show some (HO.lst (_ ++ [V.int (low + 5000 + (0 + (i : Int)))])) = _
          rw [Int.zero_add]
          rfl
      · rintro H2 ⟨S2, e2⟩
        refine ⟨tl, Dl, _, _, rfl, rfl, S2 _ _ a1, e2, Nat.le_of_lt (Evl.sz_lt (by rw [List.length_map, List.length_map, lnP_len]; dsimp only; omega)), fun k hk => ?_⟩
        have S12 := S1.trans S2
        refine q k (Th ++ lnP (low + 5000, ((((n : Nat) : Int) - (Th.length : Int)).toNat : Nat))) _ (S12.trans (same_new hk)) (Same.fresh S12 hk) (by rw [upd_same, List.map_append]) ?_ ?_ ?_
        · rw [List.length_append, lnP_len]
          dsimp only
          omega
        · refine List.nodup_append.mpr ⟨ok1.nd, lnP_nodup _, fun a ha b hb => ?_⟩
          have h1 := ok1.bd a ha
          have h2 := mem_lnP hb
          dsimp only at h2
          rw [List.length_map] at h1
          omega
        · intro u hu
          rcases List.mem_append.mp hu with hu | hu
          · have h1 := ok1.bd u hu
            rw [List.length_map] at h1
            omega
          · have h2 := mem_lnP hu
            dsimp only at h2
            omega
end
end My
set_option Elab.async false
set_option linter.all false
set_option maxRecDepth 100000
set_option maxHeartbeats 4000000
namespace My
open PySem PySem.Spec PyProof.Rows L2
theorem num_val {L : List Int} (nd : L.Nodup) {i : Nat} {z : Int} (h : L[i]? = some z) : valV (numD L) (Sum.inl z : Key) = some (.int (i : Nat)) := by
  have e : ∀ n, i < n → valV (numD (L.take n)) (Sum.inl z : Key) = some (.int (i : Nat)) := by
    intro n
    induction n with
    | zero => intro h; omega
    | succ n ih =>
      intro hn
      by_cases q : n < L.length
      · have hq : L[n]? = some L[n] := List.getElem?_eq_getElem q
        have new : valV (numD (L.take n)) (Sum.inl L[n] : Key) = none := by
          refine val_no ?_
          rw [numD_keys]
          intro y
          obtain ⟨z', hz', e'⟩ := List.mem_map.mp y
          rw [Sum.inl.inj e'] at hz'
          exact nodup_take_not nd hq hz'
        rw [numD_succ hq, valV_snoc _ _ _ _ new]
        by_cases e : i = n
        · subst e
          rw [hq] at h
          cases h
          rw [if_pos rfl]
        · rw [if_neg (fun y => ?_), ih (by omega)]
          have y := Sum.inl.inj y
          rw [y] at h
          exact e ((List.getElem?_inj (i := i) (List.getElem?_eq_some_iff.mp h).1 nd).mp (h.trans hq.symm))
      · rw [List.take_of_length_le (by omega), ← List.take_of_length_le (l := L) (i := n) (by omega)]
        exact ih (by have := (List.getElem?_eq_some_iff.mp h).1; omega)
  have := e L.length (List.getElem?_eq_some_iff.mp h).1
  rwa [List.take_length] at this
theorem num_no {L : List Int} {z : Int} (h : z ∉ L) : valV (numD L) (Sum.inl z : Key) = none := by
  refine val_no ?_
  rw [numD_keys]
  intro y
  obtain ⟨z', hz', e'⟩ := List.mem_map.mp y
  rw [Sum.inl.inj e'] at hz'
  exact h hz'
end My
set_option Elab.async false
set_option linter.all false
set_option maxRecDepth 100000
set_option maxHeartbeats 4000000
namespace My
open PySem PySem.Spec PyProof.Rows L2
/-! Q1: where parts lead: the goals of lines, the rows of goals. -/
/-- the place of the line z among M, or none -/
def gO (M : List Int) (z : Int) : Option Int := match valV (numD M) (Sum.inl z : Key) with
  | some (.int i) => some i
  | _ => none
def oV : Option Int → V
  | none => .non
  | some i => .int i
def oD : Option Int → PyData
  | none => .none
  | some i => .int i
def goD (L M : List Int) : List (Option Int) := L.map (gO M)
theorem gO_some {M : List Int} (nd : M.Nodup) {i : Nat} {z : Int} (h : M[i]? = some z) : gO M z = some (i : Int) := by
  unfold gO
  rw [num_val nd h]
theorem gO_none {M : List Int} {z : Int} (h : z ∉ M) : gO M z = none := by
  unfold gO
  rw [num_no h]
theorem gO_iff {M : List Int} (nd : M.Nodup) {z j : Int} : gO M z = some j ↔ ∃ i : Nat, j = (i : Int) ∧ M[i]? = some z := by
  by_cases hz : z ∈ M
  · obtain ⟨i, hi, e⟩ := List.mem_iff_getElem.mp hz
    have e1 : M[i]? = some z := List.getElem?_eq_some_iff.mpr ⟨hi, e⟩
    rw [gO_some nd e1]
    constructor
    · intro h
      cases h
      exact ⟨i, rfl, e1⟩
    · rintro ⟨k, rfl, e2⟩
      have a := num_val nd e1
      rw [num_val nd e2] at a
      have : i = k := by
        have := V.int.inj (Option.some.inj a)
        omega
      rw [this]
  · rw [gO_none hz]
    constructor
    · intro h
      cases h
    · rintro ⟨i, _, e⟩
      exact absurd (List.mem_of_getElem? e) hz
theorem gO_val {M : List Int} (nd : M.Nodup) (z : Int) : (valV (numD M) (Sum.inl z : Key)).getD .non = oV (gO M z) := by
  by_cases hz : z ∈ M
  · obtain ⟨i, hi, e⟩ := List.mem_iff_getElem.mp hz
    have e1 : M[i]? = some z := List.getElem?_eq_some_iff.mpr ⟨hi, e⟩
    rw [gO_some nd e1, num_val nd e1]
    rfl
  · rw [gO_none hz, num_no hz]
    rfl
theorem prt_go {M : List Int} (nd : M.Nodup) {z : Int} (h : 0 ≤ z ∧ z < 10000) : prtV M (.int z) = oV (gO M z) := by
  show (if whole (.int z) 0 9999 = true then _ else _) = _
  have e : whole (.int z) 0 9999 = true := by
    show (decide (0 ≤ z) && decide (z ≤ 9999)) = true
    rw [decide_eq_true h.1, decide_eq_true (by omega)]
    rfl
  rw [if_pos e, gO_val nd]
theorem go_len (L M : List Int) : (goD L M).length = L.length := List.length_map ..
theorem go_at {L M : List Int} {i : Nat} {z : Int} (h : L[i]? = some z) : (goD L M)[i]? = some (gO M z) := by
  unfold goD
  rw [List.getElem?_map, h]
  rfl
theorem go_mem {L M : List Int} (nd : M.Nodup) {j : Int} (h : some j ∈ goD L M) : 0 ≤ j ∧ j < (M.length : Nat) := by
  obtain ⟨z, _, e⟩ := List.mem_map.mp h
  obtain ⟨i, rfl, k⟩ := (gO_iff nd).mp e
  have := (List.getElem?_eq_some_iff.mp k).1
  omega
theorem oV_th {K : PySem.W.Frag} {H : Hp} (o : Option Int) : Th K H (oV o) := by
  cases o with
  | none => exact .non
  | some i => exact .int i
theorem oV_at {S : Av} {H : Hp} (o : Option Int) : At S H (oV o) (oD o) := by
  cases o with
  | none => exact .non
  | some i => exact .int i
/-- a row: where it begins, where it leads, how many parts it has -/
abbrev Rw3 := Int × Option Int × Int
def rwD (r : Rw3) : PyData := .tuple [.int r.1, oD r.2.1, .int r.2.2]
def goOn (r : Rw3) (g : Option Int) : Bool := match r.2.1 with
  | none => g.isNone
  | some a => decide (g = some (a + r.2.2))
def rwStep (rs : List Rw3) (n : Int) (g : Option Int) : List Rw3 := match rs.getLast? with
  | none => [(n, g, 1)]
  | some r => if goOn r g = true then rs.dropLast ++ [(r.1, r.2.1, r.2.2 + 1)] else rs ++ [(n, g, 1)]
def rowsD (g : List (Option Int)) : List Rw3 := g.zipIdx.foldl (fun rs p => rwStep rs (p.2 : Nat) p.1) []
theorem rw_nil (n : Int) (g : Option Int) : rwStep [] n g = [(n, g, 1)] := rfl
theorem rw_snoc (rs : List Rw3) (r : Rw3) (n : Int) (g : Option Int) : rwStep (rs ++ [r]) n g = if goOn r g = true then rs ++ [(r.1, r.2.1, r.2.2 + 1)] else rs ++ [r] ++ [(n, g, 1)] := by
  unfold rwStep
  rw [List.getLast?_concat, List.dropLast_concat]
theorem rowsD_succ {g : List (Option Int)} {i : Nat} {x : Option Int} (h : g[i]? = some x) : rowsD (g.take (i + 1)) = rwStep (rowsD (g.take i)) (i : Nat) x := by
  unfold rowsD
  rw [zi_succ h, List.foldl_append]
  rfl
theorem rwStep_len (rs : List Rw3) (n : Int) (g : Option Int) : (rwStep rs n g).length ≤ rs.length + 1 := by
  rcases List.eq_nil_or_concat rs with rfl | ⟨qs, s, rfl⟩
  · rw [rw_nil]
    exact Nat.le_refl _
  · rw [List.concat_eq_append, rw_snoc]
    split
    · simp
    · simp
theorem rowsD_len (g : List (Option Int)) : (rowsD g).length ≤ g.length := by
  have e : ∀ i, i ≤ g.length → (rowsD (g.take i)).length ≤ i := by
    intro i
    induction i with
    | zero =>
      intro _
      rw [List.take_zero]
      exact Nat.le_refl 0
    | succ i ih =>
      intro hi
      rw [rowsD_succ (List.getElem?_eq_getElem (i := i) (by omega))]
      exact Nat.le_trans (rwStep_len ..) (Nat.succ_le_succ (ih (by omega)))
  have := e g.length (Nat.le_refl _)
  rwa [List.take_length] at this
theorem At.row3 {S : Av} {H : Hp} {v : V} {r : Rw3} (h : At S H v (rwD r)) : ∃ t, v = .ref t ∧ ¬ S t ∧ H t = some (.tup [.int r.1, oV r.2.1, .int r.2.2]) := by
  cases h with
  | tup n e k =>
    cases k with
    | cons h1 k =>
      cases k with
      | cons h2 k =>
        cases k with
        | cons h3 k =>
          cases k
          cases h1
          cases h3
          rename_i t v2
          refine ⟨t, rfl, n, ?_⟩
          rw [e]
          have e2 : v2 = oV r.2.1 := by
            cases hr : r.2.1 with
            | none =>
              rw [hr] at h2
              cases h2
              rfl
            | some i =>
              rw [hr] at h2
              cases h2
              rfl
          rw [e2]
theorem At.mkRow {S : Av} {H : Hp} {t : Addr} {r : Rw3} (n : ¬ S t) (e : H t = some (.tup [.int r.1, oV r.2.1, .int r.2.2])) : At S H (.ref t) (rwD r) := .tup n e (.cons (.int _) (.cons (oV_at _) (.cons (.int _) .nil)))
def sp_pwl (C : Addr) : Sp := fun vs H Q _ => ∃ (S : Av) (e l : Addr) (B : Bks) (L M : List Int), vs = [.ref e, .ref l] ∧ EdAt S H C e B M ∧ M.Nodup ∧ H l = some (.lst (L.map V.int)) ∧ lns L ∧ L.length ≤ 1000 ∧ ∀ k H', Same H H' → H k = none → H' k = some (.lst ((goD L M).map oV)) → Q (.ref k) H'
def sp_goesOn (K : PySem.W.Frag) : Sp := fun vs H Q _ => ∃ (t : Addr) (r : Rw3) (g : Option Int), vs = [.ref t, oV g] ∧ H t = some (.tup [.int r.1, oV r.2.1, .int r.2.2]) ∧ Q (.bl (goOn r g)) H
def sp_rowsOf (K : PySem.W.Frag) : Sp := fun vs H Q _ => ∃ (S : Av) (l : Addr) (g : List (Option Int)), vs = [.ref l] ∧ Occ S H ∧ SqL K H l (g.map oV) ∧ g.length ≤ 1000 ∧ ∀ k rows H', Same H H' → H k = none → H' k = some (.lst rows) → AtAll S H' rows ((rowsD g).map rwD) → Q (.ref k) H'
section
variable {P : Program} {w : World} {K : PySem.W.Frag} {mg : Str → Option Value} {base : Heap}
end
end My
set_option Elab.async false
set_option linter.all false
set_option maxRecDepth 100000
set_option maxHeartbeats 4000000
namespace My
open PySem PySem.Spec PyProof.Rows L2
/-! H2c: an edition of these books, its lines in this order. -/
theorem ok_pairsOf {ps : List (Int × Int)} {L : List Int} (pos : ∀ s ∈ ps, 1 ≤ s.2) (ln : lnOf ps = L) (nd : L.Nodup) (hL : lns L) (h4 : L.length ≤ 400) : okPairs ps (L.length : Nat) := by
  have sum := lnOf_len ps pos
  rw [ln] at sum
  have sub : ∀ s ∈ ps, ∀ z ∈ lnP s, z ∈ L := fun s hs z hz => by
    rw [← ln]
    exact List.mem_flatMap.mpr ⟨s, hs, hz⟩
  have inP : ∀ s : Int × Int, ∀ z, s.1 ≤ z → z < s.1 + s.2 → z ∈ lnP s := fun s z h0 h1 => by
    unfold lnP
    exact List.mem_map.mpr ⟨(z - s.1).toNat, List.mem_range.mpr (by omega), by omega⟩
  have ls := len_sum (ps.map (·.2)) (fun m hm => by
    obtain ⟨s, hs, rfl⟩ := List.mem_map.mp hm
    exact pos s hs)
  rw [List.length_map, ← sum] at ls
  have nd' := nd
  rw [← ln] at nd'
  unfold lnOf at nd'
  obtain ⟨_, pw⟩ := List.pairwise_flatMap.mp nd'
  refine ⟨by omega, fun s hs => ?_, sum.symm, ?_⟩
  · have p1 := pos s hs
    have f := hL s.1 (sub s hs _ (inP s _ (Int.le_refl _) (by omega)))
    have l := hL (s.1 + s.2 - 1) (sub s hs _ (inP s _ (by omega) (by omega)))
    have : s.2 ≤ 400 := by
      have h1 : (lnP s).length ≤ L.length := by
        have ndp := lnP_nodup s
        obtain ⟨i, hi⟩ := List.mem_iff_getElem?.mp hs
        have : L.length = (ps.flatMap lnP).length := congrArg List.length ln.symm
        rw [this]
        have e : ps = ps.take i ++ s :: ps.drop (i + 1) := by
          have hi' : i < ps.length := (List.getElem?_eq_some_iff.mp hi).1
          have h := List.take_append_drop i ps
          rw [List.drop_eq_getElem_cons hi', (List.getElem?_eq_some_iff.mp hi).2] at h
          exact h.symm
        rw [e, List.flatMap_append, List.flatMap_cons, List.length_append, List.length_append]
        omega
      rw [lnP_len] at h1
      omega
    exact ⟨f.1, p1, this, by omega⟩
  · refine (List.pairwise_iff_getElem.mpr fun i j hi hj hij => ?_)
    have pwij := List.pairwise_iff_getElem.mp pw i j hi hj hij
    have p1 := pos _ (List.getElem_mem hi)
    have p2 := pos _ (List.getElem_mem hj)
    generalize ps[i] = s at pwij p1
    generalize ps[j] = t at pwij p2
    show s.1 + s.2 ≤ t.1 ∨ t.1 + t.2 ≤ s.1
    by_cases h1 : s.1 + s.2 ≤ t.1
    · exact .inl h1
    · by_cases h2 : t.1 + t.2 ≤ s.1
      · exact .inr h2
      · exfalso
        by_cases h3 : s.1 ≤ t.1
        · exact pwij t.1 (inP s _ h3 (by omega)) t.1 (inP t _ (Int.le_refl _) (by omega)) rfl
        · exact pwij s.1 (inP s _ (Int.le_refl _) (by omega)) s.1 (inP t _ (by omega) (by omega)) rfl
theorem lnOf_snoc (ps : List (Int × Int)) (s : Int × Int) : lnOf (ps ++ [s]) = lnOf ps ++ lnP s := by
  unfold lnOf
  rw [List.flatMap_append, List.flatMap_cons, List.flatMap_nil, List.append_nil]
theorem lnP_one (z : Int) : lnP (z, 1) = [z] := by
  show [z + ((0 : Nat) : Int)] = [z]
  simp
/-- copied books as a tuple are books handed in -/
theorem bksT_in {S : Av} {H' : Hp} {t : Addr} {xs : List V} {B : Bks} (e : H' t = some (.tup xs)) (k : AtAll S H' xs (B.map bkLD)) : BksIn S H' (.ref t) B := by
  refine ⟨t, xs, rfl, .inr e, by rw [k.len, List.length_map], fun i x b h1 h2 => ?_⟩
  obtain ⟨b', h3, h4⟩ := k.at_ h1
  rw [h2] at h3
  cases h3
  obtain ⟨a2, c, zs, e1, n1, e2, n2, e3, k2⟩ := h4.bkL
  refine ⟨a2, c, zs, e1, e2, .inl e3, by rw [k2.len, List.length_map], fun j y cc h5 h6 => ?_⟩
  obtain ⟨c', h7, h8⟩ := k2.at_ h5
  rw [h6] at h7
  cases h7
  obtain ⟨a', e4, n4, e5⟩ := h8.row
  exact ⟨a', e4, n4, .inl e5⟩
def sp_edL (C : Addr) : Sp := fun vs H Q _ => ∃ (S S0 : Av) (v : V) (tl : Addr) (Th : List Int) (B : Bks) (way : Int), vs = [v, .ref tl, .int way] ∧ Occ S H ∧ At S0 H v (bksLD B) ∧ okBks B ∧ (plOf B).length ≤ 400 ∧ H tl = some (.lst (Th.map V.int)) ∧ Th.length = (plOf B).length ∧ Th.Nodup ∧ lns Th ∧ ∀ e H', Same H H' → H e = none → EdAt S H' C e B Th → Q (.ref e) H'
section
variable {P : Program} {w : World} {K : PySem.W.Frag} {mg : Str → Option Value} {base : Heap}
theorem ok_edL {C : Addr} (T : Txt K mg) (c__law_copy : Cl P w K mg base 2 "_law_copy" ["books"] sp_copy) (c_EdD : C8.Mak P w K mg base 6 "Edition" C (sp_init C) [.non]) (c_EdN : MakN P w K mg base 6 "Edition" C 1 ["lines"] (fun vs zs => vs ++ zs) (sp_init C)) (D : Df K mg "_law_edition" s__law_edition ["books", "threads", "way"]) : Cl P w K mg base 8 "_law_edition" ["books", "threads", "way"] (sp_edL C) := by
  refine ok_of D sc__law_edition (fun vs H Q E h => ?_) (fun f cdv A outer s H vs Q E hr h => ?_)
  · obtain ⟨S, S0, v, tl, Th, B, way, rfl, _⟩ := h
    rfl
  · obtain ⟨S, S0, v, tl, Th, B, way, rfl, ho, hv, okB, l4, ht, lT, nd, hb, q⟩ := h
    refine ⟨_, (pss_cons (ps_if (PW.pt (pw_and (pt_cmpR op_eq (pe_op op_mod (pv 2) pe_int) pe_int (nomark _)) (pw_and1 (pt_cmpR (op_eqD hr.units) (pv 1) (pe_listRg rfl (by rfl) T.b_list (prg_1 (by rfl) T.b_range (pe_callB call_len (by rfl) T.b_len (by decide +kernel) (pa_cons (pv 1) pa_nil)))) (nomark _))))) (pss_one (ps_ret (C8.pe_mk c_EdD hr (by decide) (by rfl) (pa_cons (pe_cl c__law_copy hr (by decide) (by rfl) (pa_cons (pv 0) pa_nil)) pa_nil)))) pss_nil)
      (pss_cons (ps_set (i := 3) sc__law_edition.nd rfl (.inl rfl) (pe_lst pa_nil))
      (pss_cons (ps_for PassesOwn.never rfl (pi_list (pv 1)) (pg_name (i := 4) sc__law_edition.nd rfl (.inl rfl))
        (pss_one (ps_if (PW.pt (pw_and (pt_cmpR op_eq (pe_op op_mod (pv 2) pe_int) pe_int (nomark _)) (pw_and (pt_cmpR (op_neD hr.units) (pv 3) (pe_lst pa_nil) (nomark _)) (pw_and1 (pt_cmpR op_eq (pe_op op_add (pe_ix ix_tup (pe_ix ix_list (pv 3) (pe_un un_neg pe_int) (fun _ _ => rfl)) pe_int (fun _ _ => rfl)) (pe_ix ix_tup (pe_ix ix_list (pv 3) (pe_un un_neg pe_int) (fun _ _ => rfl)) pe_int (fun _ _ => rfl))) (pv 4) (nomark _)))))) (pss_one (ps_asg (pe_tup (pa_cons (pe_ix ix_tup (pe_ix ix_list (pv 3) (pe_un un_neg pe_int) (fun _ _ => rfl)) pe_int (fun _ _ => rfl)) (pa_cons (pe_op op_add (pe_ix ix_tup (pe_ix ix_list (pv 3) (pe_un un_neg pe_int) (fun _ _ => rfl)) pe_int (fun _ _ => rfl)) pe_int) pa_nil))) (pg_sub (pv 3) (pe_un un_neg pe_int) set_list))) (pss_one (ps_expr (pe_bm PySem.F.plainAttrs_list PySem.F.slot_list_append PySem.F.type_list_append mt_append (pv 3) (pa_cons (pe_tup (pa_cons (pv 4) (pa_cons pe_int pa_nil))) pa_nil)))))))
      (pss_one (ps_ret (pe_mkN c_EdN hr (by decide) (by rfl) (pa_cons (pe_callTy call_tuple_of (by rfl) T.b_tuple (by decide +kernel) (pa_cons (pe_cl c__law_copy hr (by decide) (by rfl) (pa_cons (pv 0) pa_nil)) pa_nil)) pa_nil) (pk_cons (pv 3) pk_nil))))))), ?_⟩
    refine ⟨_, rfl, way, 3, rfl, rfl, (by show (0 : Int) < 3; decide), rfl, _, rfl, ite2 (fun _ => ?_) (fun _ => ite2 (fun z => absurd z Bool.false_ne_true) fun _ => ?_)⟩
    · refine ⟨_, rfl, _, rfl, _, Th.length, rfl, .inl ⟨_, .inl (.inl ht), (List.length_map ..).symm⟩, (Th.length : Nat), rfl, ?_, fun rl hrl => ?_⟩
      · exact RgOk.of_le (by omega) (by omega) (by omega) (by omega)
      have S1 := same_new (o := .lst (rgV 0 ((Th.length : Nat) : Int))) hrl
      have er := upd_same (H := H) (a := rl) (o := .lst (rgV 0 ((Th.length : Nat) : Int)))
      generalize upd H rl (.lst (rgV 0 ((Th.length : Nat) : Int))) = H1 at S1 er ⊢
      rw [rg_ln, Int.sub_zero] at er
      refine ⟨.list (Th.map PyData.int), .list ((lnP (0, ((Th.length : Nat) : Int))).map PyData.int), At.dp _ _ (.lst (p := fun _ => False) (fun z => z) (S1 _ _ ht) (AtAll.ints Th)), At.dp _ _ (.lst (p := fun _ => False) (fun z => z) er (AtAll.ints _)), shapedI _, shapedI _, _, rfl, ?_⟩
      rw [show PyData.eqv (.list (Th.map PyData.int)) (.list ((lnP (0, ((Th.length : Nat) : Int))).map PyData.int)) = _ from eqv_intsL _ _]
      refine ite2 (fun c => ?_) (fun _ => ?_)
      · have eTh := of_decide_eq_true c
        refine ⟨_, rfl, S, S0, v, B, rfl, ho.same S1, At.same hv S1, okB.l1, fun b hb => (okB.ch b hb).2.1, fun lc H3 hlc S3 aC => ?_⟩
        intro e dx he hdx ne
        have S4 : Same H3 (upd (upd H3 dx (.own e)) e (.ins C dx [])) := (same_new hdx).trans (same_new (by rw [upd_ne ne.symm]; exact he))
        have o3 := (ho.same S1).same S3
        have lns' : lnsD none ((plOf B).length : Nat) = Th := by
          rw [eTh, lT]
          rfl
        refine ⟨S, e, dx, .ref lc, .non, B, none, rfl, o3.free he, o3.same S4, upd_same, (bksL_in aC).same S4, okB, rfl, ⟨by omega, by omega, trivial⟩, by rw [lns']; exact nd, by rw [lns']; exact lT, fun H5 B5 ed5 => ⟨rfl, ?_⟩⟩
        rw [lns'] at ed5
        have S5 : Same H3 H5 := fun b ob eo => B5 b ob (ne_of_none eo he) (S4 b ob eo)
        exact q e H5 ((S1.trans S3).trans S5) (Same.fresh (S1.trans S3) he) ed5
      · refine ⟨Nat.zero_le _, fun k hk => ?_⟩
        have o1 : Occ S H1 := ho.same S1
        have ht1 := S1 _ _ ht
        refine ⟨_, rfl, tl, rfl, ⟨_, .inl (.inl (same_new hk _ _ ht1))⟩, for_it (walk_list (xs := Th.map V.int)) (fun i σ H' => ∃ (t4 : Option V) (rows : List V) (ps : List (Int × Int)), σ = [some v, some (.ref tl), some (.int way), some (.ref k), t4] ∧ LcS S H1 k rows (ps.map prD) H' ∧ lnOf ps = Th.take i ∧ ∀ s ∈ ps, 1 ≤ s.2) ⟨_, [], [], rfl, LcS.start hk, rfl, fun s h => by cases h⟩ (fun i σ H' _ ⟨_, _, _, _, c, _⟩ => .inl (.inl (c.s _ _ ht1))) ?_ ?_⟩
        · rintro i x σ H2 H2' hi ⟨t4, rows, ps, rfl, c, ln, pos⟩ ⟨rfl, hx⟩
          rw [List.length_map] at hi
          obtain ⟨z, hz⟩ : ∃ z, Th[i]? = some z := ⟨_, List.getElem?_eq_getElem hi⟩
          rw [List.getElem?_map, hz] at hx
          cases hx
          have eT : Th.take (i + 1) = Th.take i ++ [z] := by rw [List.take_add_one, hz]; rfl
          have lr : rows.length ≤ 400 := by
            have h1 := lnOf_len ps pos
            have h2 := len_sum (ps.map (·.2)) fun m hm => by
              obtain ⟨s, hs, rfl⟩ := List.mem_map.mp hm
              exact pos s hs
            rw [c.len, List.length_map]
            rw [ln, List.length_take] at h1
            rw [List.length_map] at h2
            omega
          refine ⟨_, rfl, way, 2, rfl, rfl, (by show (0 : Int) < 2; decide), rfl, _, rfl, ite2 (fun _ => ?_) (fun _ => ite2 (fun z => absurd z Bool.false_ne_true) fun _ => ?_)⟩
          · refine ⟨_, rfl, Nat.zero_le _, fun n0 hn0 => ?_⟩
            have c9 := c.keep (same_new (o := .lst []) hn0)
            have dpr : Dp K (upd H2' n0 (.lst [])) (.ref k) (.list (ps.map prD)) := At.dp _ _ (.lst (p := fun _ => False) (xs := rows) (fun z => z) c9.at_ (AtAll.weak (fun _ z => z.elim) _ _ c9.a))
            refine ⟨_, .list [], dpr, .lst (.inl (.inl upd_same)) .nil, shaped_prs _, by decide +kernel, ?_⟩
            clear dpr
            generalize upd H2' n0 (.lst []) = H4 at c9 ⊢
            rcases List.eq_nil_or_concat ps with e | ⟨ps0, s, e⟩
            · have ev : (!PyData.eqv (.list (ps.map prD)) (.list [])) = false := by rw [e]; rfl
              rw [ev]
              refine ⟨_, rfl, ite2 (fun z => absurd z Bool.false_ne_true) fun _ => ite2 (fun z => absurd z Bool.false_ne_true) fun _ => ?_⟩
              refine ⟨_, rfl, .inl ⟨rfl, _, .inl (.inl c9.at_)⟩, _, rfl, by show 2 ≤ sizeLine; decide, fun t' ht' => ?_⟩
              have c2 := c9.keep (same_new (o := .tup [.int z, .int 1]) ht')
              have nt' : ¬ Plus S k t' := (c9.occ o1).free ht'
              refine ⟨k, _, _, rfl, rfl, c2.at_, sz1000 (by omega), _, rows ++ [.ref t'], ps ++ [(z, 1)], rfl, ?_, ?_, ?_⟩
              · rw [List.map_append]
                exact c2.step (.ofpair nt' upd_same)
              · rw [lnOf_snoc, lnP_one, ln, eT]
              · exact fun u hu => (List.mem_append.mp hu).elim (pos u) fun hu => by cases List.mem_singleton.mp hu; exact Int.le_refl _
            · rw [List.concat_eq_append] at e
              have ev : (!PyData.eqv (.list (ps.map prD)) (.list [])) = true := by
                rw [e]
                cases ps0 <;> rfl
              rw [ev]
              refine ⟨_, rfl, ite2 (fun _ => ?_) (fun z => absurd (show true = true from rfl) z)⟩
              have ca := c9.a
              have cat := c9.at_
              rw [e, List.map_append] at ca
              obtain ⟨ys, y, er, a1, a2⟩ := AtAll.snoc ca
              obtain ⟨t, rfl, nt, et⟩ := a2.pair
              rw [er] at cat
              refine ⟨_, rfl, _, rfl, k, _, -1, .ref t, rfl, rfl, .inl (.inl cat), atI_last ys _, t, _, 0, _, rfl, rfl, .inl (.inl et), atI_nat (j := 0) rfl, _, rfl, _, rfl, k, _, -1, .ref t, rfl, rfl, .inl (.inl cat), atI_last ys _, t, _, 1, _, rfl, rfl, .inl (.inl et), atI_nat (j := 1) rfl, s.1, s.2, rfl, rfl, _, rfl, rfl, _, rfl, ?_⟩
              by_cases e3 : s.1 + s.2 = z
              · refine ite2 (fun _ => ?_) (fun q => absurd (decide_eq_true (congrArg V.int e3)) q)
                refine ⟨_, rfl, _, rfl, k, _, -1, .ref t, rfl, rfl, .inl (.inl cat), atI_last ys _, t, _, 0, _, rfl, rfl, .inl (.inl et), atI_nat (j := 0) rfl, _, rfl, _, rfl, k, _, -1, .ref t, rfl, rfl, .inl (.inl cat), atI_last ys _, t, _, 1, _, rfl, rfl, .inl (.inl et), atI_nat (j := 1) rfl, s.2, 1, rfl, rfl, by show 2 ≤ sizeLine; decide, fun t' ht' => ?_⟩
                have c2 := c9.keep (same_new (o := .tup [.int s.1, .int (s.2 + 1)]) ht')
                have nt' : ¬ Plus S k t' := (c9.occ o1).free ht'
                have hd : At (Plus S k) (upd H4 t' (.tup [.int s.1, .int (s.2 + 1)])) (.ref t') (prD (s.1, s.2 + 1)) := .ofpair nt' upd_same
                have c3 := c2.put (ys := ys ++ [.ref t']) (es := ps0.map prD ++ [prD (s.1, s.2 + 1)]) ((AtAll.same a1 (same_new ht')).app (.cons hd .nil))
                have cat2 := c2.at_
                rw [er] at cat2
                refine ⟨_, rfl, _, rfl, k, ys ++ [.ref t], -1, ys.length, rfl, rfl, cat2, ?_, _, ys ++ [.ref t'], ps0 ++ [(s.1, s.2 + 1)], rfl, ?_, ?_, ?_⟩
                · unfold ixN
                  rw [if_neg (by decide), List.length_append, List.length_singleton, if_pos (by omega)]
                  exact congrArg some (by omega)
                · rw [show (ys ++ [V.ref t]).set ys.length (.ref t') = ys ++ [.ref t'] by simp, List.map_append]
                  exact c3
                · have s1 := pos s (by rw [e]; simp)
                  rw [lnOf_snoc, lnP_succ (by omega), ← List.append_assoc, ← lnOf_snoc, ← e, ln, eT, e3]
                · exact fun u hu => (List.mem_append.mp hu).elim (fun hu => pos u (by rw [e]; exact List.mem_append_left _ hu)) fun hu => by
                    cases List.mem_singleton.mp hu
                    have := pos s (by rw [e]; simp)
                    show 1 ≤ s.2 + 1
                    omega
              · refine ite2 (fun q => absurd (V.int.inj (of_decide_eq_true q)) e3) (fun _ => ?_)
                refine ⟨_, rfl, .inl ⟨rfl, _, .inl (.inl c9.at_)⟩, _, rfl, by show 2 ≤ sizeLine; decide, fun t' ht' => ?_⟩
                have c2 := c9.keep (same_new (o := .tup [.int z, .int 1]) ht')
                have nt' : ¬ Plus S k t' := (c9.occ o1).free ht'
                refine ⟨k, _, _, rfl, rfl, c2.at_, sz1000 (by omega), _, rows ++ [.ref t'], ps ++ [(z, 1)], rfl, ?_, ?_, ?_⟩
                · rw [List.map_append]
                  exact c2.step (.ofpair nt' upd_same)
                · rw [lnOf_snoc, lnP_one, ln, eT]
                · exact fun u hu => (List.mem_append.mp hu).elim (pos u) fun hu => by cases List.mem_singleton.mp hu; exact Int.le_refl _
          · refine ⟨_, rfl, .inl ⟨rfl, _, .inl (.inl c.at_)⟩, _, rfl, by show 2 ≤ sizeLine; decide, fun t' ht' => ?_⟩
            have c2 := c.keep (same_new (o := .tup [.int z, .int 1]) ht')
            have nt' : ¬ Plus S k t' := (c.occ o1).free ht'
            refine ⟨k, _, _, rfl, rfl, c2.at_, sz1000 (by omega), _, rows ++ [.ref t'], ps ++ [(z, 1)], rfl, ?_, ?_, ?_⟩
            · rw [List.map_append]
              exact c2.step (.ofpair nt' upd_same)
            · rw [lnOf_snoc, lnP_one, ln, eT]
            · exact fun u hu => (List.mem_append.mp hu).elim (pos u) fun hu => by cases List.mem_singleton.mp hu; exact Int.le_refl _
        · rintro σ H2 ⟨t4, rows, ps, rfl, c, ln, pos⟩
          rw [List.length_map, List.take_length] at ln
          have okP := ok_pairsOf pos ln nd hb (by omega)
          rw [lT] at okP
          have S2 := S1.trans c.s
          have pr := all_prs c.done
          refine ⟨_, rfl, S, S0, v, B, rfl, ho.same S2, At.same hv S2, okB.l1, fun b hb => (okB.ch b hb).2.1, fun lc H3 hlc S3 aC => ?_⟩
          obtain ⟨a, xs, ea, na, el, ka⟩ := aC.bksL
          cases ea
          refine ⟨lc, xs, rfl, .inl ⟨.inl (.inl el), fun tt htt => ?_⟩⟩
          have S4 := same_new (o := .tup xs) htt
          refine ⟨_, rfl, rfl, rfl, ?_⟩
          intro e dx he hdx ne
          have S5 : Same (upd H3 tt (.tup xs)) (upd (upd (upd H3 tt (.tup xs)) dx (.own e)) e (.ins C dx [])) := (same_new hdx).trans (same_new (by rw [upd_ne ne.symm]; exact he))
          have o3 := ((ho.same S2).same S3).same S4
          have lns' : lnsD (some ps) ((plOf B).length : Nat) = Th := ln
          refine ⟨S, e, dx, .ref tt, .ref k, B, some ps, rfl, o3.free he, o3.same S5, upd_same, (bksT_in upd_same (AtAll.same ka S4)).same S5, okB, ?_, ⟨by omega, by omega, okP⟩, by rw [lns']; exact nd, by rw [lns']; exact lT, fun H6 B6 ed6 => ⟨rfl, ?_⟩⟩
          · exact ⟨k, rows, rfl, .inl (S5 _ _ (S4 _ _ (S3 _ _ c.at_))), pr.1, fun i x s h1 h2 => let ⟨t, e1, e2⟩ := pr.2 i x s h1 h2; ⟨t, e1, S5 _ _ (S4 _ _ (S3 _ _ e2))⟩⟩
          · rw [lns'] at ed6
            have S6 : Same (upd H3 tt (.tup xs)) H6 := fun b ob eo => B6 b ob (ne_of_none eo he) (S5 b ob eo)
            have SS := ((S2.trans S3).trans S4).trans S6
            exact q e H6 SS (Same.fresh ((S2.trans S3).trans S4) he) ed6
    · have S1 := Same.refl H
      refine ⟨Nat.zero_le _, fun k hk => ?_⟩
      have o1 : Occ S H := ho.same S1
      have ht1 := S1 _ _ ht
      refine ⟨_, rfl, tl, rfl, ⟨_, .inl (.inl (same_new hk _ _ ht1))⟩, for_it (walk_list (xs := Th.map V.int)) (fun i σ H' => ∃ (t4 : Option V) (rows : List V) (ps : List (Int × Int)), σ = [some v, some (.ref tl), some (.int way), some (.ref k), t4] ∧ LcS S H k rows (ps.map prD) H' ∧ lnOf ps = Th.take i ∧ ∀ s ∈ ps, 1 ≤ s.2) ⟨_, [], [], rfl, LcS.start hk, rfl, fun s h => by cases h⟩ (fun i σ H' _ ⟨_, _, _, _, c, _⟩ => .inl (.inl (c.s _ _ ht1))) ?_ ?_⟩
      · rintro i x σ H2 H2' hi ⟨t4, rows, ps, rfl, c, ln, pos⟩ ⟨rfl, hx⟩
        rw [List.length_map] at hi
        obtain ⟨z, hz⟩ : ∃ z, Th[i]? = some z := ⟨_, List.getElem?_eq_getElem hi⟩
        rw [List.getElem?_map, hz] at hx
        cases hx
        have eT : Th.take (i + 1) = Th.take i ++ [z] := by rw [List.take_add_one, hz]; rfl
        have lr : rows.length ≤ 400 := by
          have h1 := lnOf_len ps pos
          have h2 := len_sum (ps.map (·.2)) fun m hm => by
            obtain ⟨s, hs, rfl⟩ := List.mem_map.mp hm
            exact pos s hs
          rw [c.len, List.length_map]
          rw [ln, List.length_take] at h1
          rw [List.length_map] at h2
          omega
        refine ⟨_, rfl, way, 2, rfl, rfl, (by show (0 : Int) < 2; decide), rfl, _, rfl, ite2 (fun _ => ?_) (fun _ => ite2 (fun z => absurd z Bool.false_ne_true) fun _ => ?_)⟩
        · refine ⟨_, rfl, Nat.zero_le _, fun n0 hn0 => ?_⟩
          have c9 := c.keep (same_new (o := .lst []) hn0)
          have dpr : Dp K (upd H2' n0 (.lst [])) (.ref k) (.list (ps.map prD)) := At.dp _ _ (.lst (p := fun _ => False) (xs := rows) (fun z => z) c9.at_ (AtAll.weak (fun _ z => z.elim) _ _ c9.a))
          refine ⟨_, .list [], dpr, .lst (.inl (.inl upd_same)) .nil, shaped_prs _, by decide +kernel, ?_⟩
          clear dpr
          generalize upd H2' n0 (.lst []) = H4 at c9 ⊢
          rcases List.eq_nil_or_concat ps with e | ⟨ps0, s, e⟩
          · have ev : (!PyData.eqv (.list (ps.map prD)) (.list [])) = false := by rw [e]; rfl
            rw [ev]
            refine ⟨_, rfl, ite2 (fun z => absurd z Bool.false_ne_true) fun _ => ite2 (fun z => absurd z Bool.false_ne_true) fun _ => ?_⟩
            refine ⟨_, rfl, .inl ⟨rfl, _, .inl (.inl c9.at_)⟩, _, rfl, by show 2 ≤ sizeLine; decide, fun t' ht' => ?_⟩
            have c2 := c9.keep (same_new (o := .tup [.int z, .int 1]) ht')
            have nt' : ¬ Plus S k t' := (c9.occ o1).free ht'
            refine ⟨k, _, _, rfl, rfl, c2.at_, sz1000 (by omega), _, rows ++ [.ref t'], ps ++ [(z, 1)], rfl, ?_, ?_, ?_⟩
            · rw [List.map_append]
              exact c2.step (.ofpair nt' upd_same)
            · rw [lnOf_snoc, lnP_one, ln, eT]
            · exact fun u hu => (List.mem_append.mp hu).elim (pos u) fun hu => by cases List.mem_singleton.mp hu; exact Int.le_refl _
          · rw [List.concat_eq_append] at e
            have ev : (!PyData.eqv (.list (ps.map prD)) (.list [])) = true := by
              rw [e]
              cases ps0 <;> rfl
            rw [ev]
            refine ⟨_, rfl, ite2 (fun _ => ?_) (fun z => absurd (show true = true from rfl) z)⟩
            have ca := c9.a
            have cat := c9.at_
            rw [e, List.map_append] at ca
            obtain ⟨ys, y, er, a1, a2⟩ := AtAll.snoc ca
            obtain ⟨t, rfl, nt, et⟩ := a2.pair
            rw [er] at cat
            refine ⟨_, rfl, _, rfl, k, _, -1, .ref t, rfl, rfl, .inl (.inl cat), atI_last ys _, t, _, 0, _, rfl, rfl, .inl (.inl et), atI_nat (j := 0) rfl, _, rfl, _, rfl, k, _, -1, .ref t, rfl, rfl, .inl (.inl cat), atI_last ys _, t, _, 1, _, rfl, rfl, .inl (.inl et), atI_nat (j := 1) rfl, s.1, s.2, rfl, rfl, _, rfl, rfl, _, rfl, ?_⟩
            by_cases e3 : s.1 + s.2 = z
            · refine ite2 (fun _ => ?_) (fun q => absurd (decide_eq_true (congrArg V.int e3)) q)
              refine ⟨_, rfl, _, rfl, k, _, -1, .ref t, rfl, rfl, .inl (.inl cat), atI_last ys _, t, _, 0, _, rfl, rfl, .inl (.inl et), atI_nat (j := 0) rfl, _, rfl, _, rfl, k, _, -1, .ref t, rfl, rfl, .inl (.inl cat), atI_last ys _, t, _, 1, _, rfl, rfl, .inl (.inl et), atI_nat (j := 1) rfl, s.2, 1, rfl, rfl, by show 2 ≤ sizeLine; decide, fun t' ht' => ?_⟩
              have c2 := c9.keep (same_new (o := .tup [.int s.1, .int (s.2 + 1)]) ht')
              have nt' : ¬ Plus S k t' := (c9.occ o1).free ht'
              have hd : At (Plus S k) (upd H4 t' (.tup [.int s.1, .int (s.2 + 1)])) (.ref t') (prD (s.1, s.2 + 1)) := .ofpair nt' upd_same
              have c3 := c2.put (ys := ys ++ [.ref t']) (es := ps0.map prD ++ [prD (s.1, s.2 + 1)]) ((AtAll.same a1 (same_new ht')).app (.cons hd .nil))
              have cat2 := c2.at_
              rw [er] at cat2
              refine ⟨_, rfl, _, rfl, k, ys ++ [.ref t], -1, ys.length, rfl, rfl, cat2, ?_, _, ys ++ [.ref t'], ps0 ++ [(s.1, s.2 + 1)], rfl, ?_, ?_, ?_⟩
              · unfold ixN
                rw [if_neg (by decide), List.length_append, List.length_singleton, if_pos (by omega)]
                exact congrArg some (by omega)
              · rw [show (ys ++ [V.ref t]).set ys.length (.ref t') = ys ++ [.ref t'] by simp, List.map_append]
                exact c3
              · have s1 := pos s (by rw [e]; simp)
                rw [lnOf_snoc, lnP_succ (by omega), ← List.append_assoc, ← lnOf_snoc, ← e, ln, eT, e3]
              · exact fun u hu => (List.mem_append.mp hu).elim (fun hu => pos u (by rw [e]; exact List.mem_append_left _ hu)) fun hu => by
                  cases List.mem_singleton.mp hu
                  have := pos s (by rw [e]; simp)
                  show 1 ≤ s.2 + 1
                  omega
            · refine ite2 (fun q => absurd (V.int.inj (of_decide_eq_true q)) e3) (fun _ => ?_)
              refine ⟨_, rfl, .inl ⟨rfl, _, .inl (.inl c9.at_)⟩, _, rfl, by show 2 ≤ sizeLine; decide, fun t' ht' => ?_⟩
              have c2 := c9.keep (same_new (o := .tup [.int z, .int 1]) ht')
              have nt' : ¬ Plus S k t' := (c9.occ o1).free ht'
              refine ⟨k, _, _, rfl, rfl, c2.at_, sz1000 (by omega), _, rows ++ [.ref t'], ps ++ [(z, 1)], rfl, ?_, ?_, ?_⟩
              · rw [List.map_append]
                exact c2.step (.ofpair nt' upd_same)
              · rw [lnOf_snoc, lnP_one, ln, eT]
              · exact fun u hu => (List.mem_append.mp hu).elim (pos u) fun hu => by cases List.mem_singleton.mp hu; exact Int.le_refl _
        · refine ⟨_, rfl, .inl ⟨rfl, _, .inl (.inl c.at_)⟩, _, rfl, by show 2 ≤ sizeLine; decide, fun t' ht' => ?_⟩
          have c2 := c.keep (same_new (o := .tup [.int z, .int 1]) ht')
          have nt' : ¬ Plus S k t' := (c.occ o1).free ht'
          refine ⟨k, _, _, rfl, rfl, c2.at_, sz1000 (by omega), _, rows ++ [.ref t'], ps ++ [(z, 1)], rfl, ?_, ?_, ?_⟩
          · rw [List.map_append]
            exact c2.step (.ofpair nt' upd_same)
          · rw [lnOf_snoc, lnP_one, ln, eT]
          · exact fun u hu => (List.mem_append.mp hu).elim (pos u) fun hu => by cases List.mem_singleton.mp hu; exact Int.le_refl _
      · rintro σ H2 ⟨t4, rows, ps, rfl, c, ln, pos⟩
        rw [List.length_map, List.take_length] at ln
        have okP := ok_pairsOf pos ln nd hb (by omega)
        rw [lT] at okP
        have S2 := S1.trans c.s
        have pr := all_prs c.done
        refine ⟨_, rfl, S, S0, v, B, rfl, ho.same S2, At.same hv S2, okB.l1, fun b hb => (okB.ch b hb).2.1, fun lc H3 hlc S3 aC => ?_⟩
        obtain ⟨a, xs, ea, na, el, ka⟩ := aC.bksL
        cases ea
        refine ⟨lc, xs, rfl, .inl ⟨.inl (.inl el), fun tt htt => ?_⟩⟩
        have S4 := same_new (o := .tup xs) htt
        refine ⟨_, rfl, rfl, rfl, ?_⟩
        intro e dx he hdx ne
        have S5 : Same (upd H3 tt (.tup xs)) (upd (upd (upd H3 tt (.tup xs)) dx (.own e)) e (.ins C dx [])) := (same_new hdx).trans (same_new (by rw [upd_ne ne.symm]; exact he))
        have o3 := ((ho.same S2).same S3).same S4
        have lns' : lnsD (some ps) ((plOf B).length : Nat) = Th := ln
        refine ⟨S, e, dx, .ref tt, .ref k, B, some ps, rfl, o3.free he, o3.same S5, upd_same, (bksT_in upd_same (AtAll.same ka S4)).same S5, okB, ?_, ⟨by omega, by omega, okP⟩, by rw [lns']; exact nd, by rw [lns']; exact lT, fun H6 B6 ed6 => ⟨rfl, ?_⟩⟩
        · exact ⟨k, rows, rfl, .inl (S5 _ _ (S4 _ _ (S3 _ _ c.at_))), pr.1, fun i x s h1 h2 => let ⟨t, e1, e2⟩ := pr.2 i x s h1 h2; ⟨t, e1, S5 _ _ (S4 _ _ (S3 _ _ e2))⟩⟩
        · rw [lns'] at ed6
          have S6 : Same (upd H3 tt (.tup xs)) H6 := fun b ob eo => B6 b ob (ne_of_none eo he) (S5 b ob eo)
          have SS := ((S2.trans S3).trans S4).trans S6
          exact q e H6 SS (Same.fresh ((S2.trans S3).trans S4) he) ed6
end
end My
set_option Elab.async false
set_option linter.all false
set_option maxRecDepth 100000
set_option maxHeartbeats 4000000
namespace My
open PySem PySem.Spec PyProof.Rows L2
/-! R1: books whose rows stand apart from one another, so that one of them may be changed. -/
/-- one book's chapters: the list at u.1, its rows at u.2 -/
structure ChR (S : Av) (H : Hp) (u : Addr × List Addr) (C : List (List Int)) : Prop where
  n : ¬ S u.1
  at_ : H u.1 = some (.lst (u.2.map V.ref))
  len : u.2.length = C.length
  row : ∀ (j : Nat) (r : Addr) (c : List Int), u.2[j]? = some r → C[j]? = some c → ¬ S r ∧ H r = some (.lst (c.map V.int))
theorem ChR.bt {S : Av} {H H' : Hp} {u : Addr × List Addr} {C : List (List Int)} (h : ChR S H u C) (b : BtS S H H') : ChR S H' u C :=
  ⟨h.n, b _ _ h.n h.at_, h.len, fun j r c h1 h2 => let ⟨n, e⟩ := h.row j r c h1 h2; ⟨n, b _ _ n e⟩⟩
theorem ChR.weak {S S' : Av} {H : Hp} {u : Addr × List Addr} {C : List (List Int)} (h : ChR S H u C) (W : ∀ b, S' b → S b) : ChR S' H u C :=
  ⟨fun z => h.n (W _ z), h.at_, h.len, fun j r c h1 h2 => let ⟨n, e⟩ := h.row j r c h1 h2; ⟨fun z => n (W _ z), e⟩⟩
structure ChRs (S : Av) (H : Hp) (us : List (Addr × List Addr)) (B : Bks) : Prop where
  len : us.length = B.length
  at_ : ∀ (i : Nat) (u : Addr × List Addr) (b : List Nat × List (List Int)), us[i]? = some u → B[i]? = some b → ChR S H u b.2
  nd : (us.flatMap (·.2)).Nodup
theorem ChRs.bt {S : Av} {H H' : Hp} {us : List (Addr × List Addr)} {B : Bks} (h : ChRs S H us B) (b : BtS S H H') : ChRs S H' us B := ⟨h.len, fun i u b' h1 h2 => (h.at_ i u b' h1 h2).bt b, h.nd⟩
theorem ChRs.weak {S S' : Av} {H : Hp} {us : List (Addr × List Addr)} {B : Bks} (h : ChRs S H us B) (W : ∀ b, S' b → S b) : ChRs S' H us B := ⟨h.len, fun i u b' h1 h2 => (h.at_ i u b' h1 h2).weak W, h.nd⟩
theorem ChRs.there {S : Av} {H : Hp} {us : List (Addr × List Addr)} {B : Bks} (h : ChRs S H us B) {r : Addr} (hr : r ∈ us.flatMap (·.2)) : H r ≠ none := by
  obtain ⟨u, hu, hr⟩ := List.mem_flatMap.mp hr
  obtain ⟨i, hi, e⟩ := List.getElem_of_mem hu
  obtain ⟨j, hj, e2⟩ := List.getElem_of_mem hr
  have h1 : us[i]? = some u := by rw [List.getElem?_eq_getElem hi, e]
  have hb : i < B.length := by rw [← h.len]; exact hi
  have k := h.at_ i u _ h1 (List.getElem?_eq_getElem hb)
  have hc : j < B[i].2.length := by rw [← k.len]; exact hj
  have := (k.row j r _ (by rw [List.getElem?_eq_getElem hj, e2]) (List.getElem?_eq_getElem hc)).2
  rw [this]
  intro z
  cases z
theorem ChRs.snoc {S : Av} {H : Hp} {us : List (Addr × List Addr)} {B : Bks} {u : Addr × List Addr} {b : List Nat × List (List Int)} (h : ChRs S H us B) (k : ChR S H u b.2) (nd : u.2.Nodup) (dj : ∀ r ∈ u.2, r ∉ us.flatMap (·.2)) : ChRs S H (us ++ [u]) (B ++ [b]) := by
  refine ⟨by rw [List.length_append, List.length_append, h.len]; rfl, fun i u' b' h1 h2 => ?_, ?_⟩
  · rcases Nat.lt_or_ge i us.length with hi | hi
    · rw [List.getElem?_append_left hi] at h1
      rw [List.getElem?_append_left (by rw [← h.len]; exact hi)] at h2
      exact h.at_ i u' b' h1 h2
    · rw [List.getElem?_append_right hi] at h1
      rw [List.getElem?_append_right (by rw [← h.len]; exact hi), ← h.len] at h2
      rcases hk : i - us.length with _ | m
      · rw [hk] at h1 h2
        cases h1
        cases h2
        exact k
      · rw [hk] at h1
        cases h1
  · rw [List.flatMap_append]
    have e : List.flatMap (fun (x : Addr × List Addr) => x.2) [u] = u.2 := by
      show u.2 ++ [] = u.2
      rw [List.append_nil]
    rw [e, List.nodup_append]
    exact ⟨h.nd, nd, fun a ha b hb z => dj b hb (z ▸ ha)⟩
theorem flat_inj {us : List (Addr × List Addr)} (nd : (us.flatMap (·.2)).Nodup) {i j i' j' : Nat} {u u' : Addr × List Addr} {r : Addr} (h1 : us[i]? = some u) (h2 : u.2[j]? = some r) (h1' : us[i']? = some u') (h2' : u'.2[j']? = some r) : i = i' ∧ j = j' := by
  obtain ⟨p1, p2⟩ := List.pairwise_flatMap.mp nd
  have key : ∀ {i i' : Nat} {u u' : Addr × List Addr}, us[i]? = some u → us[i']? = some u' → i < i' → ∀ {j j' : Nat}, u.2[j]? = some r → u'.2[j']? = some r → False := fun {i i' u u'} a b lt {j j'} c d => by
    obtain ⟨hi, ei⟩ := List.getElem?_eq_some_iff.mp a
    obtain ⟨hi', ei'⟩ := List.getElem?_eq_some_iff.mp b
    have := List.pairwise_iff_getElem.mp p2 i i' hi hi' lt
    rw [ei, ei'] at this
    exact this r (List.mem_of_getElem? c) r (List.mem_of_getElem? d) rfl
  have ei : i = i' := by
    rcases Nat.lt_trichotomy i i' with z | z | z
    · exact (key h1 h1' z h2 h2').elim
    · exact z
    · exact (key h1' h1 z h2' h2).elim
  subst ei
  rw [h1] at h1'
  cases h1'
  refine ⟨rfl, ?_⟩
  exact (List.getElem?_inj (List.getElem?_eq_some_iff.mp h2).1 (p1 u (List.mem_of_getElem? h1))).mp (h2.trans h2'.symm)
/-- one row put otherwise -/
theorem ChRs.set {S : Av} {H : Hp} {us : List (Addr × List Addr)} {B : Bks} {i j : Nat} {u : Addr × List Addr} {b : List Nat × List (List Int)} {r : Addr} {c c' : List Int} (h : ChRs S H us B) (pos : ∀ b ∈ B, 1 ≤ b.2.length) (hu : us[i]? = some u) (hb : B[i]? = some b) (hr : u.2[j]? = some r) (hc : b.2[j]? = some c) :
    ChRs S (upd H r (.lst (c'.map V.int))) us (B.set i (b.1, b.2.set j c')) := by
  have er := ((h.at_ i u b hu hb).row j r c hr hc).2
  have li : i < B.length := (List.getElem?_eq_some_iff.mp hb).1
  refine ⟨by rw [List.length_set]; exact h.len, fun i' u' b' h1 h2 => ?_, h.nd⟩
  have hb'' : ∃ b0, B[i']? = some b0 ∧ b'.2 = if i' = i then b0.2.set j c' else b0.2 := by
    by_cases e : i' = i
    · subst e
      rw [List.getElem?_set_self li] at h2
      cases h2
      exact ⟨b, hb, by rw [if_pos rfl]⟩
    · rw [List.getElem?_set_ne (fun z => e z.symm)] at h2
      exact ⟨b', h2, by rw [if_neg e]⟩
  obtain ⟨b0, hb0, eb⟩ := hb''
  have k := h.at_ i' u' b0 h1 hb0
  have ne1 : u'.1 ≠ r := fun z => by
    have := k.at_
    rw [z, er] at this
    have e := HO.lst.inj (Option.some.inj this)
    have p := pos b0 (List.mem_of_getElem? hb0)
    have l := k.len
    cases hq : u'.2 with
    | nil => rw [hq] at l; simp only [List.length_nil] at l; omega
    | cons x xs =>
      rw [hq] at e
      cases c with
      | nil => cases e
      | cons y ys => cases e
  refine ⟨k.n, by rw [upd_ne ne1]; exact k.at_, ?_, fun j' r' c'' g1 g2 => ?_⟩
  · rw [eb]
    split
    · rw [List.length_set]
      exact k.len
    · exact k.len
  · by_cases e : r' = r
    · subst e
      obtain ⟨e1, e2⟩ := flat_inj h.nd h1 g1 hu hr
      subst e1 e2
      rw [eb, if_pos rfl] at g2
      rw [hb] at hb0
      cases hb0
      rw [List.getElem?_set_self (List.getElem?_eq_some_iff.mp hc).1] at g2
      cases g2
      exact ⟨((h.at_ i' u b hu hb).row j' r' c hr hc).1, upd_same⟩
    · have g3 : b0.2[j']? = some c'' := by
        rw [eb] at g2
        split at g2
        · rename_i e1
          subst e1
          by_cases e2 : j' = j
          · subst e2
            rw [hu] at h1
            cases h1
            rw [hr] at g1
            cases g1
            exact absurd rfl e
          · rw [List.getElem?_set_ne (fun z => e2 z.symm)] at g2
            exact g2
        · exact g2
      obtain ⟨n, e3⟩ := k.row j' r' c'' g1 g3
      exact ⟨n, by rw [upd_ne e]; exact e3⟩
theorem ChR.data {S : Av} {H : Hp} {u : Addr × List Addr} {C : List (List Int)} (h : ChR S H u C) : At S H (.ref u.1) (bookD C) := by
  refine .lst h.n h.at_ ?_
  have : ∀ (rs : List Addr) (C : List (List Int)), rs.length = C.length → (∀ (j : Nat) (r : Addr) (c : List Int), rs[j]? = some r → C[j]? = some c → ¬ S r ∧ H r = some (.lst (c.map V.int))) → AtAll S H (rs.map V.ref) (C.map rowD) := by
    intro rs
    induction rs with
    | nil =>
      intro C l _
      cases C with
      | nil => exact .nil
      | cons => cases l
    | cons r rs ih =>
      intro C l k
      cases C with
      | nil => cases l
      | cons c C =>
        obtain ⟨n, e⟩ := k 0 r c rfl rfl
        exact .cons (.ofrow n e) (ih C (Nat.succ.inj l) fun j r' c' h1 h2 => k (j + 1) r' c' h1 h2)
  exact this _ _ h.len h.row
/-- the books as the law copies them -/
structure BkR (S : Av) (H : Hp) (l : Addr) (us : List (Addr × Addr × List Addr)) (B : Bks) : Prop where
  n : ¬ S l
  at_ : H l = some (.lst (us.map fun u => V.ref u.1))
  tp : ∀ (i : Nat) (u : Addr × Addr × List Addr) (b : List Nat × List (List Int)), us[i]? = some u → B[i]? = some b → ¬ S u.1 ∧ H u.1 = some (.tup [.str (SX.S b.1), .ref u.2.1])
  ch : ChRs S H (us.map (·.2)) B
theorem BkR.len {S : Av} {H : Hp} {l : Addr} {us : List (Addr × Addr × List Addr)} {B : Bks} (h : BkR S H l us B) : us.length = B.length := by
  have := h.ch.len
  rwa [List.length_map] at this
theorem BkR.bt {S : Av} {H H' : Hp} {l : Addr} {us : List (Addr × Addr × List Addr)} {B : Bks} (h : BkR S H l us B) (b : BtS S H H') : BkR S H' l us B :=
  ⟨h.n, b _ _ h.n h.at_, fun i u b' h1 h2 => let ⟨n, e⟩ := h.tp i u b' h1 h2; ⟨n, b _ _ n e⟩, h.ch.bt b⟩
theorem all_of_ix {S : Av} {H : Hp} {α : Type} (f : α → V) (g : List Nat × List (List Int) → PyData) : ∀ (us : List α) (B : Bks), us.length = B.length → (∀ (i : Nat) (u : α) (b : List Nat × List (List Int)), us[i]? = some u → B[i]? = some b → At S H (f u) (g b)) → AtAll S H (us.map f) (B.map g)
  | [], [], _, _ => .nil
  | [], _ :: _, l, _ => by cases l
  | _ :: _, [], l, _ => by cases l
  | u :: us, b :: B, l, k => .cons (k 0 u b rfl rfl) (all_of_ix f g us B (Nat.succ.inj l) fun i u' b' h1 h2 => k (i + 1) u' b' h1 h2)
theorem BkR.data {S : Av} {H : Hp} {l : Addr} {us : List (Addr × Addr × List Addr)} {B : Bks} (h : BkR S H l us B) : At S H (.ref l) (bksLD B) := by
  refine .lst h.n h.at_ (all_of_ix _ _ us B h.len fun i u b h1 h2 => ?_)
  obtain ⟨n, e⟩ := h.tp i u b h1 h2
  have k := h.ch.at_ i u.2 b (by rw [List.getElem?_map, h1]; rfl) h2
  exact .tup n e (.cons (.str _) (.cons k.data .nil))
theorem BkR.set {S : Av} {H : Hp} {l : Addr} {us : List (Addr × Addr × List Addr)} {B : Bks} {i j : Nat} {u : Addr × Addr × List Addr} {b : List Nat × List (List Int)} {r : Addr} {c c' : List Int} (h : BkR S H l us B) (pos : ∀ b ∈ B, 1 ≤ b.2.length) (hu : us[i]? = some u) (hb : B[i]? = some b) (hr : u.2.2[j]? = some r) (hc : b.2[j]? = some c) :
    BkR S (upd H r (.lst (c'.map V.int))) l us (B.set i (b.1, b.2.set j c')) := by
  have hu2 : (us.map (·.2))[i]? = some u.2 := by rw [List.getElem?_map, hu]; rfl
  have er := ((h.ch.at_ i u.2 b hu2 hb).row j r c hr hc).2
  have li : i < B.length := (List.getElem?_eq_some_iff.mp hb).1
  have nl : l ≠ r := fun z => by
    have := h.at_
    rw [z, er] at this
    have e := HO.lst.inj (Option.some.inj this)
    have : us ≠ [] := fun z => by rw [z] at hu; cases hu
    cases us with
    | nil => exact this rfl
    | cons x xs => cases c <;> cases e
  refine ⟨h.n, by rw [upd_ne nl]; exact h.at_, fun i' u' b' h1 h2 => ?_, h.ch.set pos hu2 hb hr hc⟩
  have : ∃ b0, B[i']? = some b0 ∧ b'.1 = b0.1 := by
    by_cases e : i' = i
    · subst e
      rw [List.getElem?_set_self li] at h2
      cases h2
      exact ⟨b, hb, rfl⟩
    · rw [List.getElem?_set_ne (fun z => e z.symm)] at h2
      exact ⟨b', h2, rfl⟩
  obtain ⟨b0, hb0, eb⟩ := this
  obtain ⟨n, e⟩ := h.tp i' u' b0 h1 hb0
  have ne : u'.1 ≠ r := fun z => by
    rw [z, er] at e
    cases e
  exact ⟨n, by rw [upd_ne ne, eb]; exact e⟩
/-- rows that a comprehension makes -/
structure LcR (S : Av) (H : Hp) (D : Addr) (rs : List Addr) (C : List (List Int)) (H' : Hp) : Prop where
  fr : H D = none
  s : Same H H'
  at_ : H' D = some (.lst (rs.map V.ref))
  len : rs.length = C.length
  row : ∀ (j : Nat) (r : Addr) (c : List Int), rs[j]? = some r → C[j]? = some c → ¬ S r ∧ r ≠ D ∧ H r = none ∧ H' r = some (.lst (c.map V.int))
  nd : rs.Nodup
theorem LcR.start {S : Av} {H : Hp} {D : Addr} (h : H D = none) : LcR S H D [] [] (upd H D (.lst [])) := ⟨h, same_new h, upd_same, rfl, (fun j r c e => by cases e), List.nodup_nil⟩
theorem LcR.there {S : Av} {H H' : Hp} {D : Addr} {rs : List Addr} {C : List (List Int)} (h : LcR S H D rs C H') {r : Addr} (hr : r ∈ rs) : H r = none ∧ H' r ≠ none := by
  obtain ⟨j, hj, e2⟩ := List.getElem_of_mem hr
  have hc : j < C.length := by rw [← h.len]; exact hj
  obtain ⟨_, _, n, e⟩ := h.row j r _ (by rw [List.getElem?_eq_getElem hj, e2]) (List.getElem?_eq_getElem hc)
  exact ⟨n, by rw [e]; intro z; cases z⟩
/-- one more row, laid at p -/
theorem LcR.step {S : Av} {H H' : Hp} {D p : Addr} {rs : List Addr} {C : List (List Int)} {c : List Int} (h : LcR S H D rs C H') (o : Occ S H') (hp : H' p = none) : LcR S H D (rs ++ [p]) (C ++ [c]) (upd (upd H' p (.lst (c.map V.int))) D (.lst ((rs ++ [p]).map V.ref))) := by
  have pD : p ≠ D := fun z => by
    rw [z, h.at_] at hp
    cases hp
  have hp0 : H p = none := Same.fresh h.s hp
  refine ⟨h.fr, same_over (h.s.trans (same_new hp)) h.fr, upd_same, by rw [List.length_append, List.length_append, h.len]; rfl, fun j r c' h1 h2 => ?_, ?_⟩
  · rcases Nat.lt_or_ge j rs.length with hj | hj
    · rw [List.getElem?_append_left hj] at h1
      rw [List.getElem?_append_left (by rw [← h.len]; exact hj)] at h2
      obtain ⟨n, nD, n0, e⟩ := h.row j r c' h1 h2
      exact ⟨n, nD, n0, by rw [upd_ne nD, upd_ne (ne_of_none e hp)]; exact e⟩
    · rw [List.getElem?_append_right hj] at h1
      rw [List.getElem?_append_right (by rw [← h.len]; exact hj), ← h.len] at h2
      rcases hk : j - rs.length with _ | m
      · rw [hk] at h1 h2
        cases h1
        cases h2
        exact ⟨o.free hp, pD, hp0, by rw [upd_ne pD, upd_same]⟩
      · rw [hk] at h1
        cases h1
  · rw [List.nodup_append]
    refine ⟨h.nd, List.nodup_cons.mpr ⟨(fun z => by cases z), List.nodup_nil⟩, fun a ha b hb z => ?_⟩
    rw [List.mem_singleton.mp hb] at z
    subst z
    exact (h.there ha).2 hp
theorem LcR.chr {S : Av} {H H' : Hp} {D : Addr} {rs : List Addr} {C : List (List Int)} (h : LcR S H D rs C H') (n : ¬ S D) : ChR S H' (D, rs) C := ⟨n, h.at_, h.len, fun j r c h1 h2 => let ⟨a, _, _, e⟩ := h.row j r c h1 h2; ⟨a, e⟩⟩
def sp_copyX : Sp := fun vs H Q _ => ∃ (S S0 : Av) (v : V) (B : Bks), vs = [v] ∧ Occ S H ∧ At S0 H v (bksLD B) ∧ B.length ≤ 6 ∧ (∀ b ∈ B, b.2.length ≤ 12) ∧ ∀ l us H', H l = none → Same H H' → BkR S H' l us B → (∀ r ∈ (us.map (·.2)).flatMap (·.2), H r = none) → Q (.ref l) H'
section
variable {P : Program} {w : World} {K : PySem.W.Frag} {mg : Str → Option Value} {base : Heap}
theorem ok_copyX (T : Txt K mg) (D : Df K mg "_law_copy" s__law_copy ["books"]) : Cl P w K mg base 2 "_law_copy" ["books"] sp_copyX := by
  refine ok_of D sc__law_copy (fun vs H Q E h => ?_) (fun f cdv A outer s H vs Q E hr h => ?_)
  · obtain ⟨S, S0, v, B, rfl, _⟩ := h
    rfl
  · obtain ⟨S, S0, v, B, rfl, ho, hv, l6, c12, q⟩ := h
    refine ⟨_, (pss_one (ps_ret (pe_lc (own := [("name", 2), ("chapters", 3)]) rfl sc__law_copy.nd (pi_list (pv 0)) (blkOk_by (own := [("name", 2), ("chapters", 3)]) (N := N__law_copy) (sc := defScope s__law_copy) (by decide +kernel)) (fun _ _ _ _ _ => (pg_tupK (K := K) (n := 2) rfl rfl (pgs_cons (pg_name (i := 2) sc__law_copy.nd rfl (.inl rfl)) (pgs_cons (pg_name (i := 3) sc__law_copy.nd rfl (.inl rfl)) pgs_nil)))) (fun _ _ _ _ _ => pts_nil) (fun _ _ _ _ _ => (pe_tup (pa_cons (pv 2) (pa_cons (pe_lc (own := [("chapter", 1)]) rfl sc__law_copy.nd (pi_listK (K := K) rfl (pv 3)) (blkOk_by (own := [("chapter", 1)]) (N := N__law_copy) (by kernel_rfl)) (fun _ _ _ _ _ => (pg_name (i := 1) sc__law_copy.nd rfl (.inl rfl))) (fun _ _ _ _ _ => pts_nil) (fun _ _ _ _ _ => (pe_callTy (call_list_ofK (K := K) rfl) (by rfl) T.b_list (by decide +kernel) (pa_cons (pv 1) pa_nil)))) pa_nil))))))), ?_⟩
    obtain ⟨a, xs, rfl, na, ea, ka⟩ := hv.bksL
    have lx : xs.length = B.length := by rw [ka.len, List.length_map]
    refine ⟨_, rfl, a, rfl, ⟨_, .inl (.inl ea)⟩, fun bl hbl => ?_⟩
    refine lc_it (walk_list (xs := xs)) (fun i H' => ∃ us : List (Addr × Addr × List Addr), Same H H' ∧ H' bl = some (.lst (us.map fun u => V.ref u.1)) ∧ (∀ (i' : Nat) (u : Addr × Addr × List Addr) (b : List Nat × List (List Int)), us[i']? = some u → (B.take i)[i']? = some b → ¬ Plus S bl u.1 ∧ H' u.1 = some (.tup [.str (SX.S b.1), .ref u.2.1])) ∧ (∀ r ∈ (us.map (·.2)).flatMap (·.2), H r = none) ∧ ChRs (Plus S bl) H' (us.map (·.2)) (B.take i)) ⟨[], same_new hbl, upd_same, (fun i' u b e => by cases e), (fun r h => by cases h), ⟨by rw [List.take_zero]; rfl, (fun i u b e => by cases e), List.nodup_nil⟩⟩ (fun i H' _ ⟨_, L, _⟩ => .inl (.inl (L _ _ ea))) ?_ ?_
    · rintro i y H1x H1 hi ⟨us, S1, e1, tp, fr, ch⟩ ⟨rfl, hy⟩
      obtain ⟨b, hb, hbv⟩ := ka.at_ hy
      obtain ⟨t, c, zs, rfl, nt, et, nc, ec, kz⟩ := hbv.bkL
      have lz : zs.length = b.2.length := by rw [kz.len, List.length_map]
      have c12 := c12 b (List.mem_of_getElem? hb)
      have oS : Occ (Plus S bl) H1 := fun q z e => z.elim (fun z => (ho.same S1) q z e) fun z => by
        rw [z, e1] at e
        cases e
      have lus : us.length = i := by
        have := ch.len
        rw [List.length_map, List.length_take] at this
        rw [lx] at hi
        omega
      refine ⟨t, _, rfl, .inl (.inl (S1 _ _ et)), rfl, _, _, rfl, _, _, rfl, rfl, rfl, ?_⟩
      refine ⟨_, rfl, _, rfl, c, rfl, ⟨_, .inl (.inl (S1 _ _ ec))⟩, fun cl hcl => ?_⟩
      refine lc_it (walk_list (xs := zs)) (fun j H' => ∃ rs : List Addr, LcR (Plus S bl) H1 cl rs (b.2.take j) H') ⟨[], LcR.start hcl⟩ (fun i H' _ ⟨_, M⟩ => .inl (.inl (M.s _ _ (S1 _ _ ec)))) ?_ ?_
      · rintro j y H2x H2 hj ⟨rs, M⟩ ⟨rfl, hy2⟩
        obtain ⟨r, hrr, hrv⟩ := kz.at_ hy2
        obtain ⟨ar, rfl, nar, ear⟩ := hrv.row
        refine ⟨rfl, _, rfl, ar, _, rfl, .inl (.inl (.inl (M.s _ _ (S1 _ _ ear)))), fun l hl => ?_⟩
        have lr : rs.length ≤ j := by
          rw [M.len, List.length_take]
          omega
        have ne : cl ≠ l := ne_of_none M.at_ hl
        refine ⟨rs.map V.ref, by rw [upd_ne ne]; exact M.at_, sz1000 (by rw [List.length_map]; omega), rs ++ [l], ?_⟩
        rw [List.take_add_one, hrr, show rs.map V.ref ++ [V.ref l] = (rs ++ [l]).map V.ref by rw [List.map_append]; rfl]
        exact M.step (oS.same M.s) hl
      · rintro H2 ⟨rs, M⟩
        rw [lz, List.take_length] at M
        have S12 := S1.trans M.s
        refine ⟨by show 2 ≤ sizeLine; decide, fun t2 ht2 => ?_⟩
        have S3 := same_new (o := .tup [.str (SX.S b.1), .ref cl]) ht2
        have oS2 := oS.same M.s
        have nt2 : ¬ Plus S bl t2 := oS2.free ht2
        have ncl : ¬ Plus S bl cl := oS.free hcl
        have lb : i < B.length := by rw [← lx]; exact hi
        refine ⟨us.map fun u => V.ref u.1, S3 _ _ (M.s _ _ e1), sz1000 (by rw [List.length_map]; omega), us ++ [(t2, cl, rs)], ?_⟩
        have S13 : Same H1 (upd H2 t2 (.tup [.str (SX.S b.1), .ref cl])) := M.s.trans S3
        have ebl : H1 bl ≠ none := by rw [e1]; intro z; cases z
        have U : BtS (Plus S bl) (upd H2 t2 (.tup [.str (SX.S b.1), .ref cl])) (upd (upd H2 t2 (.tup [.str (SX.S b.1), .ref cl])) bl (.lst ((us.map fun u => V.ref u.1) ++ [V.ref t2]))) := BtS.upd (.inr rfl)
        have W : BtS (Plus S bl) H1 (upd (upd H2 t2 (.tup [.str (SX.S b.1), .ref cl])) bl (.lst ((us.map fun u => V.ref u.1) ++ [V.ref t2]))) := (Same.btS S13).trans U
        refine ⟨same_over (S1.trans S13) hbl, ?_, fun i' u b' h1 h2 => ?_, fun r hr => ?_, ?_⟩
        · rw [upd_same, List.map_append]
          rfl
        · rcases Nat.lt_or_ge i' us.length with hi' | hi'
          · rw [List.getElem?_append_left hi'] at h1
            rw [List.getElem?_take, if_pos (by omega)] at h2
            obtain ⟨n, e⟩ := tp i' u b' h1 (by rw [List.getElem?_take, if_pos (by omega)]; exact h2)
            exact ⟨n, W _ _ n e⟩
          · rw [List.getElem?_append_right hi'] at h1
            rcases hk : i' - us.length with _ | m
            · rw [hk] at h1
              cases h1
              have : i' = i := by omega
              subst this
              rw [List.getElem?_take, if_pos (by omega), hb] at h2
              cases h2
              exact ⟨nt2, U _ _ nt2 upd_same⟩
            · rw [hk] at h1
              cases h1
        · rw [List.map_append, List.flatMap_append] at hr
          rcases List.mem_append.mp hr with hr | hr
          · exact fr r hr
          · have hr : r ∈ rs ++ [] := hr
            rw [List.append_nil] at hr
            exact Same.fresh S1 (M.there hr).1
        · rw [List.map_append, List.take_add_one, hb]
          refine ChRs.snoc (u := (cl, rs)) (b := b) (ch.bt W) ((M.chr ncl).bt ((Same.btS S3).trans U)) M.nd fun r hr z => ?_
          exact ch.there z (M.there hr).1
    · rintro H1 ⟨us, S1, e1, tp, fr, ch⟩
      rw [lx, List.take_length] at tp ch
      exact q bl us H1 hbl S1 ⟨ho.free hbl, e1, fun i u b h1 h2 => let ⟨n, e⟩ := tp i u b h1 h2; ⟨fun z => n (.inl z), e⟩, ch.weak fun _ z => .inl z⟩ fr
end
end My
set_option Elab.async false
set_option linter.all false
set_option maxRecDepth 100000
set_option maxHeartbeats 4000000
namespace My
open PySem PySem.Spec PyProof.Rows L2
/-! R2: one edition's books and lines; what an edition of them tells, as the law has it. -/
def sp_one (K : PySem.W.Frag) : Sp := fun vs H Q _ => ∃ (S : Av) (a : Addr) (ns : List Int), vs = [.ref a] ∧ Occ S H ∧ SqL K H a (ns.map V.int) ∧ ∀ (t b1 t1 : Addr) (B1 : Bks) (L1 : List Int) H', Same H H' → H t = none → H' t = some (.tup [.ref b1, .ref t1]) →
  At S H' (.ref b1) (bksLD B1) → H' t1 = some (.lst (L1.map V.int)) → EdOk B1 L1 → lnt L1 → Q (.ref t) H'
def sp_toldT : Sp := fun vs H Q _ => ∃ (S S0 : Av) (v : V) (tl : Addr) (B : Bks) (L : List Int), vs = [v, .ref tl] ∧ Occ S H ∧ At S0 H v (bksLD B) ∧ B.length ≤ 6 ∧ (∀ b ∈ B, b.2.length ≤ 40) ∧ H tl = some (.lst (L.map V.int)) ∧ L.length ≤ 1000 ∧ ∀ v' H', Same H H' → At S H' v' (toldD B L) → Q v' H'
section
variable {P : Program} {w : World} {K : PySem.W.Frag} {mg : Str → Option Value} {base : Heap}
theorem ok_one (T : Txt K mg) (c__law_cell_at : Cl P w K mg base 2 "_law_cell_at" ["script", "k"] (sp_cellAt K)) (c__law_books : Cl P w K mg base 3 "_law_books" ["cell", "salt"] sp_booksK) (c__law_spots : Cl P w K mg base 2 "_law_spots" ["books"] sp_spotsL) (c__law_row : Cl P w K mg base 2 "_law_row" ["cell", "count", "salt"] sp_row)
    (c__law_threads : Cl P w K mg base 2 "_law_threads" ["row", "size", "span", "low", "way"] sp_threads) (D : Df K mg "_law_one" s__law_one ["script"]) : Cl P w K mg base 4 "_law_one" ["script"] (sp_one K) := by
  refine ok_of D sc__law_one (fun vs H Q E h => ?_) (fun f cdv A outer s H vs Q E hr h => ?_)
  · obtain ⟨S, a, ns, rfl, _⟩ := h
    rfl
  · obtain ⟨S, a, ns, rfl, ho, hS, q⟩ := h
    refine ⟨_, (pss_cons (ps_set (i := 1) sc__law_one.nd rfl (.inl rfl) (pe_cl c__law_books hr (by decide) (by rfl) (pa_cons (pe_cl c__law_cell_at hr (by decide) (by rfl) (pa_cons (pv 0) (pa_cons pe_int pa_nil))) (pa_cons pe_int pa_nil))))
      (pss_cons (ps_set (i := 2) sc__law_one.nd rfl (.inl rfl) (pe_callB call_len (by rfl) T.b_len (by decide +kernel) (pa_cons (pe_cl c__law_spots hr (by decide) (by rfl) (pa_cons (pv 1) pa_nil)) pa_nil)))
      (pss_cons (ps_set (i := 3) sc__law_one.nd rfl (.inl rfl) (pe_cl c__law_cell_at hr (by decide) (by rfl) (pa_cons (pv 0) (pa_cons pe_int pa_nil))))
      (pss_cons (ps_set (i := 4) sc__law_one.nd rfl (.inl rfl) (pe_ix ix_list (pe_lst (pa_cons pe_int (pa_cons (pe_op op_mod (pe_op op_fdiv (pv 3) pe_int) pe_int) pa_nil))) (pe_op op_mod (pe_op op_fdiv (pv 3) pe_int) pe_int) (fun _ _ => rfl)))
      (pss_cons (ps_set (i := 5) sc__law_one.nd rfl (.inl rfl) (pe_cl c__law_threads hr (by decide) (by rfl) (pa_cons (pe_cl c__law_row hr (by decide) (by rfl) (pa_cons (pe_cl c__law_cell_at hr (by decide) (by rfl) (pa_cons (pv 0) (pa_cons pe_int pa_nil))) (pa_cons pe_int (pa_cons pe_int pa_nil)))) (pa_cons (pv 2) (pa_cons (pe_op op_add (pv 2) pe_int) (pa_cons (pv 4) (pa_cons (pe_op op_mod (pv 3) pe_int) pa_nil)))))))
      (pss_one (ps_ret (pe_tup (pa_cons (pv 1) (pa_cons (pv 5) pa_nil)))))))))), ?_⟩
    conv in (_root_.L2.start _ _) => change [some (V.ref a), none, none, none, none, none]
    refine ⟨.ref a, rfl, a, ns, 0, rfl, hS, by decide, fun z0 => ?_⟩
    refine ⟨S, z0, 7, rfl, by decide, by decide, ho, fun B1 b1 H1 ok1 S1 hb1 a1 => ?_⟩
    try conv in (List.set _ _ _) => simp only [List.set]
    have n1 : 1 ≤ (plOf B1).length ∧ (plOf B1).length ≤ 400 := by
      have z1 := size_pos ok1
      have e := plOf_sum B1 fun b hb c hc m hm => by
        have := (((ok1.ch b hb).2.2 c hc).x m hm).1
        omega
      have := ok1.prs
      omega
    refine ⟨_, rfl, S, S, .ref b1, B1, rfl, ho.same S1, a1, ok1, fun l1 r1 H3 hl1 S3 el1 al1 => ⟨_, r1.length, rfl, .inl ⟨r1, .inl (.inl el1), rfl⟩, ?_⟩⟩
    have e1 : r1.length = (plOf B1).length := by rw [al1.len, List.length_map]
    rw [e1]
    try conv in (List.set _ _ _) => simp only [List.set]
    have S03 := S1.trans S3
    refine ⟨_, rfl, a, ns, 1, rfl, S03.seq hS, by decide, fun way => ?_⟩
    try conv in (List.set _ _ _) => simp only [List.set]
    obtain ⟨low, hlow, w0, w1⟩ : ∃ low : Int, atI [V.int 0, V.int (way / 6 % 4600)] (way / 3 % 2) = some (.int low) ∧ 0 ≤ low ∧ low < 4600 := by
      rcases (by omega : way / 3 % 2 = 0 ∨ way / 3 % 2 = 1) with e | e
      · exact ⟨0, by rw [e]; rfl, by decide, by decide⟩
      · exact ⟨way / 6 % 4600, by rw [e]; rfl, by omega, by omega⟩
    refine ⟨_, rfl, way, 6, rfl, rfl, ⟨by decide, by decide⟩, _, 4600, rfl, rfl, (by show (0 : Int) < 4600; decide), by show 2 ≤ sizeLine; decide, fun wl hwl => ?_⟩
    refine ⟨_, rfl, way, 3, rfl, rfl, ⟨by decide, by decide⟩, _, 2, rfl, rfl, (by show (0 : Int) < 2; decide), wl, _, _, _, rfl, rfl, .inl (.inl upd_same), hlow, ?_⟩
    try conv in (List.set _ _ _) => simp only [List.set]
    have S5 := same_new (o := .lst [V.int 0, V.int (way / 6 % 4600)]) hwl
    have S05 := S03.trans S5
    refine ⟨.ref a, rfl, a, ns, 2, rfl, S05.seq hS, by decide, fun z2 => ⟨z2, 40, 19, rfl, by decide, by decide, by decide, fun ns1 rl1 H6 lns1 hz1 hrl1 S6 erl1 => ?_⟩⟩
    refine ⟨_, rfl, _, rfl, ((plOf B1).length : Nat), 3, rfl, rfl, _, rfl, _, rfl, way, 3, rfl, rfl, (by show (0 : Int) < 3; decide), rl1, ns1, (plOf B1).length, (((plOf B1).length : Nat) : Int) + 3, low, _, rfl, erl1, by omega, fun z hz => (hz1 z hz).1, n1.2, by omega, by omega, w0, w1, fun t1 L1 H7 S7 ht1 et1 lt1 nd1 bd1 => ?_⟩
    have S07 := (S05.trans S6).trans S7
    try conv in (List.set _ _ _) => simp only [List.set]
    refine ⟨_, rfl, _, rfl, by show 2 ≤ sizeLine; decide, fun t ht => ?_⟩
    have S8 := same_new (o := .tup [V.ref b1, V.ref t1]) ht
    have S17 := ((S3.trans S5).trans (S6.trans S7)).trans S8
    exact q t b1 t1 B1 L1 _ (S07.trans S8) (Same.fresh S07 ht) upd_same (At.same a1 S17) (S8 _ _ et1) ⟨ok1, n1.2, lt1, nd1, lnt.ln bd1⟩ bd1
theorem ok_toldT (T : Txt K mg) (D : Df K mg "_law_told" s__law_told ["books", "threads"]) : Cl P w K mg base 2 "_law_told" ["books", "threads"] sp_toldT := by
  refine ok_of D sc__law_told (fun vs H Q E h => ?_) (fun f cdv A outer s H vs Q E hr h => ?_)
  · obtain ⟨S, S0, v, tl, B, L, rfl, _⟩ := h
    rfl
  · obtain ⟨S, S0, v, tl, B, L, rfl, ho, hv, l6, c40, ht, lT, q⟩ := h
    refine ⟨_, (pss_cons (ps_set (i := 2) sc__law_told.nd rfl (.inl rfl) (pe_lst pa_nil))
      (pss_cons (ps_for PassesOwn.never rfl (pi_list (pv 1)) (pg_name (i := 3) sc__law_told.nd rfl (.inl rfl))
        (pss_one (ps_if (PW.pt (pw_and (pt_cmpR (op_neD hr.units) (pv 2) (pe_lst pa_nil) (nomark _)) (pw_and1 (pt_cmpR op_eq (pe_op op_add (pe_ix ix_tup (pe_ix ix_list (pv 2) (pe_un un_neg pe_int) (fun _ _ => rfl)) pe_int (fun _ _ => rfl)) (pe_ix ix_tup (pe_ix ix_list (pv 2) (pe_un un_neg pe_int) (fun _ _ => rfl)) pe_int (fun _ _ => rfl))) (pv 3) (nomark _))))) (pss_one (ps_asg (pe_tup (pa_cons (pe_ix ix_tup (pe_ix ix_list (pv 2) (pe_un un_neg pe_int) (fun _ _ => rfl)) pe_int (fun _ _ => rfl)) (pa_cons (pe_op op_add (pe_ix ix_tup (pe_ix ix_list (pv 2) (pe_un un_neg pe_int) (fun _ _ => rfl)) pe_int (fun _ _ => rfl)) pe_int) pa_nil))) (pg_sub (pv 2) (pe_un un_neg pe_int) set_list))) (pss_one (ps_expr (pe_bm PySem.F.plainAttrs_list PySem.F.slot_list_append PySem.F.type_list_append mt_append (pv 2) (pa_cons (pe_tup (pa_cons (pv 3) (pa_cons pe_int pa_nil))) pa_nil)))))))
      (pss_cons (ps_setLc (i := 4) (own := [("name", 6), ("chapters", 7)]) rfl sc__law_told.nd rfl rfl (sw_true rfl rfl rfl (by decide +kernel)) (pi_list (pv 0)) (blkOk_by (own := [("name", 6), ("chapters", 7)]) (N := N__law_told) (sc := defScope s__law_told) (by decide +kernel)) (fun _ _ _ _ _ => (pg_tupK (K := K) (n := 2) rfl rfl (pgs_cons (pg_name (i := 6) sc__law_told.nd rfl (.inl rfl)) (pgs_cons (pg_name (i := 7) sc__law_told.nd rfl (.inl rfl)) pgs_nil)))) (fun _ _ _ _ _ => pts_nil) (fun _ _ _ _ _ => (pe_tup (pa_cons (pv 6) (pa_cons (pe_callTy (call_tuple_ofK (K := K) rfl) (by rfl) T.b_tuple (by decide +kernel) (pa_cons (pe_lc (own := [("chapter", 5)]) rfl sc__law_told.nd (pi_listK (K := K) rfl (pv 7)) (blkOk_by (own := [("chapter", 5)]) (N := N__law_told) (by kernel_rfl)) (fun _ _ _ _ _ => (pg_name (i := 5) sc__law_told.nd rfl (.inl rfl))) (fun _ _ _ _ _ => pts_nil) (fun _ _ _ _ _ => (pe_callTy (call_tuple_ofK (K := K) rfl) (by rfl) T.b_tuple (by decide +kernel) (pa_cons (pv 5) pa_nil)))) pa_nil)) pa_nil)))))
      (pss_one (ps_ret (pe_tup (pa_cons (pe_callTy call_tuple_of (by rfl) T.b_tuple (by decide +kernel) (pa_cons (pv 4) pa_nil)) (pa_cons (pe_callTy call_tuple_of (by rfl) T.b_tuple (by decide +kernel) (pa_cons (pv 2) pa_nil)) pa_nil)))))))), ?_⟩
    obtain ⟨a, xs, rfl, na, ea, ka⟩ := hv.bksL
    have lx : xs.length = B.length := by rw [ka.len, List.length_map]
    refine ⟨Nat.zero_le _, fun k hk => ?_⟩
    refine ⟨_, rfl, tl, rfl, ⟨_, .inl (.inl (same_new hk _ _ ht))⟩, for_it (walk_list (xs := L.map V.int)) (fun i σ H' => ∃ (t4 : Option V) (rows : List V), σ = [some (.ref a), some (.ref tl), some (.ref k), t4, none, none, none, none] ∧ LcS S H k rows ((fewest (L.take i)).map prD) H') ⟨_, [], rfl, LcS.start hk⟩ (fun i σ H' _ ⟨_, _, _, c⟩ => .inl (.inl (c.s _ _ ht))) ?_ ?_⟩
    · rintro i x σ H2 H2' hi ⟨t4, rows, rfl, c⟩ ⟨rfl, hx⟩
      rw [List.length_map] at hi
      obtain ⟨z, hz⟩ : ∃ z, L[i]? = some z := ⟨_, List.getElem?_eq_getElem hi⟩
      rw [List.getElem?_map, hz] at hx
      cases hx
      have eF := fewest_succ hz
      have lr : rows.length ≤ 1000 := by
        have h1 : (fewest (L.take i)).length ≤ 0 + (L.take i).length := fewest_len (L.take i) []
        rw [c.len, List.length_map]
        rw [List.length_take] at h1
        omega
      rw [eF]
      generalize fewest (L.take i) = ps at c lr ⊢
      refine ⟨_, rfl, Nat.zero_le _, fun n0 hn0 => ?_⟩
      have c9 := c.keep (same_new (o := .lst []) hn0)
      have dpr : Dp K (upd H2' n0 (.lst [])) (.ref k) (.list (ps.map prD)) := At.dp _ _ (.lst (p := fun _ => False) (xs := rows) (fun z => z) c9.at_ (AtAll.weak (fun _ z => z.elim) _ _ c9.a))
      refine ⟨_, .list [], dpr, .lst (.inl (.inl upd_same)) .nil, shaped_prs _, by decide +kernel, ?_⟩
      clear dpr
      generalize upd H2' n0 (.lst []) = H4 at c9 ⊢
      rcases List.eq_nil_or_concat ps with e | ⟨ps0, s, e⟩
      · have ev : (!PyData.eqv (.list (ps.map prD)) (.list [])) = false := by rw [e]; rfl
        rw [ev]
        refine ⟨_, rfl, ite2 (fun z => absurd z Bool.false_ne_true) fun _ => ?_⟩
        refine ⟨_, rfl, .inl ⟨rfl, _, .inl (.inl c9.at_)⟩, _, rfl, by show 2 ≤ sizeLine; decide, fun t' ht' => ?_⟩
        have c2 := c9.keep (same_new (o := .tup [.int z, .int 1]) ht')
        have nt' : ¬ Plus S k t' := (c9.occ ho).free ht'
        refine ⟨k, _, _, rfl, rfl, c2.at_, sz1000 (by omega), _, rows ++ [.ref t'], rfl, ?_⟩
        rw [e] at c2 ⊢
        exact c2.step (.ofpair nt' upd_same)
      · rw [List.concat_eq_append] at e
        have ev : (!PyData.eqv (.list (ps.map prD)) (.list [])) = true := by
          rw [e]
          cases ps0 <;> rfl
        rw [ev]
        refine ⟨_, rfl, ite2 (fun _ => ?_) (fun z => absurd (show true = true from rfl) z)⟩
        have ca := c9.a
        have cat := c9.at_
        rw [e, List.map_append] at ca
        obtain ⟨ys, y, er, a1, a2⟩ := AtAll.snoc ca
        obtain ⟨t, rfl, nt, et⟩ := a2.pair
        rw [er] at cat
        rw [e, fp_snoc]
        refine ⟨_, rfl, _, rfl, k, _, -1, .ref t, rfl, rfl, .inl (.inl cat), atI_last ys _, t, _, 0, _, rfl, rfl, .inl (.inl et), atI_nat (j := 0) rfl, _, rfl, _, rfl, k, _, -1, .ref t, rfl, rfl, .inl (.inl cat), atI_last ys _, t, _, 1, _, rfl, rfl, .inl (.inl et), atI_nat (j := 1) rfl, s.1, s.2, rfl, rfl, _, rfl, rfl, _, rfl, ?_⟩
        by_cases e3 : z = s.1 + s.2
        · refine ite2 (fun _ => ?_) (fun q => absurd (decide_eq_true (congrArg V.int e3.symm)) q)
          rw [if_pos e3]
          refine ⟨_, rfl, _, rfl, k, _, -1, .ref t, rfl, rfl, .inl (.inl cat), atI_last ys _, t, _, 0, _, rfl, rfl, .inl (.inl et), atI_nat (j := 0) rfl, _, rfl, _, rfl, k, _, -1, .ref t, rfl, rfl, .inl (.inl cat), atI_last ys _, t, _, 1, _, rfl, rfl, .inl (.inl et), atI_nat (j := 1) rfl, s.2, 1, rfl, rfl, by show 2 ≤ sizeLine; decide, fun t' ht' => ?_⟩
          have c2 := c9.keep (same_new (o := .tup [.int s.1, .int (s.2 + 1)]) ht')
          have nt' : ¬ Plus S k t' := (c9.occ ho).free ht'
          have hd : At (Plus S k) (upd H4 t' (.tup [.int s.1, .int (s.2 + 1)])) (.ref t') (prD (s.1, s.2 + 1)) := .ofpair nt' upd_same
          have c3 := c2.put (ys := ys ++ [.ref t']) (es := ps0.map prD ++ [prD (s.1, s.2 + 1)]) ((AtAll.same a1 (same_new ht')).app (.cons hd .nil))
          have cat2 := c2.at_
          rw [er] at cat2
          refine ⟨_, rfl, _, rfl, k, ys ++ [.ref t], -1, ys.length, rfl, rfl, cat2, ?_, _, ys ++ [.ref t'], rfl, ?_⟩
          · unfold ixN
            rw [if_neg (by decide), List.length_append, List.length_singleton, if_pos (by omega)]
            exact congrArg some (by omega)
          · rw [show (ys ++ [V.ref t]).set ys.length (.ref t') = ys ++ [.ref t'] by simp, List.map_append]
            exact c3
        · refine ite2 (fun q => absurd (V.int.inj (of_decide_eq_true q)).symm e3) (fun _ => ?_)
          rw [if_neg e3]
          refine ⟨_, rfl, .inl ⟨rfl, _, .inl (.inl c9.at_)⟩, _, rfl, by show 2 ≤ sizeLine; decide, fun t' ht' => ?_⟩
          have c2 := c9.keep (same_new (o := .tup [.int z, .int 1]) ht')
          have nt' : ¬ Plus S k t' := (c9.occ ho).free ht'
          refine ⟨k, _, _, rfl, rfl, c2.at_, sz1000 (by omega), _, rows ++ [.ref t'], rfl, ?_⟩
          rw [List.map_append, ← e]
          exact c2.step (.ofpair nt' upd_same)
    · rintro σ H2 ⟨t4, rows, rfl, c⟩
      rw [List.length_map, List.take_length] at c
      have o2 := ho.same c.s
      refine ⟨_, rfl, a, rfl, ⟨_, .inl (.inl (c.s _ _ ea))⟩, fun dl hdl => ?_⟩
      refine lc_it (walk_list (xs := xs)) (fun i H' => ∃ rws : List V, LcS S H2 dl rws ((B.take i).map bkD) H') ⟨[], LcS.start hdl⟩ (fun i H' _ ⟨_, M⟩ => .inl (.inl (M.s _ _ (c.s _ _ ea)))) ?_ ?_
      · rintro i y H3x H3 hi ⟨rws, M⟩ ⟨rfl, hy⟩
        obtain ⟨b, hb, hbv⟩ := ka.at_ hy
        obtain ⟨t, cc, zs, rfl, nt, et, nc, ec, kz⟩ := hbv.bkL
        have lz : zs.length = b.2.length := by rw [kz.len, List.length_map]
        have c40 := c40 b (List.mem_of_getElem? hb)
        have S3 := c.s.trans M.s
        have oM := M.occ o2
        refine ⟨t, _, rfl, .inl (.inl (S3 _ _ et)), rfl, _, _, rfl, _, _, rfl, rfl, rfl, ?_⟩
        refine ⟨_, rfl, _, rfl, cc, rfl, ⟨_, .inl (.inl (S3 _ _ ec))⟩, fun cl hcl => ?_⟩
        refine lc_it (walk_list (xs := zs)) (fun j H' => ∃ rs : List V, LcS (Plus S dl) H3 cl rs ((b.2.take j).map chD) H') ⟨[], LcS.start hcl⟩ (fun i H' _ ⟨_, N⟩ => .inl (.inl (N.s _ _ (S3 _ _ ec)))) ?_ ?_
        · rintro j y H4x H4 hj ⟨rs, N⟩ ⟨rfl, hy2⟩
          obtain ⟨r, hrr, hrv⟩ := kz.at_ hy2
          obtain ⟨ar, rfl, nar, ear⟩ := hrv.row
          refine ⟨rfl, _, rfl, ar, _, rfl, .inl ⟨.inl (.inl (N.s _ _ (S3 _ _ ear))), fun l hl => ?_⟩⟩
          have N2 := N.keep (same_new (o := .tup (r.map V.int)) hl)
          have nl : ¬ Plus (Plus S dl) cl l := (N.occ oM).free hl
          have lr : rs.length ≤ j := by
            rw [N.len, List.length_map, List.length_take]
            omega
          refine ⟨rs, N2.at_, sz1000 (by omega), rs ++ [.ref l], ?_⟩
          rw [List.take_add_one, hrr, List.map_append]
          exact N2.step (.tup nl upd_same (AtAll.ints r))
        · rintro H4 ⟨rs, N⟩
          rw [lz, List.take_length] at N
          refine ⟨cl, rs, rfl, .inl ⟨.inl (.inl N.at_), fun tt htt => ?_⟩⟩
          have o4 : Occ (Plus S dl) H4 := oM.same N.s
          have S5 := same_new (o := .tup rs) htt
          refine ⟨by show 2 ≤ sizeLine; decide, fun t2 ht2 => ?_⟩
          have S6 := same_new (o := .tup [.str (SX.S b.1), .ref tt]) ht2
          have M2 := M.keep ((N.s.trans S5).trans S6)
          have nt2 : ¬ Plus S dl t2 := (o4.same S5).free ht2
          have ntt : ¬ Plus S dl tt := o4.free htt
          have lr : rws.length ≤ i := by
            rw [M.len, List.length_map, List.length_take]
            omega
          refine ⟨rws, M2.at_, sz1000 (by omega), rws ++ [.ref t2], ?_⟩
          rw [List.take_add_one, hb, List.map_append]
          refine M2.step (.tup nt2 upd_same (.cons (.str _) (.cons ?_ .nil)))
          exact At.same (.tup ntt upd_same (AtAll.same N.done S5)) S6
      · rintro H3 ⟨rws, M⟩
        rw [lx, List.take_length] at M
        have o3 := o2.same M.s
        refine ⟨_, rfl, dl, rws, rfl, .inl ⟨.inl (.inl M.at_), fun t1 ht1 => ?_⟩⟩
        have S4 := same_new (o := .tup rws) ht1
        have o4 := o3.same S4
        refine ⟨_, rfl, k, rows, rfl, .inl ⟨.inl (.inl (S4 _ _ (M.s _ _ c.at_))), fun t2 ht2 => ?_⟩⟩
        have S5 := same_new (o := .tup rows) ht2
        refine ⟨by show 2 ≤ sizeLine; decide, fun t3 ht3 => ?_⟩
        have S6 := same_new (o := .tup [.ref t1, .ref t2]) ht3
        have A1 : At S (upd (upd H3 t1 (.tup rws)) t2 (.tup rows)) (.ref t1) (bksD B) := At.same (.tup (o3.free ht1) upd_same (AtAll.same M.done S4)) S5
        have A2 : At S (upd (upd H3 t1 (.tup rws)) t2 (.tup rows)) (.ref t2) (.tuple ((fewest L).map prD)) := .tup (o4.free ht2) upd_same (AtAll.same c.done (M.s.trans (S4.trans S5)))
        exact q (.ref t3) _ (c.s.trans (M.s.trans (S4.trans (S5.trans S6)))) (.tup ((o4.same S5).free ht3) upd_same (.cons (At.same A1 S6) (.cons (At.same A2 S6) .nil)))
end
end My
set_option Elab.async false
set_option linter.all false
set_option maxRecDepth 100000
set_option maxHeartbeats 4000000
namespace My
open PySem PySem.Spec PyProof.Rows L2
/-! R3: a verse divided, verses merged. -/
theorem set_map {α β : Type} (f : α → β) : ∀ (l : List α) (i : Nat) (a b : α), l[i]? = some a → f b = f a → (l.set i b).map f = l.map f
  | [], _, _, _, h, _ => by cases h
  | x :: l, 0, a, b, h, e => by
    cases h
    show f b :: _ = f x :: _
    rw [e]
  | x :: l, i + 1, a, b, h, e => by
    show f x :: (l.set i b).map f = f x :: l.map f
    rw [set_map f l i a b h e]
theorem mem_set {α : Type} {l : List α} {i : Nat} {b x : α} (h : x ∈ l.set i b) : x ∈ l ∨ x = b := List.mem_or_eq_of_mem_set h
theorem okBks_set {B : Bks} {i j : Nat} {b : List Nat × List (List Int)} {c c' : List Int} (ok : okBks B) (hb : B[i]? = some b) (hc : b.2[j]? = some c) (o' : okRow c') (e : c'.sum = c.sum) : okBks (B.set i (b.1, b.2.set j c')) := by
  have hbm := List.mem_of_getElem? hb
  refine ⟨by rw [List.length_set]; exact ok.l0, by rw [List.length_set]; exact ok.l1, ?_, fun x hx => ?_, fun x hx => ?_, ?_, ?_⟩
  · rw [set_map (fun x : List Nat × List (List Int) => x.1) B i b (b.1, b.2.set j c') hb rfl]
    exact ok.nd
  · rcases mem_set hx with h | rfl
    · exact ok.nm x h
    · exact ok.nm b hbm
  · rcases mem_set hx with h | rfl
    · exact ok.ch x h
    · obtain ⟨h1, h2, h3⟩ := ok.ch b hbm
      refine ⟨by rw [List.length_set]; exact h1, by rw [List.length_set]; exact h2, fun y hy => ?_⟩
      rcases mem_set hy with h | rfl
      · exact h3 y h
      · exact o'
  · rw [set_map (fun b => b.2.length) B i b _ hb (List.length_set ..)]
    exact ok.chs
  · rw [set_map (fun b => (b.2.map List.sum).sum) B i b _ hb (by
      show ((b.2.set j c').map List.sum).sum = _
      rw [set_map List.sum b.2 j c c' hc e])]
    exact ok.prs
theorem plOf_set {B : Bks} {i j : Nat} {b : List Nat × List (List Int)} {c c' : List Int} (ok : okBks B) (hb : B[i]? = some b) (hc : b.2[j]? = some c) (o' : okRow c') (e : c'.sum = c.sum) : (plOf (B.set i (b.1, b.2.set j c'))).length = (plOf B).length := by
  have pos : ∀ {B : Bks}, okBks B → ∀ b ∈ B, ∀ c ∈ b.2, ∀ m ∈ c, 0 ≤ m := fun {B} ok b hb c hc m hm => by
    have := (((ok.ch b hb).2.2 c hc).x m hm).1
    omega
  have e1 := plOf_sum _ (pos ok)
  have e2 := plOf_sum _ (pos (okBks_set ok hb hc o' e))
  rw [set_map (fun b => (b.2.map List.sum).sum) B i b _ hb (by
      show ((b.2.set j c').map List.sum).sum = _
      rw [set_map List.sum b.2 j c c' hc e])] at e2
  omega
theorem EdOk.setRow {B : Bks} {L : List Int} {i j : Nat} {b : List Nat × List (List Int)} {c c' : List Int} (k : EdOk B L) (hb : B[i]? = some b) (hc : b.2[j]? = some c) (o' : okRow c') (e : c'.sum = c.sum) : EdOk (B.set i (b.1, b.2.set j c')) L :=
  ⟨okBks_set k.bk hb hc o' e, by rw [plOf_set k.bk hb hc o' e]; exact k.l4, by rw [plOf_set k.bk hb hc o' e]; exact k.ll, k.nd, k.ln⟩
/-- a spot of a verse stands at t -/
def VsAt (H : Hp) (t : Addr) (nm : List Nat) (j k : Nat) : Prop := H t = some (.tup [.str (SX.S nm), .int (1 + (j : Int)), .int (1 + (k : Int))])
/-- a dict of books: names, and lists of rows -/
def cpD (B : Bks) (us : List (Addr × List Addr)) : List (Key × V) := (B.zip us).map fun x => ((Sum.inr (SX.S x.1.1) : Key), V.ref x.2.1)
theorem cpD_keys {B : Bks} {us : List (Addr × List Addr)} (l : us.length = B.length) : (cpD B us).map (·.1) = B.map fun b => (Sum.inr (SX.S b.1) : Key) := by
  unfold cpD
  rw [List.map_map]
  have : (B.zip us).map (fun x => (Sum.inr (SX.S x.1.1) : Key)) = ((B.zip us).map Prod.fst).map fun b => (Sum.inr (SX.S b.1) : Key) := by rw [List.map_map]; rfl
  refine Eq.trans this ?_
  rw [List.map_fst_zip (by omega)]
theorem keys_nd {B : Bks} (nd : (B.map (·.1)).Nodup) : (B.map fun b => (Sum.inr (SX.S b.1) : Key)).Nodup := by
  have e : (B.map fun b => (Sum.inr (SX.S b.1) : Key)) = (B.map (·.1)).map fun n => (Sum.inr (SX.S n) : Key) := by rw [List.map_map]; rfl
  rw [e]
  exact List.Pairwise.map _ (fun a b h z => h (SX.S_inj (Sum.inr.inj z))) nd
theorem cpD_at {B : Bks} {us : List (Addr × List Addr)} {i : Nat} {u : Addr × List Addr} {b : List Nat × List (List Int)} (hu : us[i]? = some u) (hb : B[i]? = some b) : (cpD B us)[i]? = some ((Sum.inr (SX.S b.1) : Key), V.ref u.1) := by
  unfold cpD
  rw [List.getElem?_map, List.getElem?_zip_eq_some (z := (b, u)) |>.mpr ⟨hb, hu⟩]
  rfl
def sp_pov (C : Addr) : Sp := fun vs H Q _ => ∃ (S : Av) (e t : Addr) (B : Bks) (L : List Int) (b : List Nat × List (List Int)) (j : Nat) (c : List Int) (k : Nat) (m : Int), vs = [.ref e, .ref t] ∧ EdAt S H C e B L ∧ okBks B ∧ b ∈ B ∧ b.2[j]? = some c ∧ c[k]? = some m ∧ VsAt H t b.1 j k ∧ ∀ H', Same H H' → Q (.int m) H'
/-- a verse in two -/
def sp_div (C : Addr) : Sp := fun vs H Q _ => ∃ (S : Av) (e t : Addr) (B : Bks) (L : List Int) (i : Nat) (b : List Nat × List (List Int)) (j : Nat) (c : List Int) (k : Nat) (m f : Int), vs = [.ref e, .ref t, .int f] ∧ Occ S H ∧ EdAt S H C e B L ∧ EdOk B L ∧ B[i]? = some b ∧ b.2[j]? = some c ∧ c[k]? = some m ∧ VsAt H t b.1 j k ∧ 1 ≤ f ∧ f < m ∧ c.length < 30 ∧
  ∀ e' H', Same H H' → H e' = none → EdOk (B.set i (b.1, b.2.set j (c.take k ++ [f, m - f] ++ c.drop (k + 1)))) L → EdAt S H' C e' (B.set i (b.1, b.2.set j (c.take k ++ [f, m - f] ++ c.drop (k + 1)))) L → Q (.ref e') H'
/-- a verse and the next one -/
def sp_mer (C : Addr) : Sp := fun vs H Q _ => ∃ (S : Av) (e t : Addr) (B : Bks) (L : List Int) (i : Nat) (b : List Nat × List (List Int)) (j : Nat) (c : List Int) (k : Nat) (m m2 : Int), vs = [.ref e, .ref t] ∧ Occ S H ∧ EdAt S H C e B L ∧ EdOk B L ∧ B[i]? = some b ∧ b.2[j]? = some c ∧ c[k]? = some m ∧ c[k + 1]? = some m2 ∧ VsAt H t b.1 j k ∧ m + m2 ≤ 4 ∧
  ∀ e' H', Same H H' → H e' = none → EdOk (B.set i (b.1, b.2.set j (c.take k ++ [m + m2] ++ c.drop (k + 2)))) L → EdAt S H' C e' (B.set i (b.1, b.2.set j (c.take k ++ [m + m2] ++ c.drop (k + 2)))) L → Q (.ref e') H'
theorem cut_one {c : List Int} {k : Nat} {m : Int} (h : c[k]? = some m) : c = c.take k ++ m :: c.drop (k + 1) := by
  have hk := (List.getElem?_eq_some_iff.mp h).1
  have e := List.take_append_drop k c
  rw [List.drop_eq_getElem_cons hk, (List.getElem?_eq_some_iff.mp h).2] at e
  exact e.symm
theorem okRow_div {c : List Int} {k : Nat} {m f : Int} (o : okRow c) (h : c[k]? = some m) (f1 : 1 ≤ f) (fm : f < m) (l : c.length < 30) : okRow (c.take k ++ [f, m - f] ++ c.drop (k + 1)) ∧ (c.take k ++ [f, m - f] ++ c.drop (k + 1)).sum = c.sum := by
  have hk := (List.getElem?_eq_some_iff.mp h).1
  have xm := o.x m (List.mem_of_getElem? h)
  constructor
  · refine ⟨by rw [List.length_append, List.length_append]; show 1 ≤ _ + 2 + _; omega, ?_, fun y hy => ?_⟩
    · rw [List.length_append, List.length_append, List.length_take, List.length_drop]
      show min k c.length + 2 + (c.length - (k + 1)) ≤ 30
      omega
    · rcases List.mem_append.mp hy with hy | hy
      · rcases List.mem_append.mp hy with hy | hy
        · exact o.x y (List.mem_of_mem_take hy)
        · simp only [List.mem_cons, List.not_mem_nil, or_false] at hy
          omega
      · exact o.x y (List.mem_of_mem_drop hy)
  · have e := congrArg List.sum (cut_one h)
    rw [List.sum_append, List.sum_cons] at e
    rw [List.sum_append, List.sum_append, e, List.sum_cons, List.sum_cons, List.sum_nil]
    omega
theorem okRow_mer {c : List Int} {k : Nat} {m m2 : Int} (o : okRow c) (h : c[k]? = some m) (h2 : c[k + 1]? = some m2) (l : m + m2 ≤ 4) : okRow (c.take k ++ [m + m2] ++ c.drop (k + 2)) ∧ (c.take k ++ [m + m2] ++ c.drop (k + 2)).sum = c.sum := by
  have hk := (List.getElem?_eq_some_iff.mp h2).1
  have xm := o.x m (List.mem_of_getElem? h)
  have xm2 := o.x m2 (List.mem_of_getElem? h2)
  have l1 := o.l1
  constructor
  · refine ⟨by rw [List.length_append, List.length_append]; show 1 ≤ _ + 1 + _; omega, ?_, fun y hy => ?_⟩
    · rw [List.length_append, List.length_append, List.length_take, List.length_drop]
      show min k c.length + 1 + (c.length - (k + 2)) ≤ 30
      omega
    · rcases List.mem_append.mp hy with hy | hy
      · rcases List.mem_append.mp hy with hy | hy
        · exact o.x y (List.mem_of_mem_take hy)
        · simp only [List.mem_cons, List.not_mem_nil, or_false] at hy
          omega
      · exact o.x y (List.mem_of_mem_drop hy)
  · have e := congrArg List.sum (cut_one h)
    have e2 : c.drop (k + 1) = m2 :: c.drop (k + 2) := by
      rw [List.drop_eq_getElem_cons hk, (List.getElem?_eq_some_iff.mp h2).2]
    rw [e2, List.sum_append, List.sum_cons, List.sum_cons] at e
    rw [List.sum_append, List.sum_append, e, List.sum_cons, List.sum_nil]
    omega
def sp_withV (C : Addr) : Sp := fun vs H Q _ => ∃ (S : Av) (e t cl : Addr) (B : Bks) (L : List Int) (i : Nat) (b : List Nat × List (List Int)) (j : Nat) (c : List Int) (k g : Nat) (cs : List Int), vs = [.ref e, .ref t, .int (g : Nat), .ref cl] ∧ Occ S H ∧ EdAt S H C e B L ∧ EdOk B L ∧ B[i]? = some b ∧ b.2[j]? = some c ∧ VsAt H t b.1 j k ∧ k + g ≤ c.length ∧ H cl = some (.lst (cs.map V.int)) ∧ cs.length ≤ 1000 ∧
  EdOk (B.set i (b.1, b.2.set j (c.take k ++ cs ++ c.drop (k + g)))) L ∧ ∀ e' H', Same H H' → H e' = none → EdAt S H' C e' (B.set i (b.1, b.2.set j (c.take k ++ cs ++ c.drop (k + g)))) L → Q (.ref e') H'
section
variable {P : Program} {w : World} {K : PySem.W.Frag} {mg : Str → Option Value} {base : Heap}
theorem ok_pov {C : Addr} (T : Txt K mg) (c_is_tuple : Cl P w K mg base 2 "is_tuple" ["thing", "fewest", "most"] sp_isTup) (ms_parts : MetB P w K mg base 4 C "parts" (sp_parts C)) (D : Df K mg "parts_of_verse" s_parts_of_verse ["edition", "spot"]) : Cl P w K mg base 5 "parts_of_verse" ["edition", "spot"] (sp_pov C) := by
  refine ok_of D sc_parts_of_verse (fun vs H Q E h => ?_) (fun f cdv A outer s H vs Q E hr h => ?_)
  · obtain ⟨S, e, t, B, L, b, j, c, k, m, rfl, _⟩ := h
    rfl
  · obtain ⟨S, e, t, B, L, b, j, c, k, m, rfl, he, ok, hb, hc, hm, ht, q⟩ := h
    refine ⟨_, (pss_cons (ps_if (pt_not (pt_val (pe_cl c_is_tuple hr (by decide) (by rfl) (pa_cons (pv 1) (pa_cons pe_int (pa_cons pe_int pa_nil)))))) (pss_one ps_never) pss_nil)
      (pss_one (ps_ret (pe_methSE ms_parts hr (by decide) (pv 0) (pv 1))))), ?_⟩
    obtain ⟨w, hw⟩ := id he
    refine ⟨_, rfl, t, _, 3, 3, rfl, ht, ?_⟩
    refine ⟨_, rfl, ite2 (fun z => absurd z Bool.false_ne_true) fun _ => ?_⟩
    refine ⟨_, rfl, e, _, _, rfl, hw.at_, rfl, fun g q1 hq1 => ?_⟩
    have S1 := same_new (o := .met g e) hq1
    exact ⟨_, rfl, t, _, rfl, .inl (.inl (S1 _ _ ht)), upd_same, S, e, B, L, b, j, c, k, m, rfl, he.bt (Same.btS S1), ok, hb, hc, hm, q _ S1⟩
theorem ok_withV {C : Addr} (T : Txt K mg) (m_told : C8.Met P w K mg base 3 C "told" (sp_told C) []) (c_Edition : C8.Mak P w K mg base 6 "Edition" C (sp_init C) []) (D : Df K mg "with_verses" s_with_verses ["edition", "spot", "gone", "counts"]) : Cl P w K mg base 8 "with_verses" ["edition", "spot", "gone", "counts"] (sp_withV C) := by
  refine ok_of D sc_with_verses (fun vs H Q E h => ?_) (fun f cdv A outer s H vs Q E hr h => ?_)
  · obtain ⟨S, e, t, cl, B, L, i, b, j, c, k, g, cs, rfl, _⟩ := h
    rfl
  · obtain ⟨S, e, t, cl, B, L, i, b, j, c, k, g, cs, rfl, ho, he, ok, hb, hc, ht, kg, hcl, lcs, ok', q⟩ := h
    refine ⟨_, (pss_cons (ps_asg (pv 1) (pg_tup rfl (pgs_cons (pg_name (i := 4) sc_with_verses.nd rfl (.inl rfl)) (pgs_cons (pg_name (i := 5) sc_with_verses.nd rfl (.inl rfl)) (pgs_cons (pg_name (i := 6) sc_with_verses.nd rfl (.inl rfl)) pgs_nil)))))
      (pss_cons (ps_asg (C8.pe_mt0 m_told hr (by decide) (pv 0)) (pg_tup rfl (pgs_cons (pg_name (i := 7) sc_with_verses.nd rfl (.inl rfl)) (pgs_cons (pg_name (i := 8) sc_with_verses.nd rfl (.inl rfl)) pgs_nil))))
      (pss_cons (ps_setDc (i := 9) (own := [("book", 11), ("chapters", 12)]) rfl sc_with_verses.nd rfl rfl (sw_trueD rfl rfl rfl (by decide +kernel)) (pi_tup (pv 7)) (blkOk_by (own := [("book", 11), ("chapters", 12)]) (N := N_with_verses) (sc := defScope s_with_verses) (by decide +kernel)) (fun _ _ _ _ _ => (pg_tupK (K := K) (n := 2) rfl rfl (pgs_cons (pg_name (i := 11) sc_with_verses.nd rfl (.inl rfl)) (pgs_cons (pg_name (i := 12) sc_with_verses.nd rfl (.inl rfl)) pgs_nil)))) (fun _ _ _ _ _ => pts_nil) (fun _ _ _ _ _ => (pv 11)) (fun _ _ _ _ _ => (pe_lc (own := [("verses", 10)]) rfl sc_with_verses.nd (pi_tupK (K := K) rfl (pv 12)) (blkOk_by (own := [("verses", 10)]) (N := N_with_verses) (by kernel_rfl)) (fun _ _ _ _ _ => (pg_name (i := 10) sc_with_verses.nd rfl (.inl rfl))) (fun _ _ _ _ _ => pts_nil) (fun _ _ _ _ _ => (pe_callTy (call_list_ofK (K := K) rfl) (by rfl) T.b_list (by decide +kernel) (pa_cons (pv 10) pa_nil))))))
      (pss_cons (ps_asg (pv 3) (pg_cutB (pe_ix ix_list (pe_dget (hu_of hr) (pv 9) (pv 4) (fun _ _ => rfl)) (pe_op op_sub (pv 5) pe_int) (fun _ _ => rfl)) (po_some (pe_op op_sub (pv 6) pe_int)) (po_some (pe_op op_add (pe_op op_sub (pv 6) pe_int) (pv 2)))))
      (pss_one (ps_ret (C8.pe_mk c_Edition hr (by decide) (by rfl) (pa_cons (LiI.pe_listItems rfl (pv 9) (by rfl) T.b_list (by decide +kernel)) (pa_cons (pv 8) pa_nil))))))))), ?_⟩
    obtain ⟨w, hw⟩ := id he
    have l4 := ok.l4
    have ll := ok.ll
    conv in (_root_.L2.start _ _) => change [some (V.ref e), some (V.ref t), some (V.int (g : Nat)), some (V.ref cl), none, none, none, none, none, none, none, none, none]
    refine ⟨_, rfl, t, _, rfl, .inl (.inl ht), rfl, _, _, rfl, _, _, rfl, _, _, rfl, rfl, ?_⟩
    try conv in (List.set _ _ _) => simp only [List.set]
    refine ⟨_, rfl, e, _, _, rfl, hw.at_, rfl, S, e, B, L, rfl, ho, he, by omega, fun v H1 S1 av => ?_⟩
    have hcl := S1 _ _ hcl
    have o1 := ho.same S1
    clear hw he ht
    cases av with
    | tup nt et kt =>
      rename_i ta vts
      cases kt with
      | cons avb k2 =>
        rename_i vb vr
        cases k2 with
        | cons avp k3 =>
          rename_i vp vr2
          cases k3
          refine ⟨ta, _, rfl, .inl (.inl et), rfl, _, _, rfl, _, _, rfl, rfl, ?_⟩
          try conv in (List.set _ _ _) => simp only [List.set]
          obtain ⟨ba, xs, rfl, nb, eb, kb⟩ : ∃ ba xs, vb = .ref ba ∧ ¬ S ba ∧ H1 ba = some (.tup xs) ∧ AtAll S H1 xs (B.map bkD) := by
            cases avb with
            | tup n e k => exact ⟨_, _, rfl, n, e, k⟩
          have lx : xs.length = B.length := by rw [kb.len, List.length_map]
          refine ⟨_, rfl, ba, rfl, ⟨_, .inl (.inl eb)⟩, fun dd hdd => ?_⟩
          refine dc_it (walk_tup (xs := xs)) (fun i H' => ∃ us : List (Addr × List Addr), Same H1 H' ∧ H' dd = some (.dK (cpD (B.take i) us)) ∧ (∀ r ∈ us.flatMap (·.2), H1 r = none) ∧ ChRs (Plus S dd) H' us (B.take i)) ⟨[], same_new hdd, upd_same, (fun r h => by cases h), ⟨rfl, (fun i u b e => by cases e), List.nodup_nil⟩⟩ (fun i H' _ ⟨_, L, _⟩ => .inl (.inl (L _ _ eb))) ?_ ?_
          · rintro i' y H2x H2 hi ⟨us, S2, eD, fr, ch⟩ ⟨rfl, hy⟩
            obtain ⟨b', hb', hbv⟩ := kb.at_ hy
            obtain ⟨t2, c2, zs, rfl, nt2, et2, nc2, ec2, kz⟩ := hbv.bk
            have lz : zs.length = b'.2.length := by rw [kz.len, List.length_map]
            have c12 := (ok.bk.ch b' (List.mem_of_getElem? hb')).2.1
            have lb6 := ok.bk.l1
            have lus : us.length = i' := by
              have := ch.len
              rw [List.length_take] at this
              rw [lx] at hi
              omega
            have oS : Occ (Plus S dd) H2 := fun q z e => z.elim (fun z => (o1.same S2) q z e) fun z => by
              rw [z, eD] at e
              cases e
            refine ⟨t2, _, rfl, .inl (.inl (S2 _ _ et2)), rfl, _, _, rfl, _, _, rfl, rfl, rfl, ?_⟩
            refine ⟨_, rfl, _, rfl, c2, rfl, ⟨_, .inl (.inl (S2 _ _ ec2))⟩, fun cl2 hcl2 => ?_⟩
            refine lc_it (walk_tup (xs := zs)) (fun j H' => ∃ rs : List Addr, LcR (Plus S dd) H2 cl2 rs (b'.2.take j) H') ⟨[], LcR.start hcl2⟩ (fun i H' _ ⟨_, M⟩ => .inl (.inl (M.s _ _ (S2 _ _ ec2)))) ?_ ?_
            · rintro j y H3x H3 hj ⟨rs, M⟩ ⟨rfl, hy2⟩
              obtain ⟨r, hrr, hrv⟩ := kz.at_ hy2
              obtain ⟨ar, rfl, nar, ear⟩ := hrv.ch
              refine ⟨rfl, _, rfl, ar, _, rfl, .inr (.inl (.inl (M.s _ _ (S2 _ _ ear)))), fun l hl => ?_⟩
              have lr : rs.length ≤ j := by
                rw [M.len, List.length_take]
                omega
              have ne : cl2 ≠ l := ne_of_none M.at_ hl
              refine ⟨rs.map V.ref, by rw [upd_ne ne]; exact M.at_, sz1000 (by rw [List.length_map]; omega), rs ++ [l], ?_⟩
              rw [List.take_add_one, hrr, show rs.map V.ref ++ [V.ref l] = (rs ++ [l]).map V.ref by rw [List.map_append]; rfl]
              exact M.step (oS.same M.s) hl
            · rintro H3 ⟨rs, M⟩
              rw [lz, List.take_length] at M
              have ncl : ¬ Plus S dd cl2 := oS.free hcl2
              have ltk : (B.take i').length = us.length := ch.len.symm
              have new : valV (cpD (B.take i') us) (Sum.inr (SX.S b'.1) : Key) = none := by
                refine val_no ?_
                rw [cpD_keys ch.len]
                intro z
                obtain ⟨b0, h0, e'⟩ := List.mem_map.mp z
                have e' : b0.1 = b'.1 := SX.S_inj (Sum.inr.inj e')
                have h1 : (B.map (·.1))[i']? = some b'.1 := by
                  rw [List.getElem?_map, hb']
                  rfl
                refine nodup_take_not ok.bk.nd h1 ?_
                rw [← List.map_take]
                exact List.mem_map.mpr ⟨b0, h0, e'⟩
              have U : BtS (Plus S dd) H3 (upd H3 dd (.dK (putK (cpD (B.take i') us) (Sum.inr (SX.S b'.1)) (.ref cl2)))) := BtS.upd (.inr rfl)
              refine ⟨cpD (B.take i') us, .inr (SX.S b'.1), rfl, M.s _ _ eD, Evl.sz_lt (by unfold cpD; rw [List.length_map, List.length_zip]; omega), us ++ [(cl2, rs)], same_over (S2.trans M.s) hdd, ?_, fun r hr => ?_, ?_⟩
              · rw [upd_same, putK_new _ new, List.take_add_one, hb']
                unfold cpD
                rw [show B.take i' ++ Option.toList (some b') = B.take i' ++ [b'] from rfl, List.zip_append ltk, List.map_append]
                rfl
              · rw [List.flatMap_append] at hr
                rcases List.mem_append.mp hr with hr | hr
                · exact fr r hr
                · have hr : r ∈ rs ++ [] := hr
                  rw [List.append_nil] at hr
                  exact Same.fresh S2 (M.there hr).1
              · rw [List.take_add_one, hb']
                refine ChRs.snoc (u := (cl2, rs)) (b := b') (ch.bt ((Same.btS M.s).trans U)) ((M.chr ncl).bt U) M.nd fun r hr z => ?_
                exact ch.there z (M.there hr).1
          · rintro H3 ⟨us, S3, eD, fr, ch⟩
            rw [lx, List.take_length] at eD ch
            try conv in (List.set _ _ _) => simp only [List.set]
            have lb : i < B.length := (List.getElem?_eq_some_iff.mp hb).1
            obtain ⟨u, hu⟩ : ∃ u, us[i]? = some u := ⟨_, List.getElem?_eq_getElem (by rw [ch.len]; exact lb)⟩
            have ku := ch.at_ i u b hu hb
            have ljc : j < b.2.length := (List.getElem?_eq_some_iff.mp hc).1
            obtain ⟨r, hr⟩ : ∃ r, u.2[j]? = some r := ⟨_, List.getElem?_eq_getElem (by rw [ku.len]; exact ljc)⟩
            obtain ⟨nr, er⟩ := ku.row j r c hr hc
            have pos : ∀ b ∈ B, 1 ≤ b.2.length := fun b hb => (ok.bk.ch b hb).1
            have hrm : r ∈ us.flatMap (·.2) := List.mem_flatMap.mpr ⟨u, List.mem_of_getElem? hu, List.mem_of_getElem? hr⟩
            have nrc : r ≠ cl := fun z => by
              have := fr r hrm
              rw [z, hcl] at this
              cases this
            have rd : r ≠ dd := fun z => by
              rw [z, eD] at er
              cases er
            have vd : valV (cpD B us) (Sum.inr (SX.S b.1) : Key) = some (V.ref u.1) := val_at (cpD_at hu hb) (by rw [cpD_keys ch.len]; exact keys_nd ok.bk.nd)
            have okc := ((ok.bk.ch b (List.mem_of_getElem? hb)).2.2 c (List.mem_of_getElem? hc)).l1
            refine ⟨_, rfl, _, rfl, _, rfl, dd, _, rfl, vd ▸ DGet.k (k := Sum.inr (SX.S b.1)) eD, _, rfl, 1 + (j : Int), 1, rfl, rfl, u.1, _, _, .ref r, rfl, rfl, .inl (.inl ku.at_), at_of (j := j) (by omega) (by rw [List.getElem?_map, hr]; rfl), ?_⟩
            refine ⟨_, rfl, 1 + (k : Int), 1, rfl, rfl, _, rfl, _, rfl, 1 + (k : Int), 1, rfl, rfl, _, rfl, _, (g : Nat), rfl, rfl, _, rfl, r, cl, _, _, k, k + g, rfl, rfl, congrArg some (by omega), congrArg some (by omega), er, S3 _ _ hcl, nrc, by omega, by rw [List.length_map]; exact kg, Nat.le_of_lt (Evl.sz_lt (by rw [List.length_map, List.length_map]; omega)), ?_⟩
            have ch4 := ch.set (c' := c.take k ++ cs ++ c.drop (k + g)) pos hu hb hr hc
            rw [← List.map_take, ← List.map_drop, ← List.map_append, ← List.map_append]
            have eD4 : upd H3 r (.lst ((c.take k ++ cs ++ c.drop (k + g)).map V.int)) dd = some (.dK (cpD B us)) := by rw [upd_ne rd.symm]; exact eD
            have S4 : Same H1 (upd H3 r (.lst ((c.take k ++ cs ++ c.drop (k + g)).map V.int))) := same_over S3 (fr r hrm)
            generalize upd H3 r (.lst ((c.take k ++ cs ++ c.drop (k + g)).map V.int)) = H4 at ch4 eD4 S4 ⊢
            generalize hB' : B.set i (b.1, b.2.set j (c.take k ++ cs ++ c.drop (k + g))) = B' at ch4 ok' q ⊢
            have ch4 := ch4.weak (S' := S) fun _ z => .inl z
            have o4 := o1.same S4
            have nmB : B'.map (·.1) = B.map (·.1) := by
              rw [← hB']
              exact set_map (fun x : List Nat × List (List Int) => x.1) B i b _ hb rfl
            refine ⟨_, rfl, dd, _, rfl, eD4, fun H5 p ts keep hp hts npt ep pr => ⟨_, rfl, fun x dx hx hdx nex => ?_⟩⟩
            have S5 : Same H4 H5 := keep
            have S6 : Same H5 (upd (upd H5 dx (.own x)) x (.ins C dx [])) := (same_new hdx).trans (same_new (by rw [upd_ne nex.symm]; exact hx))
            have o5 := o4.same S5
            have lts : ts.length = us.length := by
              rw [Paired.length pr]
              unfold cpD
              rw [List.length_map, List.length_zip, ch.len]
              omega
            have lB' : B'.length = B.length := by rw [← hB', List.length_set]
            have lus := ch.len
            have lns' : lnsD (some (fewest L)) ((plOf B').length : Nat) = L := lnOf_fewest L
            have okP := ok_pairsOf (fewest_pos L) (lnOf_fewest L) ok'.nd ok'.ln (by rw [ok'.ll]; exact ok'.l4)
            rw [ok'.ll] at okP
            have l4' := ok'.l4
            have bin : BksIn S H5 (.ref p) B' := by
              refine ⟨p, _, rfl, .inl ep, by rw [List.length_map]; omega, fun i2 y b2 h1 h2 => ?_⟩
              rw [List.getElem?_map] at h1
              obtain ⟨t2, ht2, rfl⟩ := Option.map_eq_some_iff.mp h1
              obtain ⟨kv, hkv, et2⟩ := LiI.paired_get pr ht2
              have li2 : i2 < B.length := by
                have := (List.getElem?_eq_some_iff.mp h2).1
                omega
              obtain ⟨u2, hu2⟩ : ∃ u2, us[i2]? = some u2 := ⟨_, List.getElem?_eq_getElem (by rw [ch.len]; exact li2)⟩
              obtain ⟨b0, hb0⟩ : ∃ b0, B[i2]? = some b0 := ⟨_, List.getElem?_eq_getElem li2⟩
              rw [cpD_at hu2 hb0] at hkv
              cases hkv
              have n0 : b0.1 = b2.1 := by
                have e1 : (B.map (·.1))[i2]? = some b0.1 := by rw [List.getElem?_map, hb0]; rfl
                have e2 : (B'.map (·.1))[i2]? = some b2.1 := by rw [List.getElem?_map, h2]; rfl
                rw [nmB, e1] at e2
                exact Option.some.inj e2
              have k2 := (ch4.at_ i2 u2 b2 hu2 h2).bt (Same.btS S5)
              refine ⟨t2, u2.1, _, rfl, by rw [et2, n0]; rfl, .inl k2.at_, by rw [List.length_map]; exact k2.len, fun j2 y cc h5 h6 => ?_⟩
              rw [List.getElem?_map] at h5
              obtain ⟨r2, hr2, rfl⟩ := Option.map_eq_some_iff.mp h5
              obtain ⟨n2, e2⟩ := k2.row j2 r2 cc hr2 h6
              exact ⟨r2, rfl, n2, .inl e2⟩
            have lin : LnIn H5 vp (some (fewest L)) := by
              have a5 := At.same avp (S4.trans S5)
              cases a5 with
              | tup n e kk =>
                have prs := all_prs kk
                exact ⟨_, _, rfl, .inr e, prs.1, prs.2⟩
            refine ⟨S, x, dx, .ref p, vp, B', some (fewest L), rfl, o5.free hx, o5.same S6, upd_same, bin.same S6, ok'.bk, lin.same S6, ⟨by omega, by omega, okP⟩, by rw [lns']; exact ok'.nd, by rw [lns']; exact ok'.ll, fun H7 B7 ed7 => ⟨rfl, ?_⟩⟩
            rw [lns'] at ed7
            have S7 : Same H5 H7 := fun b ob eo => B7 b ob (ne_of_none eo hx) (S6 b ob eo)
            have S15 := S4.trans S5
            exact q x H7 ((S1.trans S15).trans S7) (Same.fresh (S1.trans S15) hx) ed7
theorem ok_div {C : Addr} (T : Txt K mg) (c_check_edition : Cl P w K mg base 2 "check_edition" ["thing"] (sp_chkEd C)) (c_parts_of_verse : Cl P w K mg base 5 "parts_of_verse" ["edition", "spot"] (sp_pov C)) (c_is_whole : Cl P w K mg base 2 "is_whole" ["thing", "low", "high"] (sp_whole K)) (m_verses : C8.Met P w K mg base 4 C "verses" (sp_versesE C) [])
    (c_with_verses : Cl P w K mg base 8 "with_verses" ["edition", "spot", "gone", "counts"] (sp_withV C)) {dvs : List V} {kws : List (Str × V)} {f : Addr} {fd : FuncData} (F : FunD K "divided" "divided" (defArgs s_divided) (defBody s_divided) (defScope s_divided) dvs kws f fd) : FnOk P w K mg base CX0 9 f fd ["edition", "spot", "many"] (sp_div C) := by
  refine funD_ok0 F sc_divided (fun vs H Q E h => ?_) (fun cdv A outer s H vs Q E hr h => ?_)
  · obtain ⟨S, e, t, B, L, i, b, j, c, k, m, f, rfl, _⟩ := h
    rfl
  · obtain ⟨S, e, t, B, L, i, b, j, c, k, m, f, rfl, ho, he, ok, hb, hc, hm, ht, f1, fm, l30, q⟩ := h
    refine ⟨_, (pss_cons (ps_expr (pe_cl c_check_edition hr (by decide) (by rfl) (pa_cons (pv 0) pa_nil)))
      (pss_cons (ps_set (i := 3) sc_divided.nd rfl (.inl rfl) (pe_cl c_parts_of_verse hr (by decide) (by rfl) (pa_cons (pv 0) (pa_cons (pv 1) pa_nil))))
      (pss_cons (ps_if (pt_not (pt_val (pe_cl c_is_whole hr (by decide) (by rfl) (pa_cons (pv 2) (pa_cons pe_int (pa_cons (pe_op op_sub (pv 3) pe_int) pa_nil)))))) (pss_one ps_never) pss_nil)
      (pss_cons (ps_asg (pv 1) (pg_tup rfl (pgs_cons (pg_name (i := 4) sc_divided.nd rfl (.inl rfl)) (pgs_cons (pg_name (i := 5) sc_divided.nd rfl (.inl rfl)) (pgs_cons (pg_name (i := 6) sc_divided.nd rfl (.inl rfl)) pgs_nil)))))
      (pss_cons (ps_set (i := 7) sc_divided.nd rfl (.inl rfl) (C8.pe_mt m_verses hr (by decide) (pv 0) (pa_cons (pv 4) (pa_cons (pv 5) pa_nil))))
      (pss_cons (ps_if (pt_cmpR op_eq (pv 7) (C8.pe_gc (by rfl) T.g_MOST_VERSES) (nomark _)) (pss_one ps_never) pss_nil)
      (pss_one (ps_ret (pe_cl c_with_verses hr (by decide) (by rfl) (pa_cons (pv 0) (pa_cons (pv 1) (pa_cons pe_int (pa_cons (pe_lst (pa_cons (pv 2) (pa_cons (pe_op op_sub (pv 3) (pv 2)) pa_nil))) pa_nil))))))))))))), ?_⟩
    conv in (_root_.L2.start _ _) => change [some (V.ref e), some (V.ref t), some (V.int f), none, none, none, none, none]
    have hbm := List.mem_of_getElem? hb
    have okr := (ok.bk.ch b hbm).2.2 c (List.mem_of_getElem? hc)
    obtain ⟨o', es⟩ := okRow_div okr hm f1 fm l30
    have ok' := ok.setRow hb hc o' es
    refine ⟨_, rfl, S, e, B, L, rfl, he, ?_⟩
    refine ⟨_, rfl, _, rfl, S, e, t, B, L, b, j, c, k, m, rfl, he, ok.bk, hbm, hc, hm, ht, fun H1 S1 => ?_⟩
    try conv in (List.set _ _ _) => simp only [List.set]
    have he := he.bt (Same.btS S1)
    refine ⟨_, rfl, _, rfl, m, 1, rfl, rfl, .int f, 1, m - 1, rfl, .int f, ?_⟩
    rw [show whole (V.int f) 1 (m - 1) = true from by unfold whole; simp; omega]
    refine ⟨_, rfl, ite2 (fun z => absurd z Bool.false_ne_true) fun _ => ?_⟩
    have ht := S1 _ _ ht
    obtain ⟨w, hw⟩ := id he
    refine ⟨_, rfl, t, _, rfl, .inl (.inl ht), rfl, _, _, rfl, _, _, rfl, _, _, rfl, rfl, ?_⟩
    try conv in (List.set _ _ _) => simp only [List.set]
    refine ⟨_, rfl, e, _, _, rfl, hw.at_, rfl, _, rfl, _, rfl, S, e, B, L, b, j, c, rfl, he, ok.bk, hbm, hc, ?_⟩
    try conv in (List.set _ _ _) => simp only [List.set]
    have kl := (List.getElem?_eq_some_iff.mp hm).1
    refine ⟨_, rfl, rfl, _, rfl, ite2 (fun z => absurd (V.int.inj (of_decide_eq_true z)) (by omega)) fun _ => ?_⟩
    refine ⟨_, rfl, _, rfl, _, rfl, _, rfl, _, rfl, m, f, rfl, rfl, by show 2 ≤ sizeLine; decide, fun cl hcl => ?_⟩
    have S2 := same_new (o := .lst [V.int f, V.int (m - f)]) hcl
    exact ⟨S, e, t, cl, B, L, i, b, j, c, k, 1, [f, m - f], rfl, ho.same (S1.trans S2), he.bt (Same.btS S2), ok, hb, hc, S2 _ _ ht, by omega, upd_same, by show 2 ≤ 1000; decide, ok', fun e' H' S' he' ed => q e' H' ((S1.trans S2).trans S') (Same.fresh (S1.trans S2) he') ok' ed⟩
theorem ok_mer {C : Addr} (T : Txt K mg) (c_check_edition : Cl P w K mg base 2 "check_edition" ["thing"] (sp_chkEd C)) (c_parts_of_verse : Cl P w K mg base 5 "parts_of_verse" ["edition", "spot"] (sp_pov C)) (m_parts : C8.Met P w K mg base 4 C "parts" (sp_parts C) [])
    (c_with_verses : Cl P w K mg base 8 "with_verses" ["edition", "spot", "gone", "counts"] (sp_withV C)) (D : Df K mg "merged" s_merged ["edition", "spot"]) : Cl P w K mg base 9 "merged" ["edition", "spot"] (sp_mer C) := by
  refine ok_of D sc_merged (fun vs H Q E h => ?_) (fun f cdv A outer s H vs Q E hr h => ?_)
  · obtain ⟨S, e, t, B, L, i, b, j, c, k, m, m2, rfl, _⟩ := h
    rfl
  · obtain ⟨S, e, t, B, L, i, b, j, c, k, m, m2, rfl, ho, he, ok, hb, hc, hm, hm2, ht, l4, q⟩ := h
    refine ⟨_, (pss_cons (ps_expr (pe_cl c_check_edition hr (by decide) (by rfl) (pa_cons (pv 0) pa_nil)))
      (pss_cons (ps_set (i := 2) sc_merged.nd rfl (.inl rfl) (pe_cl c_parts_of_verse hr (by decide) (by rfl) (pa_cons (pv 0) (pa_cons (pv 1) pa_nil))))
      (pss_cons (ps_asg (pv 1) (pg_tup rfl (pgs_cons (pg_name (i := 3) sc_merged.nd rfl (.inl rfl)) (pgs_cons (pg_name (i := 4) sc_merged.nd rfl (.inl rfl)) (pgs_cons (pg_name (i := 5) sc_merged.nd rfl (.inl rfl)) pgs_nil)))))
      (pss_cons (ps_set (i := 2) sc_merged.nd rfl (.inl rfl) (pe_op op_add (pv 2) (C8.pe_mt m_parts hr (by decide) (pv 0) (pa_cons (pv 3) (pa_cons (pv 4) (pa_cons (pe_op op_add (pv 5) pe_int) pa_nil))))))
      (pss_cons (ps_if (pt_cmpR op_gt (pv 2) (C8.pe_gc (by rfl) T.g_MOST_VERSE_PARTS) (nomark _)) (pss_one ps_never) pss_nil)
      (pss_one (ps_ret (pe_cl c_with_verses hr (by decide) (by rfl) (pa_cons (pv 0) (pa_cons (pv 1) (pa_cons pe_int (pa_cons (pe_lst (pa_cons (pv 2) pa_nil)) pa_nil)))))))))))), ?_⟩
    conv in (_root_.L2.start _ _) => change [some (V.ref e), some (V.ref t), none, none, none, none]
    have hbm := List.mem_of_getElem? hb
    have okr := (ok.bk.ch b hbm).2.2 c (List.mem_of_getElem? hc)
    obtain ⟨o', es⟩ := okRow_mer okr hm hm2 l4
    have ok' := ok.setRow hb hc o' es
    refine ⟨_, rfl, S, e, B, L, rfl, he, ?_⟩
    refine ⟨_, rfl, _, rfl, S, e, t, B, L, b, j, c, k, m, rfl, he, ok.bk, hbm, hc, hm, ht, fun H1 S1 => ?_⟩
    try conv in (List.set _ _ _) => simp only [List.set]
    have he := he.bt (Same.btS S1)
    have ht := S1 _ _ ht
    obtain ⟨w, hw⟩ := id he
    refine ⟨_, rfl, t, _, rfl, .inl (.inl ht), rfl, _, _, rfl, _, _, rfl, _, _, rfl, rfl, ?_⟩
    try conv in (List.set _ _ _) => simp only [List.set]
    refine ⟨_, rfl, _, rfl, e, _, _, rfl, hw.at_, rfl, _, rfl, _, rfl, _, rfl, 1 + (k : Int), 1, rfl, rfl, S, e, B, L, b, j, c, k + 1, m2, congrArg (fun z : Int => [V.ref e, V.str (SX.S b.1), V.int (1 + (j : Int)), V.int z]) (show 1 + (k : Int) + 1 = 1 + ((k + 1 : Nat) : Int) by omega), he, ok.bk, hbm, hc, hm2, ?_⟩
    refine ⟨m, m2, rfl, rfl, ?_⟩
    try conv in (List.set _ _ _) => simp only [List.set]
    refine ⟨_, rfl, m + m2, 4, rfl, rfl, _, rfl, ite2 (fun z => absurd (of_decide_eq_true z) (by omega)) fun _ => ?_⟩
    refine ⟨_, rfl, _, rfl, _, rfl, by show 1 ≤ sizeLine; decide, fun cl hcl => ?_⟩
    have S2 := same_new (o := .lst [V.int (m + m2)]) hcl
    have kl := (List.getElem?_eq_some_iff.mp hm2).1
    exact ⟨S, e, t, cl, B, L, i, b, j, c, k, 2, [m + m2], rfl, ho.same (S1.trans S2), he.bt (Same.btS S2), ok, hb, hc, S2 _ _ ht, by omega, upd_same, by show 1 ≤ 1000; decide, ok', fun e' H' S' he' ed => q e' H' ((S1.trans S2).trans S') (Same.fresh (S1.trans S2) he') ok' ed⟩
end
end My
set_option Elab.async false
set_option linter.all false
set_option maxRecDepth 100000
set_option maxHeartbeats 4000000
namespace My
open PySem PySem.Spec PyProof.Rows L2
/-! R4: where a verse may be divided or two merged. -/
structure C4 where
  w : Nat
  i : Nat
  j : Nat
  k : Nat
def c4D (x : C4) : PyData := .tuple [.int (x.w : Nat), .int (x.i : Nat), .int (x.j : Nat), .int (x.k : Nat)]
/-- a choice that is there -/
def GoodCh (B : Bks) (x : C4) : Prop := ∃ (b : List Nat × List (List Int)) (c : List Int) (m : Int), B[x.i]? = some b ∧ b.2[x.j]? = some c ∧ c[x.k]? = some m ∧ ((x.w = 0 ∧ 1 < m ∧ c.length < 30) ∨ (x.w = 1 ∧ ∃ m2, c[x.k + 1]? = some m2 ∧ m + m2 < 5))
theorem At.c4 {S : Av} {H : Hp} {v : V} {x : C4} (h : At S H v (c4D x)) : ∃ t, v = .ref t ∧ ¬ S t ∧ H t = some (.tup [.int (x.w : Nat), .int (x.i : Nat), .int (x.j : Nat), .int (x.k : Nat)]) := by
  cases h with
  | tup n e k =>
    cases k with
    | cons h1 k => cases h1; cases k with
      | cons h2 k => cases h2; cases k with
        | cons h3 k => cases h3; cases k with
          | cons h4 k => cases h4; cases k; exact ⟨_, rfl, n, e⟩
theorem At.ofc4 {S : Av} {H : Hp} {t : Addr} {x : C4} (n : ¬ S t) (e : H t = some (.tup [.int (x.w : Nat), .int (x.i : Nat), .int (x.j : Nat), .int (x.k : Nat)])) : At S H (.ref t) (c4D x) := .tup n e (.cons (.int _) (.cons (.int _) (.cons (.int _) (.cons (.int _) .nil))))
theorem sz1000' {n : Nat} (h : n ≤ 10000) : n < sizeLine := Nat.lt_of_le_of_lt h (by decide)
def sp_divisions : Sp := fun vs H Q _ => ∃ (S S0 : Av) (v : V) (B : Bks), vs = [v] ∧ Occ S H ∧ At S0 H v (bksLD B) ∧ okBks B ∧ ∀ l rows (cs : List C4) H', Same H H' → H l = none → H' l = some (.lst rows) → AtAll S H' rows (cs.map c4D) → cs.length ≤ 10000 → (∀ x ∈ cs, GoodCh B x) → Q (.ref l) H'
section
variable {P : Program} {w : World} {K : PySem.W.Frag} {mg : Str → Option Value} {base : Heap}
theorem ok_divisions (T : Txt K mg) (D : Df K mg "_law_divisions" s__law_divisions ["books"]) : Cl P w K mg base 2 "_law_divisions" ["books"] sp_divisions := by
  refine ok_of D sc__law_divisions (fun vs H Q E h => ?_) (fun f cdv A outer s H vs Q E hr h => ?_)
  · obtain ⟨S, S0, v, B, rfl, _⟩ := h
    rfl
  · obtain ⟨S, S0, v, B, rfl, ho, hv, ok, q⟩ := h
    refine ⟨_, (pss_cons (ps_set (i := 1) sc__law_divisions.nd rfl (.inl rfl) (pe_lst pa_nil))
      (pss_cons (ps_for PassesOwn.never rfl (pi_enum (by rfl) T.b_enumerate (pa_cons (pv 0) pa_nil)) (pg_tup rfl (pgs_cons (pg_name (i := 2) sc__law_divisions.nd rfl (.inl rfl)) (pgs_cons (pg_name (i := 3) sc__law_divisions.nd rfl (.inl rfl)) pgs_nil)))
        (pss_one (ps_for PassesOwn.never rfl (pi_enum (by rfl) T.b_enumerate (pa_cons (pe_ix ix_tup (pv 3) pe_int (fun _ _ => rfl)) pa_nil)) (pg_tup rfl (pgs_cons (pg_name (i := 4) sc__law_divisions.nd rfl (.inl rfl)) (pgs_cons (pg_name (i := 5) sc__law_divisions.nd rfl (.inl rfl)) pgs_nil)))
          (pss_one (ps_for PassesOwn.never rfl (pi_enum (by rfl) T.b_enumerate (pa_cons (pv 5) pa_nil)) (pg_tup rfl (pgs_cons (pg_name (i := 6) sc__law_divisions.nd rfl (.inl rfl)) (pgs_cons (pg_name (i := 7) sc__law_divisions.nd rfl (.inl rfl)) pgs_nil)))
            (C8.pss_cut (ps_if (PW.pt (pw_and (pt_cmpR op_gt (pv 7) pe_int (nomark _)) (pw_and1 (pt_cmpR op_lt (pe_callB call_len (by rfl) T.b_len (by decide +kernel) (pa_cons (pv 5) pa_nil)) pe_int (nomark _))))) (pss_one (ps_expr (pe_bm PySem.F.plainAttrs_list PySem.F.slot_list_append PySem.F.type_list_append mt_append (pv 1) (pa_cons (pe_tup (pa_cons pe_int (pa_cons (pv 2) (pa_cons (pv 4) (pa_cons (pv 6) pa_nil))))) pa_nil)))) pss_nil)
            (pss_one (ps_if (PW.pt (pw_and (pt_cmpR op_gt (pv 6) pe_int (nomark _)) (pw_and1 (pt_cmpR op_lt (pe_op op_add (pe_ix ix_list (pv 5) (pe_op op_sub (pv 6) pe_int) (fun _ _ => rfl)) (pv 7)) pe_int (nomark _))))) (pss_one (ps_expr (pe_bm PySem.F.plainAttrs_list PySem.F.slot_list_append PySem.F.type_list_append mt_append (pv 1) (pa_cons (pe_tup (pa_cons pe_int (pa_cons (pv 2) (pa_cons (pv 4) (pa_cons (pe_op op_sub (pv 6) pe_int) pa_nil))))) pa_nil)))) pss_nil))))))))
      (pss_one (ps_ret (pv 1))))), ?_⟩
    obtain ⟨a, xs, rfl, na, ea, ka⟩ := hv.bksL
    have lx : xs.length = B.length := by rw [ka.len, List.length_map]
    have lb6 := ok.l1
    conv in (_root_.L2.start _ _) => change [some (V.ref a), none, none, none, none, none, none, none]
    refine ⟨Nat.zero_le _, fun l hl => ?_⟩
    try conv in (List.set _ _ _) => simp only [List.set]
    refine ⟨_, rfl, a, _, rfl, .inl (.inl (same_new hl _ _ ea)), for_it (walk_enum (xs := xs)) (fun i σ H' => ∃ (t2 t3 t4 t5 t6 t7 : Option V) (rows : List V) (cs : List C4), σ = [some (.ref a), some (.ref l), t2, t3, t4, t5, t6, t7] ∧ LcS S H l rows (cs.map c4D) H' ∧ cs.length ≤ i * 720 ∧ ∀ x ∈ cs, GoodCh B x) ⟨_, _, _, _, _, _, [], [], rfl, LcS.start hl, Nat.zero_le _, fun x h => by cases h⟩ (fun i σ H' _ ⟨_, _, _, _, _, _, _, _, _, c, _⟩ => .inl (.inl (c.s _ _ ea))) ?_ ?_⟩
    · rintro i y0 σ H2x H2 hi ⟨t2, t3, t4, t5, t6, t7, rows, cs, rfl, c, lc, gc⟩ ⟨T6, x6, y6, rfl, hT6, rfl, e6, hy6⟩
      cases e6
      obtain ⟨b, hb, hbv⟩ := ka.at_ hy6
      obtain ⟨ab, ac, zs, rfl, nb, eb, nc, ec, kz⟩ := hbv.bkL
      have lz : zs.length = b.2.length := by rw [kz.len, List.length_map]
      obtain ⟨c1, c12, crow⟩ := ok.ch b (List.mem_of_getElem? hb)
      refine ⟨T6, _, rfl, .inl (.inl upd_same), rfl, _, _, rfl, _, _, rfl, rfl, ?_⟩
      have c := c.keep (same_new (o := .tup [.int (i : Nat), .ref ab]) hT6)
      generalize upd H2x T6 (.tup [.int (i : Nat), .ref ab]) = H3 at c ⊢
      try conv in (List.set _ _ _) => simp only [List.set]
      refine ⟨_, rfl, ab, _, 1, .ref ac, rfl, rfl, .inl (.inl (c.s _ _ eb)), atI_nat (j := 1) rfl, ac, _, rfl, .inl (.inl (c.s _ _ ec)), for_it (walk_enum (xs := zs)) (fun j σ H' => ∃ (t4 t5 t6 t7 : Option V) (rows : List V) (cs : List C4), σ = [some (.ref a), some (.ref l), some (.int (i : Nat)), some (.ref ab), t4, t5, t6, t7] ∧ LcS S H l rows (cs.map c4D) H' ∧ cs.length ≤ i * 720 + j * 60 ∧ ∀ x ∈ cs, GoodCh B x) ⟨_, _, _, _, rows, cs, rfl, c, by omega, gc⟩ (fun i σ H' _ ⟨_, _, _, _, _, _, _, c, _⟩ => .inl (.inl (c.s _ _ ec))) ?_ ?_⟩
      · rintro j y1 σ H4x H4 hj ⟨t4, t5, t6, t7, rows, cs, rfl, c, lc, gc⟩ ⟨T7, x7, y7, rfl, hT7, rfl, e7, hy7⟩
        cases e7
        obtain ⟨cc, hcc, hcv⟩ := kz.at_ hy7
        obtain ⟨ad, rfl, nd, ed⟩ := hcv.row
        have okr := crow cc (List.mem_of_getElem? hcc)
        have l30 := okr.l1
        refine ⟨T7, _, rfl, .inl (.inl upd_same), rfl, _, _, rfl, _, _, rfl, rfl, ?_⟩
        have c := c.keep (same_new (o := .tup [.int (j : Nat), .ref ad]) hT7)
        generalize upd H4x T7 (.tup [.int (j : Nat), .ref ad]) = H5 at c ⊢
        try conv in (List.set _ _ _) => simp only [List.set]
        refine ⟨_, rfl, ad, _, rfl, .inl (.inl (c.s _ _ ed)), for_it (walk_enum (xs := cc.map V.int)) (fun k σ H' => ∃ (t6 t7 : Option V) (rows : List V) (cs : List C4), σ = [some (.ref a), some (.ref l), some (.int (i : Nat)), some (.ref ab), some (.int (j : Nat)), some (.ref ad), t6, t7] ∧ LcS S H l rows (cs.map c4D) H' ∧ cs.length ≤ i * 720 + j * 60 + k * 2 ∧ ∀ x ∈ cs, GoodCh B x) ⟨_, _, rows, cs, rfl, c, by omega, gc⟩ (fun i σ H' _ ⟨_, _, _, _, _, c, _⟩ => .inl (.inl (c.s _ _ ed))) ?_ ?_⟩
        · rintro k y2 σ H6x H6 hk ⟨t6, t7, rows, cs, rfl, c, lc, gc⟩ ⟨T8, x8, y8, rfl, hT8, rfl, e8, hy8⟩
          cases e8
          rw [List.length_map] at hk
          obtain ⟨m, hm⟩ : ∃ m, cc[k]? = some m := ⟨_, List.getElem?_eq_getElem hk⟩
          have hy8 : (cc.map V.int)[k]? = some y8 := hy8
          rw [List.getElem?_map, hm] at hy8
          cases hy8
          refine ⟨T8, _, rfl, .inl (.inl upd_same), rfl, _, _, rfl, _, _, rfl, rfl, ?_⟩
          have c := c.keep (same_new (o := .tup [.int (k : Nat), .int m]) hT8)
          generalize upd H6x T8 (.tup [.int (k : Nat), .int m]) = H7 at c ⊢
          try conv in (List.set _ _ _) => simp only [List.set]
          have li : i < 6 := by rw [lx] at hi; omega
          have lj : j < 12 := by rw [lz] at hj; omega
          have lr : rows.length ≤ 10000 := by rw [c.len, List.length_map]; omega
          refine ⟨fun σ H' => ∃ (rows : List V) (cs : List C4), σ = [some (.ref a), some (.ref l), some (.int (i : Nat)), some (.ref ab), some (.int (j : Nat)), some (.ref ad), some (.int (k : Nat)), some (.int m)] ∧ LcS S H l rows (cs.map c4D) H' ∧ cs.length ≤ i * 720 + j * 60 + k * 2 + 1 ∧ ∀ x ∈ cs, GoodCh B x, ?_, ?_⟩
          · have skip : ∃ (rows : List V) (cs : List C4), [some (V.ref a), some (.ref l), some (.int (i : Nat)), some (.ref ab), some (.int (j : Nat)), some (.ref ad), some (.int (k : Nat)), some (.int m)] = [some (V.ref a), some (.ref l), some (.int (i : Nat)), some (.ref ab), some (.int (j : Nat)), some (.ref ad), some (.int (k : Nat)), some (.int m)] ∧ LcS S H l rows (cs.map c4D) H7 ∧ cs.length ≤ i * 720 + j * 60 + k * 2 + 1 ∧ ∀ x ∈ cs, GoodCh B x := ⟨rows, cs, rfl, c, by omega, gc⟩
            refine ⟨_, rfl, m, 1, rfl, rfl, _, rfl, ite2 (fun z1 => ?_) (fun _ => ite2 (fun z => absurd z Bool.false_ne_true) fun _ => skip)⟩
            refine ⟨_, rfl, _, cc.length, rfl, .inl ⟨_, .inl (.inl (c.s _ _ ed)), (List.length_map ..).symm⟩, _, 30, rfl, rfl, _, rfl, ite2 (fun z2 => ?_) (fun _ => skip)⟩
            have z1 := of_decide_eq_true z1
            have z2 := of_decide_eq_true z2
            refine ⟨_, rfl, .inl ⟨rfl, _, .inl (.inl c.at_)⟩, _, rfl, _, rfl, _, rfl, by show 4 ≤ sizeLine; decide, fun t' ht' => ?_⟩
            have c2 := c.keep (same_new (o := .tup [.int 0, .int (i : Nat), .int (j : Nat), .int (k : Nat)]) ht')
            have nt' : ¬ Plus S l t' := (c.occ ho).free ht'
            refine ⟨l, _, _, rfl, rfl, c2.at_, sz1000' lr, rows ++ [.ref t'], cs ++ [⟨0, i, j, k⟩], rfl, ?_, by rw [List.length_append]; show _ + 1 ≤ _; omega, fun x hx => ?_⟩
            · rw [List.map_append]
              exact c2.step (.ofc4 (x := ⟨0, i, j, k⟩) nt' upd_same)
            · rcases List.mem_append.mp hx with hx | hx
              · exact gc x hx
              · cases List.mem_singleton.mp hx
                exact ⟨b, cc, m, hb, hcc, hm, .inl ⟨rfl, z1, by omega⟩⟩
          · rintro σ H8 ⟨rows, cs, rfl, c, lc, gc⟩
            have lr : rows.length ≤ 10000 := by rw [c.len, List.length_map]; omega
            have skip : ∃ (t6 t7 : Option V) (rows : List V) (cs : List C4), [some (V.ref a), some (.ref l), some (.int (i : Nat)), some (.ref ab), some (.int (j : Nat)), some (.ref ad), some (.int (k : Nat)), some (.int m)] = [some (V.ref a), some (.ref l), some (.int (i : Nat)), some (.ref ab), some (.int (j : Nat)), some (.ref ad), t6, t7] ∧ LcS S H l rows (cs.map c4D) H8 ∧ cs.length ≤ i * 720 + j * 60 + (k + 1) * 2 ∧ ∀ x ∈ cs, GoodCh B x := ⟨_, _, rows, cs, rfl, c, by omega, gc⟩
            refine ⟨_, rfl, _, 0, rfl, rfl, _, rfl, ite2 (fun z1 => ?_) (fun _ => ite2 (fun z => absurd z Bool.false_ne_true) fun _ => skip)⟩
            have z1 := of_decide_eq_true z1
            obtain ⟨k', rfl⟩ : ∃ k', k = k' + 1 := ⟨k - 1, by omega⟩
            obtain ⟨m0, hm0⟩ : ∃ m0, cc[k']? = some m0 := ⟨_, List.getElem?_eq_getElem (by omega)⟩
            refine ⟨_, rfl, _, rfl, ((k' + 1 : Nat) : Int), 1, rfl, rfl, ad, _, _, .int m0, rfl, rfl, .inl (.inl (c.s _ _ ed)), at_of (j := k') (by omega) (by rw [List.getElem?_map, hm0]; rfl), _, rfl, m0, m, rfl, rfl, _, 5, rfl, rfl, _, rfl, ite2 (fun z2 => ?_) (fun _ => skip)⟩
            have z2 := of_decide_eq_true z2
            refine ⟨_, rfl, .inl ⟨rfl, _, .inl (.inl c.at_)⟩, _, rfl, _, rfl, _, rfl, ((k' + 1 : Nat) : Int), 1, rfl, rfl, by show 4 ≤ sizeLine; decide, fun t' ht' => ?_⟩
            have c2 := c.keep (same_new (o := .tup [.int 1, .int (i : Nat), .int (j : Nat), .int (((k' + 1 : Nat) : Int) - 1)]) ht')
            have nt' : ¬ Plus S l t' := (c.occ ho).free ht'
            refine ⟨l, _, _, rfl, rfl, c2.at_, sz1000' lr, _, _, rows ++ [.ref t'], cs ++ [⟨1, i, j, k'⟩], rfl, ?_, by rw [List.length_append]; show _ + 1 ≤ _; omega, fun x hx => ?_⟩
            · rw [List.map_append]
              exact c2.step (.ofc4 (x := ⟨1, i, j, k'⟩) nt' (upd_same.trans (congrArg (fun z : Int => some (HO.tup [V.int 1, V.int (i : Nat), V.int (j : Nat), V.int z])) (show (((k' + 1 : Nat) : Int) - 1) = (k' : Nat) by omega))))
            · rcases List.mem_append.mp hx with hx | hx
              · exact gc x hx
              · cases List.mem_singleton.mp hx
                exact ⟨b, cc, m0, hb, hcc, hm0, .inr ⟨rfl, m, hm, z2⟩⟩
        · rintro σ H6 ⟨t6, t7, rows, cs, rfl, c, lc, gc⟩
          rw [List.length_map] at lc
          exact ⟨_, _, _, _, rows, cs, rfl, c, by omega, gc⟩
      · rintro σ H4 ⟨t4, t5, t6, t7, rows, cs, rfl, c, lc, gc⟩
        exact ⟨_, _, _, _, _, _, rows, cs, rfl, c, by omega, gc⟩
    · rintro σ H2 ⟨t2, t3, t4, t5, t6, t7, rows, cs, rfl, c, lc, gc⟩
      exact ⟨_, rfl, q l rows cs H2 c.s hl c.at_ c.done (by omega) gc⟩
end
end My
set_option Elab.async false
set_option linter.all false
set_option maxRecDepth 100000
set_option maxHeartbeats 4000000
namespace My
open PySem PySem.Spec PyProof.Rows L2
/-! R5: a deed as the law makes it, asked, and what stands behind it. -/
abbrev divR (c : List Int) (k : Nat) (m f : Int) : List Int := c.take k ++ [f, m - f] ++ c.drop (k + 1)
abbrev merR (c : List Int) (k : Nat) (m m2 : Int) : List Int := c.take k ++ [m + m2] ++ c.drop (k + 2)
/-- the deed at d, and the books behind it -/
inductive Deed (H : Hp) (d : Addr) (B : Bks) (i : Nat) (b : List Nat × List (List Int)) (j : Nat) (c : List Int) (k : Nat) (m : Int) : Bks → Prop
  | div (sp : Addr) (f : Int) : H d = some (.tup [.str "divide", .ref sp, .int f]) → VsAt H sp b.1 j k → 1 ≤ f → f < m → c.length < 30 → Deed H d B i b j c k m (B.set i (b.1, b.2.set j (divR c k m f)))
  | mer (sp : Addr) (m2 : Int) : H d = some (.tup [.str "merge", .ref sp]) → VsAt H sp b.1 j k → c[k + 1]? = some m2 → m + m2 ≤ 4 → Deed H d B i b j c k m (B.set i (b.1, b.2.set j (merR c k m m2)))
theorem Deed.same {H H' : Hp} {d : Addr} {B : Bks} {i : Nat} {b : List Nat × List (List Int)} {j : Nat} {c : List Int} {k : Nat} {m : Int} {B' : Bks} (h : Deed H d B i b j c k m B') (z : Same H H') : Deed H' d B i b j c k m B' := by
  cases h with
  | div sp f h1 h2 h3 h4 h5 => exact .div sp f (z _ _ h1) (z _ _ h2) h3 h4 h5
  | mer sp m2 h1 h2 h3 h4 => exact .mer sp m2 (z _ _ h1) (z _ _ h2) h3 h4
theorem Deed.ok {H : Hp} {d : Addr} {B : Bks} {i : Nat} {b : List Nat × List (List Int)} {j : Nat} {c : List Int} {k : Nat} {m : Int} {B' : Bks} {L : List Int} (h : Deed H d B i b j c k m B') (ok : EdOk B L) (hb : B[i]? = some b) (hc : b.2[j]? = some c) (hm : c[k]? = some m) : EdOk B' L := by
  have okr := (ok.bk.ch b (List.mem_of_getElem? hb)).2.2 c (List.mem_of_getElem? hc)
  cases h with
  | div sp f h1 h2 h3 h4 h5 =>
    obtain ⟨o', es⟩ := okRow_div okr hm h3 h4 h5
    exact ok.setRow hb hc o' es
  | mer sp m2 h1 h2 h3 h4 =>
    obtain ⟨o', es⟩ := okRow_mer okr hm h3 h4
    exact ok.setRow hb hc o' es
def sp_divide : Sp := fun vs H Q _ => ∃ (S S0 S1 : Av) (v cv : V) (cell : Int) (B : Bks) (x : C4), vs = [v, cv, .int cell] ∧ Occ S H ∧ At S0 H v (bksLD B) ∧ okBks B ∧ At S1 H cv (c4D x) ∧ GoodCh B x ∧
  ∀ (t d o : Addr) (b : List Nat × List (List Int)) (c : List Int) (m : Int) (B' : Bks) H', Same H H' → H t = none → H' t = some (.tup [.ref d, .ref o]) → B[x.i]? = some b → b.2[x.j]? = some c → c[x.k]? = some m → Deed H' d B x.i b x.j c x.k m B' → At S H' (.ref o) (bksLD B') → Q (.ref t) H'
def sp_askedD (C : Addr) : Sp := fun vs H Q _ => ∃ (S : Av) (e d : Addr) (cell : Int) (B : Bks) (L : List Int) (i : Nat) (b : List Nat × List (List Int)) (j : Nat) (c : List Int) (k : Nat) (m : Int) (B' : Bks), vs = [.ref e, .ref d, .int cell] ∧ Occ S H ∧ EdAt S H C e B L ∧ EdOk B L ∧ B[i]? = some b ∧ b.2[j]? = some c ∧ c[k]? = some m ∧ Deed H d B i b j c k m B' ∧
  ∀ e' H', Same H H' → H e' = none → EdAt S H' C e' B' L → Q (.ref e') H'
def sp_keptD (C : Addr) : Sp := fun vs H Q _ => ∃ (S : Av) (e tl : Addr) (B : Bks) (L : List Int), vs = [.ref e, .ref tl] ∧ Occ S H ∧ EdAt S H C e B L ∧ EdOk B L ∧ lnt L ∧ H tl = some (.lst (L.map V.int)) ∧ ∀ H', Same H H' → Q (.bl true) H'
section
variable {P : Program} {w : World} {K : PySem.W.Frag} {mg : Str → Option Value} {base : Heap}
theorem ok_divide (T : Txt K mg) (c__law_copy : Cl P w K mg base 2 "_law_copy" ["books"] sp_copyX) (D : Df K mg "_law_divide" s__law_divide ["books", "choice", "cell"]) : Cl P w K mg base 3 "_law_divide" ["books", "choice", "cell"] sp_divide := by
  refine ok_of D sc__law_divide (fun vs H Q E h => ?_) (fun f cdv A outer s H vs Q E hr h => ?_)
  · obtain ⟨S, S0, S1, v, cv, cell, B, x, rfl, _⟩ := h
    rfl
  · obtain ⟨S, S0, S1, v, cv, cell, B, x, rfl, ho, hv, ok, hcv, gd, q⟩ := h
    refine ⟨_, (pss_cons (ps_asg (pv 1) (pg_tup rfl (pgs_cons (pg_name (i := 3) sc__law_divide.nd rfl (.inl rfl)) (pgs_cons (pg_name (i := 4) sc__law_divide.nd rfl (.inl rfl)) (pgs_cons (pg_name (i := 5) sc__law_divide.nd rfl (.inl rfl)) (pgs_cons (pg_name (i := 6) sc__law_divide.nd rfl (.inl rfl)) pgs_nil))))))
      (pss_cons (ps_set (i := 7) sc__law_divide.nd rfl (.inl rfl) (pe_cl c__law_copy hr (by decide) (by rfl) (pa_cons (pv 0) pa_nil)))
      (pss_cons (ps_set (i := 8) sc__law_divide.nd rfl (.inl rfl) (pe_ix ix_list (pe_ix ix_tup (pe_ix ix_list (pv 7) (pv 4) (fun _ _ => rfl)) pe_int (fun _ _ => rfl)) (pv 5) (fun _ _ => rfl)))
      (pss_cons (ps_set (i := 9) sc__law_divide.nd rfl (.inl rfl) (pe_tup (pa_cons (pe_ix ix_tup (pe_ix ix_list (pv 0) (pv 4) (fun _ _ => rfl)) pe_int (fun _ _ => rfl)) (pa_cons (pe_op op_add (pv 5) pe_int) (pa_cons (pe_op op_add (pv 6) pe_int) pa_nil)))))
      (pss_cons (ps_if (pt_cmpR op_eq (pv 3) pe_int (nomark _)) (pss_cons (ps_set (i := 10) sc__law_divide.nd rfl (.inl rfl) (pe_op op_add pe_int (pe_op op_mod (pv 2) (pe_op op_sub (pe_ix ix_list (pv 8) (pv 6) (fun _ _ => rfl)) pe_int))))
        (pss_cons (ps_asg (pe_lst (pa_cons (pv 10) (pa_cons (pe_op op_sub (pe_ix ix_list (pv 8) (pv 6) (fun _ _ => rfl)) (pv 10)) pa_nil))) (pg_cutB (pv 8) (po_some (pv 6)) (po_some (pe_op op_add (pv 6) pe_int))))
        (pss_one (ps_ret (pe_tup (pa_cons (pe_tup (pa_cons pe_str (pa_cons (pv 9) (pa_cons (pv 10) pa_nil)))) (pa_cons (pv 7) pa_nil))))))) pss_nil)
      (pss_cons (ps_asg (pe_lst (pa_cons (pe_op op_add (pe_ix ix_list (pv 8) (pv 6) (fun _ _ => rfl)) (pe_ix ix_list (pv 8) (pe_op op_add (pv 6) pe_int) (fun _ _ => rfl))) pa_nil)) (pg_cutB (pv 8) (po_some (pv 6)) (po_some (pe_op op_add (pv 6) pe_int))))
      (pss_one (ps_ret (pe_tup (pa_cons (pe_tup (pa_cons pe_str (pa_cons (pv 9) pa_nil))) (pa_cons (pv 7) pa_nil))))))))))), ?_⟩
    obtain ⟨ct, rfl, nct, ect⟩ := hcv.c4
    obtain ⟨b, c, m, hb, hc, hm, cases_⟩ := gd
    obtain ⟨w, i, j, k⟩ := x
    have hb : B[i]? = some b := hb
    have hc : b.2[j]? = some c := hc
    have hm : c[k]? = some m := hm
    conv in (_root_.L2.start _ _) => change [some (v), some (V.ref ct), some (V.int cell), none, none, none, none, none, none, none, none]
    refine ⟨_, rfl, ct, _, rfl, .inl (.inl ect), rfl, _, _, rfl, _, _, rfl, _, _, rfl, _, _, rfl, rfl, ?_⟩
    try conv in (List.set _ _ _) => simp only [List.set]
    refine ⟨_, rfl, S, S0, v, B, rfl, ho, hv, ok.l1, fun b hb => (ok.ch b hb).2.1, fun l us H1 hl S1 bk fr => ?_⟩
    try conv in (List.set _ _ _) => simp only [List.set]
    have bm := List.mem_of_getElem? hb
    have li : i < B.length := (List.getElem?_eq_some_iff.mp hb).1
    have lj : j < b.2.length := (List.getElem?_eq_some_iff.mp hc).1
    have lk : k < c.length := (List.getElem?_eq_some_iff.mp hm).1
    obtain ⟨u, hu⟩ : ∃ u, us[i]? = some u := ⟨_, List.getElem?_eq_getElem (by rw [bk.len]; exact li)⟩
    obtain ⟨nu, eu⟩ := bk.tp i u b hu hb
    have hu2 : (us.map (·.2))[i]? = some u.2 := by rw [List.getElem?_map, hu]; rfl
    have ku := bk.ch.at_ i u.2 b hu2 hb
    obtain ⟨r, hr2⟩ : ∃ r, u.2.2[j]? = some r := ⟨_, List.getElem?_eq_getElem (by rw [ku.len]; exact lj)⟩
    obtain ⟨nr, er⟩ := ku.row j r c hr2 hc
    have pos : ∀ b ∈ B, 1 ≤ b.2.length := fun b hb => (ok.ch b hb).1
    have okr := (ok.ch b bm).2.2 c (List.mem_of_getElem? hc)
    have l30 := okr.l1
    refine ⟨_, rfl, _, rfl, l, _, _, .ref u.1, rfl, rfl, .inl (.inl bk.at_), atI_nat (j := i) (by rw [List.getElem?_map, hu]; rfl), u.1, _, 1, .ref u.2.1, rfl, rfl, .inl (.inl eu), atI_nat (j := 1) rfl, _, rfl, u.2.1, _, _, .ref r, rfl, rfl, .inl (.inl ku.at_), atI_nat (j := j) (by rw [List.getElem?_map, hr2]; rfl), ?_⟩
    try conv in (List.set _ _ _) => simp only [List.set]
    obtain ⟨a, xs, rfl, na, ea, ka⟩ := hv.bksL
    obtain ⟨xv, hxv⟩ : ∃ xv, xs[i]? = some xv := ⟨_, List.getElem?_eq_getElem (by rw [ka.len, List.length_map]; exact li)⟩
    obtain ⟨b0, hb0, hbv⟩ := ka.at_ hxv
    rw [hb] at hb0
    cases hb0
    obtain ⟨ab, ac, zs, rfl, nb, eb, nc, ec, kz⟩ := hbv.bkL
    refine ⟨_, rfl, _, rfl, a, _, _, .ref ab, rfl, rfl, .inl (.inl (S1 _ _ ea)), atI_nat (j := i) hxv, ab, _, 0, .str (SX.S b.1), rfl, rfl, .inl (.inl (S1 _ _ eb)), atI_nat (j := 0) rfl, _, rfl, (j : Nat), 1, rfl, rfl, _, rfl, (k : Nat), 1, rfl, rfl, by show 3 ≤ sizeLine; decide, fun sp hsp => ?_⟩
    have S2 := same_new (o := .tup [.str (SX.S b.1), .int ((j : Nat) + 1), .int ((k : Nat) + 1)]) hsp
    have vsp : VsAt (upd H1 sp (.tup [.str (SX.S b.1), .int ((j : Nat) + 1), .int ((k : Nat) + 1)])) sp b.1 j k := by
      unfold VsAt
      rw [upd_same, Int.add_comm (j : Int) 1, Int.add_comm (k : Int) 1]
    have o2 := (ho.same S1).same S2
    have bk := bk.bt (Same.btS S2)
    have er := S2 _ _ er
    have hrn : H r = none := fr r (List.mem_flatMap.mpr ⟨u.2, List.mem_of_getElem? hu2, List.mem_of_getElem? hr2⟩)
    try conv in (List.set _ _ _) => simp only [List.set]
    rcases cases_ with ⟨w0, m1, c30⟩ | ⟨w1, m2, hm2, m4⟩
    · have w0 : w = 0 := w0
      subst w0
      have S02 := S1.trans S2
      generalize upd H1 sp (.tup [.str (SX.S b.1), .int ((j : Nat) + 1), .int ((k : Nat) + 1)]) = H2 at S2 S02 vsp o2 bk er ⊢
      refine ⟨_, rfl, rfl, _, rfl, ite2 (fun _ => ?_) (fun z => absurd (decide_eq_true rfl) z)⟩
      refine ⟨_, rfl, _, rfl, _, rfl, r, _, _, .int m, rfl, rfl, .inl (.inl er), atI_nat (j := k) (by rw [List.getElem?_map, hm]; rfl), m, 1, rfl, rfl, cell, m - 1, rfl, rfl, (by show (0 : Int) < m - 1; omega), 1, cell % (m - 1), rfl, rfl, ?_⟩
      have f0 := Int.emod_nonneg cell (show m - 1 ≠ 0 by omega)
      have f1 := Int.emod_lt_of_pos cell (show 0 < m - 1 by omega)
      generalize cell % (m - 1) = ff at f0 f1
      have fm : 1 + ff < m := by omega
      have f1' : 1 ≤ 1 + ff := by omega
      try conv in (List.set _ _ _) => simp only [List.set]
      refine ⟨_, rfl, _, rfl, _, rfl, r, _, _, .int m, rfl, rfl, .inl (.inl er), atI_nat (j := k) (by rw [List.getElem?_map, hm]; rfl), _, rfl, m, 1 + ff, rfl, rfl, by show 2 ≤ sizeLine; decide, fun nl hnl => ?_⟩
      have nrl : r ≠ nl := ne_of_none er hnl
      have S3 := same_new (o := .lst [V.int (1 + ff), V.int (m - (1 + ff))]) hnl
      have enl := upd_same (H := H2) (a := nl) (o := .lst [V.int (1 + ff), V.int (m - (1 + ff))])
      generalize upd H2 nl (.lst [V.int (1 + ff), V.int (m - (1 + ff))]) = H3 at S3 enl ⊢
      have er := S3 _ _ er
      have bk := bk.bt (Same.btS S3)
      refine ⟨_, rfl, _, rfl, (k : Nat), rfl, _, rfl, (k : Nat), 1, rfl, rfl, _, rfl, r, nl, _, _, k, k + 1, rfl, rfl, rfl, congrArg some (by omega), er, enl, nrl, by omega, by rw [List.length_map]; omega, Nat.le_of_lt (Evl.sz_lt (by rw [List.length_map]; show c.length + 2 < 100000; omega)), ?_⟩
      have bk4 := bk.set (c' := divR c k m (1 + ff)) pos hu hb hr2 hc
      rw [show (c.map V.int).take k ++ [V.int (1 + ff), V.int (m - (1 + ff))] ++ (c.map V.int).drop (k + 1) = (divR c k m (1 + ff)).map V.int by rw [← List.map_take, ← List.map_drop]; unfold divR; rw [List.map_append, List.map_append]; rfl]
      have S4 : Same H (upd H3 r (.lst ((divR c k m (1 + ff)).map V.int))) := same_over (S02.trans S3) hrn
      have o4 := ho.same S4
      have vsp4 : VsAt (upd H3 r (.lst ((divR c k m (1 + ff)).map V.int))) sp b.1 j k := by
        have := S3 _ _ vsp
        unfold VsAt
        rw [upd_ne (fun z => by rw [z, er] at this; cases this)]
        exact this
      generalize upd H3 r (.lst ((divR c k m (1 + ff)).map V.int)) = H4 at S4 o4 vsp4 bk4 ⊢
      refine ⟨_, rfl, _, rfl, by show 3 ≤ sizeLine; decide, fun d hd => ⟨_, rfl, by show 2 ≤ sizeLine; decide, fun t ht => ?_⟩⟩
      have S5 := same_new (o := .tup [.str "divide", .ref sp, .int (1 + ff)]) hd
      have S6 := same_new (o := .tup [.ref d, .ref l]) ht
      have S56 := S5.trans S6
      exact q t d l b c m _ _ (S4.trans S56) (Same.fresh (S4.trans S5) ht) upd_same hb hc hm (.div sp (1 + ff) (S6 _ _ upd_same) (S56 _ _ vsp4) f1' fm c30) (At.same bk4.data S56)
    · have w1 : w = 1 := w1
      subst w1
      have hm2 : c[k + 1]? = some m2 := hm2
      have lk2 := (List.getElem?_eq_some_iff.mp hm2).1
      have S02 := S1.trans S2
      generalize upd H1 sp (.tup [.str (SX.S b.1), .int ((j : Nat) + 1), .int ((k : Nat) + 1)]) = H2 at S2 S02 vsp o2 bk er ⊢
      refine ⟨_, rfl, rfl, _, rfl, ite2 (fun z => absurd (V.int.inj (of_decide_eq_true z)) (by decide)) (fun _ => ?_)⟩
      refine ⟨_, rfl, _, rfl, r, _, _, .int m, rfl, rfl, .inl (.inl er), atI_nat (j := k) (by rw [List.getElem?_map, hm]; rfl), _, rfl, _, rfl, (k : Nat), 1, rfl, rfl, r, _, _, .int m2, rfl, rfl, .inl (.inl er), at_of (j := k + 1) (by omega) (by rw [List.getElem?_map, hm2]; rfl), m, m2, rfl, rfl, by show 1 ≤ sizeLine; decide, fun nl hnl => ?_⟩
      have nrl : r ≠ nl := ne_of_none er hnl
      have S3 := same_new (o := .lst [V.int (m + m2)]) hnl
      have enl := upd_same (H := H2) (a := nl) (o := .lst [V.int (m + m2)])
      generalize upd H2 nl (.lst [V.int (m + m2)]) = H3 at S3 enl ⊢
      have er := S3 _ _ er
      have bk := bk.bt (Same.btS S3)
      refine ⟨_, rfl, _, rfl, (k : Nat), rfl, _, rfl, (k : Nat), 2, rfl, rfl, _, rfl, r, nl, _, _, k, k + 2, rfl, rfl, rfl, congrArg some (by omega), er, enl, nrl, by omega, by rw [List.length_map]; omega, Nat.le_of_lt (Evl.sz_lt (by rw [List.length_map]; show c.length + 1 < 100000; omega)), ?_⟩
      have bk4 := bk.set (c' := merR c k m m2) pos hu hb hr2 hc
      rw [show (c.map V.int).take k ++ [V.int (m + m2)] ++ (c.map V.int).drop (k + 2) = (merR c k m m2).map V.int by rw [← List.map_take, ← List.map_drop]; unfold merR; rw [List.map_append, List.map_append]; rfl]
      have S4 : Same H (upd H3 r (.lst ((merR c k m m2).map V.int))) := same_over (S02.trans S3) hrn
      have o4 := ho.same S4
      have vsp4 : VsAt (upd H3 r (.lst ((merR c k m m2).map V.int))) sp b.1 j k := by
        have := S3 _ _ vsp
        unfold VsAt
        rw [upd_ne (fun z => by rw [z, er] at this; cases this)]
        exact this
      generalize upd H3 r (.lst ((merR c k m m2).map V.int)) = H4 at S4 o4 vsp4 bk4 ⊢
      refine ⟨_, rfl, by show 2 ≤ sizeLine; decide, fun d hd => ⟨_, rfl, by show 2 ≤ sizeLine; decide, fun t ht => ?_⟩⟩
      have S5 := same_new (o := .tup [.str "merge", .ref sp]) hd
      have S6 := same_new (o := .tup [.ref d, .ref l]) ht
      have S56 := S5.trans S6
      exact q t d l b c m _ _ (S4.trans S56) (Same.fresh (S4.trans S5) ht) upd_same hb hc hm (.mer sp m2 (S6 _ _ upd_same) (S56 _ _ vsp4) hm2 (by omega)) (At.same bk4.data S56)
theorem ok_askedD {C : Addr} (T : Txt K mg) (c_merged : Cl P w K mg base 9 "merged" ["edition", "spot"] (sp_mer C)) (c_divided_D : ClD P w K mg base 9 "divided" [.int 1] (sp_div C)) (c_divided_A : ClD P w K mg base 9 "divided" [] (sp_div C)) (c_divided_N : ClN P w K mg base 9 "divided" 2 ["many"] (fun vs zs => vs ++ zs) (sp_div C)) (D : Df K mg "_law_asked" s__law_asked ["edition", "deed", "cell"]) : Cl P w K mg base 10 "_law_asked" ["edition", "deed", "cell"] (sp_askedD C) := by
  refine ok_of D sc__law_asked (fun vs H Q E h => ?_) (fun f cdv A outer s H vs Q E hr h => ?_)
  · obtain ⟨S, e, d, cell, B, L, i, b, j, c, k, m, B', rfl, _⟩ := h
    rfl
  · obtain ⟨S, e, d, cell, B, L, i, b, j, c, k, m, B', rfl, ho, he, ok, hb, hc, hm, dd, q⟩ := h
    refine ⟨_, (pss_cons (ps_if (pt_cmpR op_eq (pe_ix ix_tup (pv 1) pe_int (fun _ _ => rfl)) pe_str (nomark _)) (pss_one (ps_ret (pe_cl c_merged hr (by decide) (by rfl) (pa_cons (pv 0) (pa_cons (pe_ix ix_tup (pv 1) pe_int (fun _ _ => rfl)) pa_nil))))) pss_nil)
      (pss_cons (ps_if (PW.pt (pw_and (pt_cmpR op_eq (pe_ix ix_tup (pv 1) pe_int (fun _ _ => rfl)) pe_int (nomark _)) (pw_and1 (pt_cmpR op_eq (pe_op op_mod (pv 2) pe_int) pe_int (nomark _))))) (pss_one (ps_ret (pe_clD c_divided_D hr (by decide) (by rfl) (pa_cons (pv 0) (pa_cons (pe_ix ix_tup (pv 1) pe_int (fun _ _ => rfl)) pa_nil))))) pss_nil)
      (pss_cons (ps_if (pt_cmpR op_eq (pe_op op_mod (pv 2) pe_int) pe_int (nomark _)) (pss_one (ps_ret (pe_clN c_divided_N hr (by decide) (by rfl) (pa_cons (pv 0) (pa_cons (pe_ix ix_tup (pv 1) pe_int (fun _ _ => rfl)) pa_nil)) (pk_cons (pe_ix ix_tup (pv 1) pe_int (fun _ _ => rfl)) pk_nil)))) pss_nil)
      (pss_one (ps_ret (pe_clD c_divided_A hr (by decide) (by rfl) (pa_cons (pv 0) (pa_cons (pe_ix ix_tup (pv 1) pe_int (fun _ _ => rfl)) (pa_cons (pe_ix ix_tup (pv 1) pe_int (fun _ _ => rfl)) pa_nil))))))))), ?_⟩
    cases dd with
    | mer sp m2 h1 h2 h3 h4 =>
      refine ⟨_, rfl, d, _, 0, .str "merge", rfl, rfl, .inl (.inl h1), atI_nat (j := 0) rfl, rfl, _, rfl, ite2 (fun _ => ?_) (fun z => absurd (decide_eq_true rfl) z)⟩
      exact ⟨_, rfl, _, rfl, d, _, 1, .ref sp, rfl, rfl, .inl (.inl h1), atI_nat (j := 1) rfl, S, e, sp, B, L, i, b, j, c, k, m, m2, rfl, ho, he, ok, hb, hc, hm, h3, h2, h4, fun e' H' S' he' _ ed => q e' H' S' he' ed⟩
    | div sp f h1 h2 h3 h4 h5 =>
      refine ⟨_, rfl, d, _, 0, .str "divide", rfl, rfl, .inl (.inl h1), atI_nat (j := 0) rfl, rfl, _, rfl, ite2 (fun z => absurd z (by decide)) (fun _ => ?_)⟩
      have far : ∀ e' H', Same H H' → H e' = none → EdOk (B.set i (b.1, b.2.set j (divR c k m f))) L → EdAt S H' C e' (B.set i (b.1, b.2.set j (divR c k m f))) L → Q (.ref e') H' := fun e' H' S' he' _ ed => q e' H' S' he' ed
      have go2 : sp_div C [.ref e, .ref sp, .int f] H Q E0 := ⟨S, e, sp, B, L, i, b, j, c, k, m, f, rfl, ho, he, ok, hb, hc, hm, h2, h3, h4, h5, far⟩
      refine ⟨_, rfl, d, _, 2, .int f, rfl, rfl, .inl (.inl h1), atI_nat (j := 2) rfl, rfl, _, rfl, ite2 (fun z1 => ?_) (fun _ => ite2 (fun z => absurd z Bool.false_ne_true) fun _ => ?_)⟩
      · have f1 : f = 1 := V.int.inj (of_decide_eq_true z1)
        subst f1
        refine ⟨_, rfl, cell, 3, rfl, rfl, (by show (0 : Int) < 3; decide), rfl, _, rfl, ite2 (fun _ => ?_) (fun _ => ?_)⟩
        · exact ⟨_, rfl, _, rfl, d, _, 1, .ref sp, rfl, rfl, .inl (.inl h1), atI_nat (j := 1) rfl, go2⟩
        · refine ⟨_, rfl, cell, 3, rfl, rfl, (by show (0 : Int) < 3; decide), rfl, _, rfl, ite2 (fun _ => ?_) (fun _ => ?_)⟩
          · exact ⟨_, rfl, _, rfl, d, _, 1, .ref sp, rfl, rfl, .inl (.inl h1), atI_nat (j := 1) rfl, _, rfl, d, _, 2, .int 1, rfl, rfl, .inl (.inl h1), atI_nat (j := 2) rfl, rfl, rfl, go2⟩
          · exact ⟨_, rfl, _, rfl, d, _, 1, .ref sp, rfl, rfl, .inl (.inl h1), atI_nat (j := 1) rfl, _, rfl, d, _, 2, .int 1, rfl, rfl, .inl (.inl h1), atI_nat (j := 2) rfl, go2⟩
      · refine ⟨_, rfl, cell, 3, rfl, rfl, (by show (0 : Int) < 3; decide), rfl, _, rfl, ite2 (fun _ => ?_) (fun _ => ?_)⟩
        · exact ⟨_, rfl, _, rfl, d, _, 1, .ref sp, rfl, rfl, .inl (.inl h1), atI_nat (j := 1) rfl, _, rfl, d, _, 2, .int f, rfl, rfl, .inl (.inl h1), atI_nat (j := 2) rfl, rfl, rfl, go2⟩
        · exact ⟨_, rfl, _, rfl, d, _, 1, .ref sp, rfl, rfl, .inl (.inl h1), atI_nat (j := 1) rfl, _, rfl, d, _, 2, .int f, rfl, rfl, .inl (.inl h1), atI_nat (j := 2) rfl, go2⟩
/-- 9999 is no line -/
theorem keptNo {L : List Int} (nd : L.Nodup) (h : lnt L) : prtV L (.int 9999) = .non := by
  rw [prt_go nd ⟨by decide, by decide⟩]
  cases e : gO L 9999 with
  | none => rfl
  | some j =>
    obtain ⟨k, _, hk⟩ := (gO_iff nd).mp e
    have := (h _ (List.mem_of_getElem? hk)).2
    omega
theorem keptAt {L : List Int} (nd : L.Nodup) (h : lns L) {k : Nat} {z : Int} (hz : L[k]? = some z) : prtV L (.int z) = .int (k : Nat) := by
  rw [prt_go nd (h z (List.mem_of_getElem? hz)), gO_some nd hz]
  rfl
theorem ok_keptD {C : Addr} (T : Txt K mg) (c__law_alike : Cl P w K mg base 7 "_law_alike" ["found", "due"] (sp_alike 6)) (m_part_of : C8.Met P w K mg base 3 C "part_of" (sp_partOf K C) []) (m_line_at : C8.Met P w K mg base 4 C "line_at" (sp_lineAt C) []) (m_lines : C8.Met P w K mg base 2 C "lines" (sp_lines C) []) (D : Df K mg "_law_kept" s__law_kept ["edition", "threads"]) : Cl P w K mg base 8 "_law_kept" ["edition", "threads"] (sp_keptD C) := by
  refine ok_of D sc__law_kept (fun vs H Q E h => ?_) (fun f cdv A outer s H vs Q E hr h => ?_)
  · obtain ⟨S, e, tl, B, L, rfl, _⟩ := h
    rfl
  · obtain ⟨S, e, tl, B, L, rfl, ho, he, ok, lt, htl, q⟩ := h
    refine ⟨_, (pss_cons (ps_for PassesOwn.never rfl (pi_enum (by rfl) T.b_enumerate (pa_cons (pv 1) pa_nil)) (pg_tup rfl (pgs_cons (pg_name (i := 2) sc__law_kept.nd rfl (.inl rfl)) (pgs_cons (pg_name (i := 3) sc__law_kept.nd rfl (.inl rfl)) pgs_nil)))
        (pss_one (ps_if (PW.pt (pw_or (pt_not (pt_val (pe_cl c__law_alike hr (by decide) (by rfl) (pa_cons (C8.pe_mt m_part_of hr (by decide) (pv 0) (pa_cons (pv 3) pa_nil)) (pa_cons (pv 2) pa_nil))))) (pw_or1 (pt_not (pt_val (pe_cl c__law_alike hr (by decide) (by rfl) (pa_cons (C8.pe_mt m_line_at hr (by decide) (pv 0) (pa_cons (pv 2) pa_nil)) (pa_cons (pv 3) pa_nil)))))))) (pss_one (ps_ret pe_bl)) pss_nil)))
      (pss_one (ps_ret (pe_and (pe_cl c__law_alike hr (by decide) (by rfl) (pa_cons (C8.pe_mt m_part_of hr (by decide) (pv 0) (pa_cons pe_int pa_nil)) (pa_cons pe_non pa_nil))) (pe_one (pe_cl c__law_alike hr (by decide) (by rfl) (pa_cons (C8.pe_mt0 m_lines hr (by decide) (pv 0)) (pa_cons (pv 1) pa_nil)))))))), ?_⟩
    have ll := ok.ll
    have l4 := ok.l4
    conv in (_root_.L2.start _ _) => change [some (V.ref e), some (V.ref tl), none, none]
    refine ⟨_, rfl, tl, _, rfl, .inl (.inl htl), for_it (walk_enum (xs := L.map V.int)) (fun k σ H' => ∃ (t2 t3 : Option V), σ = [some (.ref e), some (.ref tl), t2, t3] ∧ Same H H') ⟨_, _, rfl, Same.refl _⟩ (fun i σ H' _ ⟨_, _, _, z⟩ => .inl (.inl (z _ _ htl))) ?_ ?_⟩
    · rintro k y2 σ H6x H6 hk ⟨t2, t3, rfl, S6⟩ ⟨T8, x8, y8, rfl, hT8, rfl, e8, hy8⟩
      cases e8
      rw [List.length_map] at hk
      obtain ⟨z, hz⟩ : ∃ z, L[k]? = some z := ⟨_, List.getElem?_eq_getElem hk⟩
      have hy8 : (L.map V.int)[k]? = some y8 := hy8
      rw [List.getElem?_map, hz] at hy8
      cases hy8
      refine ⟨T8, _, rfl, .inl (.inl upd_same), rfl, _, _, rfl, _, _, rfl, rfl, ?_⟩
      have S7 := S6.trans (same_new (o := .tup [.int (k : Nat), .int z]) hT8)
      generalize upd H6x T8 (.tup [.int (k : Nat), .int z]) = H7 at S7 ⊢
      try conv in (List.set _ _ _) => simp only [List.set]
      have he7 := he.bt (Same.btS S7)
      obtain ⟨w7, hw7⟩ := id he7
      refine ⟨_, rfl, e, _, _, rfl, hw7.at_, rfl, _, rfl, S, e, B, L, .int z, rfl, he7, .int z, ?_⟩
      rw [keptAt ok.nd ok.ln hz]
      refine ⟨_, rfl, fun _ => False, fun _ => False, .int (k : Nat), .int (k : Nat), .int (k : Nat), rfl, .int _, .int _, .inr (.inl ⟨_, rfl⟩), fun H8 S8 => ⟨_, rfl, ite2 (fun z => absurd z (by decide)) fun _ => ?_⟩⟩
      have he8 := he7.bt (Same.btS S8)
      obtain ⟨w8, hw8⟩ := id he8
      refine ⟨_, rfl, e, _, _, rfl, hw8.at_, rfl, _, rfl, S, e, B, L, k, z, rfl, he8, by omega, hz, ?_⟩
      exact ⟨_, rfl, fun _ => False, fun _ => False, .int z, .int z, .int z, rfl, .int _, .int _, .inr (.inl ⟨_, rfl⟩), fun H9 S9 => ⟨_, rfl, ite2 (fun z => absurd z (by decide)) fun _ => ⟨_, _, rfl, S7.trans (S8.trans S9)⟩⟩⟩
    · rintro σ H6 ⟨t2, t3, rfl, S6⟩
      have he6 := he.bt (Same.btS S6)
      obtain ⟨w6, hw6⟩ := id he6
      refine ⟨_, rfl, e, _, _, rfl, hw6.at_, rfl, S, e, B, L, .int 9999, rfl, he6, .int _, ?_⟩
      rw [keptNo ok.nd lt]
      refine ⟨fun _ => False, fun _ => False, .non, .non, .none, rfl, .non, .non, .inl (.inr rfl), fun H7 S7 => ⟨_, rfl, ite2 (fun _ => ?_) (fun z => absurd (show true = true from rfl) z)⟩⟩
      have he7 := he6.bt (Same.btS S7)
      obtain ⟨w7, hw7⟩ := id he7
      refine ⟨_, rfl, e, _, _, rfl, hw7.at_, rfl, S, e, B, L, rfl, he7, fun nl hnl => ?_⟩
      have S8 := same_new (o := .lst (L.map V.int)) hnl
      refine ⟨_, rfl, fun _ => False, fun _ => False, .ref nl, .ref tl, .list (L.map .int), rfl, .lst (fun z => z) upd_same (AtAll.ints L), .lst (fun z => z) (S8 _ _ ((S6.trans S7) _ _ htl)) (AtAll.ints L), ?_, fun H9 S9 => q H9 ((S6.trans S7).trans (S8.trans S9))⟩
      exact .inr (.inr (.inr ⟨_, by rw [List.length_map]; omega, fun x hx => by
        obtain ⟨z, _, rfl⟩ := List.mem_map.mp hx
        exact .inr (.inl ⟨_, rfl⟩), .inl rfl⟩))
end
end My
set_option Elab.async false
set_option linter.all false
set_option maxRecDepth 100000
set_option maxHeartbeats 4000000
namespace My
open PySem PySem.Spec PyProof.Rows L2
/-! R6: a deed is right, and the one that undoes it. -/
theorem set_self {α : Type} {l : List α} {i : Nat} {a : α} (h : l[i]? = some a) : l.set i a = l := by
  obtain ⟨hi, e⟩ := List.getElem?_eq_some_iff.mp h
  rw [← e]
  exact List.set_getElem_self hi
theorem set_back {B : Bks} {i j : Nat} {b : List Nat × List (List Int)} {c c' : List Int} (hb : B[i]? = some b) (hc : b.2[j]? = some c) : (B.set i (b.1, b.2.set j c')).set i ((b.1, b.2.set j c').1, (b.1, b.2.set j c').2.set j c) = B := by
  rw [List.set_set]
  show B.set i (b.1, (b.2.set j c').set j c) = B
  rw [List.set_set, set_self hc]
  exact set_self hb
theorem div_at {c : List Int} {k : Nat} {m f : Int} (h : c[k]? = some m) : (divR c k m f)[k]? = some f ∧ (divR c k m f)[k + 1]? = some (m - f) ∧ merR (divR c k m f) k f (m - f) = c := by
  have hk := (List.getElem?_eq_some_iff.mp h).1
  have lt : (c.take k).length = k := by rw [List.length_take]; omega
  unfold divR
  refine ⟨?_, ?_, ?_⟩
  · rw [List.append_assoc, List.getElem?_append_right (by omega), lt, Nat.sub_self]
    rfl
  · rw [List.append_assoc, List.getElem?_append_right (by omega), lt, show k + 1 - k = 1 by omega]
    rfl
  · unfold merR
    have e1 : (c.take k ++ [f, m - f] ++ c.drop (k + 1)).take k = c.take k := by
      rw [List.append_assoc, List.take_append_of_le_length (by omega), List.take_of_length_le (by omega)]
    have e2 : (c.take k ++ [f, m - f] ++ c.drop (k + 1)).drop (k + 2) = c.drop (k + 1) := by
      have : (c.take k ++ [f, m - f]).length = k + 2 := by rw [List.length_append, lt]; rfl
      rw [← this, List.drop_left]
    rw [e1, e2, show f + (m - f) = m by omega, List.append_assoc]
    exact (cut_one h).symm
theorem mer_at {c : List Int} {k : Nat} {m m2 : Int} (h : c[k]? = some m) (h2 : c[k + 1]? = some m2) : (merR c k m m2)[k]? = some (m + m2) ∧ divR (merR c k m m2) k (m + m2) m = c ∧ (merR c k m m2).length < c.length := by
  have hk := (List.getElem?_eq_some_iff.mp h2).1
  have lt : (c.take k).length = k := by rw [List.length_take]; omega
  unfold merR
  refine ⟨?_, ?_, ?_⟩
  · rw [List.append_assoc, List.getElem?_append_right (by omega), lt, Nat.sub_self]
    rfl
  · unfold divR
    have e1 : (c.take k ++ [m + m2] ++ c.drop (k + 2)).take k = c.take k := by
      rw [List.append_assoc, List.take_append_of_le_length (by omega), List.take_of_length_le (by omega)]
    have e2 : (c.take k ++ [m + m2] ++ c.drop (k + 2)).drop (k + 1) = c.drop (k + 2) := by
      have : (c.take k ++ [m + m2]).length = k + 1 := by rw [List.length_append, lt]; rfl
      rw [← this, List.drop_left]
    rw [e1, e2, show m + m2 - m = m2 by omega, List.append_assoc]
    have e := cut_one h
    have e3 : c.drop (k + 1) = m2 :: c.drop (k + 2) := by
      rw [List.drop_eq_getElem_cons hk, (List.getElem?_eq_some_iff.mp h2).2]
    rw [e3] at e
    exact e.symm
  · rw [List.length_append, List.length_append, lt, List.length_drop]
    show k + 1 + (c.length - (k + 2)) < c.length
    omega
theorem dptTold {B : Bks} {L : List Int} (ok : EdOk B L) : Dpt 6 (toldD B L) := by
  have l4 := ok.l4
  have ll := ok.ll
  refine .inr (.inr (.inr ⟨_, by show 2 ≤ 1000; decide, fun x hx => ?_, .inr rfl⟩))
  simp only [List.mem_cons, List.not_mem_nil, or_false] at hx
  rcases hx with rfl | rfl
  · refine .inr (.inr (.inr ⟨_, by rw [List.length_map]; have := ok.bk.l1; omega, fun x hx => ?_, .inr rfl⟩))
    obtain ⟨b, hb, rfl⟩ := List.mem_map.mp hx
    refine .inr (.inr (.inr ⟨_, by show 2 ≤ 1000; decide, fun x hx => ?_, .inr rfl⟩))
    simp only [List.mem_cons, List.not_mem_nil, or_false] at hx
    rcases hx with rfl | rfl
    · exact .inr (.inr (.inl ⟨_, rfl⟩))
    · refine .inr (.inr (.inr ⟨_, by rw [List.length_map]; have := (ok.bk.ch b hb).2.1; omega, fun x hx => ?_, .inr rfl⟩))
      obtain ⟨c, hc, rfl⟩ := List.mem_map.mp hx
      refine .inr (.inr (.inr ⟨_, by rw [List.length_map]; have := ((ok.bk.ch b hb).2.2 c hc).l1; omega, fun x hx => ?_, .inr rfl⟩))
      obtain ⟨m, hm, rfl⟩ := List.mem_map.mp hx
      exact .inr (.inl ⟨_, rfl⟩)
  · refine .inr (.inr (.inr ⟨_, by
      rw [List.length_map]
      have h1 : (fewest L).length ≤ 0 + L.length := fewest_len L []
      omega, fun x hx => ?_, .inr rfl⟩))
    obtain ⟨s, hs, rfl⟩ := List.mem_map.mp hx
    refine .inr (.inr (.inr ⟨_, by show 2 ≤ 1000; decide, fun x hx => ?_, .inr rfl⟩))
    simp only [List.mem_cons, List.not_mem_nil, or_false] at hx
    rcases hx with rfl | rfl
    · exact .inr (.inl ⟨_, rfl⟩)
    · exact .inr (.inl ⟨_, rfl⟩)
theorem dptInts {n : Nat} {L : List Int} (h : L.length ≤ 1000) : Dpt (n + 2) (.list (L.map PyData.int)) := .inr (.inr (.inr ⟨_, by rw [List.length_map]; exact h, fun x hx => by
  obtain ⟨z, _, rfl⟩ := List.mem_map.mp hx
  exact .inr (.inl ⟨_, rfl⟩), .inl rfl⟩))
def sp_rightD (C : Addr) : Sp := fun vs H Q _ => ∃ (S S0 S1 : Av) (e : Addr) (v : V) (tl : Addr) (cv : V) (cell : Int) (B : Bks) (L : List Int) (x : C4), vs = [.ref e, v, .ref tl, cv, .int cell] ∧ Occ S H ∧ EdAt S H C e B L ∧ EdOk B L ∧ At S0 H v (bksLD B) ∧ H tl = some (.lst (L.map V.int)) ∧ At S1 H cv (c4D x) ∧ GoodCh B x ∧ ∀ H', Same H H' → Q (.bl true) H'
section
variable {P : Program} {w : World} {K : PySem.W.Frag} {mg : Str → Option Value} {base : Heap}
theorem ok_rightD {C : Addr} (T : Txt K mg) (c__law_divide : Cl P w K mg base 3 "_law_divide" ["books", "choice", "cell"] sp_divide) (c__law_asked : Cl P w K mg base 10 "_law_asked" ["edition", "deed", "cell"] (sp_askedD C)) (m_told : C8.Met P w K mg base 3 C "told" (sp_told C) []) (c__law_told : Cl P w K mg base 2 "_law_told" ["books", "threads"] sp_toldT)
    (c__law_alike : Cl P w K mg base 7 "_law_alike" ["found", "due"] (sp_alike 6)) (m_lines : C8.Met P w K mg base 2 C "lines" (sp_lines C) []) (c__law_edition : Cl P w K mg base 8 "_law_edition" ["books", "threads", "way"] (sp_edL C)) (m_same : C8.Met P w K mg base 4 C "same" (sp_same C) [])
    (c_merged : Cl P w K mg base 9 "merged" ["edition", "spot"] (sp_mer C)) (c_divided_A : ClD P w K mg base 9 "divided" [] (sp_div C)) (D : Df K mg "_law_right" s__law_right ["edition", "books", "threads", "choice", "cell"]) : Cl P w K mg base 11 "_law_right" ["edition", "books", "threads", "choice", "cell"] (sp_rightD C) := by
  refine ok_of D sc__law_right (fun vs H Q E h => ?_) (fun f cdv A outer s H vs Q E hr h => ?_)
  · obtain ⟨S, S0, S1, e, v, tl, cv, cell, B, L, x, rfl, _⟩ := h
    rfl
  · obtain ⟨S, S0, S1, e, v, tl, cv, cell, B, L, x, rfl, ho, he, ok, hv, htl, hcv, gd, q⟩ := h
    refine ⟨_, (pss_cons (ps_asg (pe_cl c__law_divide hr (by decide) (by rfl) (pa_cons (pv 1) (pa_cons (pv 3) (pa_cons (pv 4) pa_nil)))) (pg_tup rfl (pgs_cons (pg_name (i := 5) sc__law_right.nd rfl (.inl rfl)) (pgs_cons (pg_name (i := 6) sc__law_right.nd rfl (.inl rfl)) pgs_nil))))
      (pss_cons (ps_set (i := 7) sc__law_right.nd rfl (.inl rfl) (pe_cl c__law_asked hr (by decide) (by rfl) (pa_cons (pv 0) (pa_cons (pv 5) (pa_cons (pe_op op_fdiv (pv 4) pe_int) pa_nil)))))
      (pss_cons (ps_if (PW.pt (pw_or (pt_not (pt_val (pe_cl c__law_alike hr (by decide) (by rfl) (pa_cons (C8.pe_mt0 m_told hr (by decide) (pv 7)) (pa_cons (pe_cl c__law_told hr (by decide) (by rfl) (pa_cons (pv 6) (pa_cons (pv 2) pa_nil))) pa_nil))))) (pw_or1 (pt_not (pt_val (pe_cl c__law_alike hr (by decide) (by rfl) (pa_cons (C8.pe_mt0 m_lines hr (by decide) (pv 7)) (pa_cons (pv 2) pa_nil)))))))) (pss_one (ps_ret pe_bl)) pss_nil)
      (pss_cons (ps_if (pt_not (pt_val (C8.pe_mt m_same hr (by decide) (pv 7) (pa_cons (pe_cl c__law_edition hr (by decide) (by rfl) (pa_cons (pv 6) (pa_cons (pv 2) (pa_cons (pv 4) pa_nil)))) pa_nil)))) (pss_one (ps_ret pe_bl)) pss_nil)
      (pss_cons (ps_if (pt_cmpR op_eq (pe_ix ix_tup (pv 5) pe_int (fun _ _ => rfl)) pe_str (nomark _)) (pss_one (ps_ret (pe_cl c__law_alike hr (by decide) (by rfl) (pa_cons (C8.pe_mt0 m_told hr (by decide) (pe_cl c_merged hr (by decide) (by rfl) (pa_cons (pv 7) (pa_cons (pe_ix ix_tup (pv 5) pe_int (fun _ _ => rfl)) pa_nil)))) (pa_cons (pe_cl c__law_told hr (by decide) (by rfl) (pa_cons (pv 1) (pa_cons (pv 2) pa_nil))) pa_nil))))) pss_nil)
      (pss_cons (ps_set (i := 8) sc__law_right.nd rfl (.inl rfl) (pe_ix ix_list (pe_ix ix_list (pe_ix ix_tup (pe_ix ix_list (pv 1) (pe_ix ix_tup (pv 3) pe_int (fun _ _ => rfl)) (fun _ _ => rfl)) pe_int (fun _ _ => rfl)) (pe_ix ix_tup (pv 3) pe_int (fun _ _ => rfl)) (fun _ _ => rfl)) (pe_ix ix_tup (pv 3) pe_int (fun _ _ => rfl)) (fun _ _ => rfl)))
      (pss_one (ps_ret (pe_cl c__law_alike hr (by decide) (by rfl) (pa_cons (C8.pe_mt0 m_told hr (by decide) (pe_clD c_divided_A hr (by decide) (by rfl) (pa_cons (pv 7) (pa_cons (pe_ix ix_tup (pv 5) pe_int (fun _ _ => rfl)) (pa_cons (pv 8) pa_nil))))) (pa_cons (pe_cl c__law_told hr (by decide) (by rfl) (pa_cons (pv 1) (pa_cons (pv 2) pa_nil))) pa_nil))))))))))), ?_⟩
    have ll := ok.ll
    have l4 := ok.l4
    conv in (_root_.L2.start _ _) => change [some (V.ref e), some (v), some (V.ref tl), some (cv), some (V.int cell), none, none, none, none]
    refine ⟨_, rfl, _, rfl, _, rfl, S, S0, S1, v, cv, cell, B, x, rfl, ho, hv, ok.bk, hcv, gd, fun t d o b c m B' H1 S1' ht et hb hc hm dd a2 => ⟨t, _, rfl, .inl (.inl et), rfl, _, _, rfl, _, _, rfl, rfl, ?_⟩⟩
    try conv in (List.set _ _ _) => simp only [List.set]
    have ok' := dd.ok ok hb hc hm
    have ll' := ok'.ll
    have l4' := ok'.l4
    have he1 := he.bt (Same.btS S1')
    have o1 := ho.same S1'
    refine ⟨_, rfl, _, rfl, _, rfl, cell, 3, rfl, rfl, ⟨by decide, by decide⟩, S, e, d, cell / 3, B, L, x.i, b, x.j, c, x.k, m, B', rfl, o1, he1, ok, hb, hc, hm, dd, fun e2 H2 S2 he2 ed2 => ?_⟩
    try conv in (List.set _ _ _) => simp only [List.set]
    have S02 := S1'.trans S2
    have o2 := o1.same S2
    obtain ⟨w2, hw2⟩ := id ed2
    refine ⟨_, rfl, e2, _, _, rfl, hw2.at_, rfl, S, e2, B', L, rfl, o2, ed2, by omega, fun tv H3 S3 atv => ?_⟩
    have S03 := S02.trans S3
    refine ⟨_, rfl, _, rfl, S, S, .ref o, tl, B', L, rfl, o2.same S3, At.same a2 (S2.trans S3), ok'.bk.l1, fun b hb => by have := (ok'.bk.ch b hb).2.1; omega, S03 _ _ htl, by omega, fun dv H4 S4 adv => ?_⟩
    refine ⟨S, S, tv, dv, toldD B' L, rfl, At.same atv S4, adv, dptTold ok', fun H5 S5 => ⟨_, rfl, ite2 (fun z => absurd z (by decide)) fun _ => ?_⟩⟩
    have S25 := S3.trans (S4.trans S5)
    have S05 := S02.trans S25
    have ed5 := ed2.bt (Same.btS S25)
    obtain ⟨w5, hw5⟩ := id ed5
    refine ⟨_, rfl, e2, _, _, rfl, hw5.at_, rfl, S, e2, B', L, rfl, ed5, fun nl hnl => ?_⟩
    have S6 := same_new (o := .lst (L.map V.int)) hnl
    refine ⟨_, rfl, fun _ => False, fun _ => False, .ref nl, .ref tl, .list (L.map .int), rfl, .lst (fun z => z) upd_same (AtAll.ints L), .lst (fun z => z) ((S05.trans S6) _ _ htl) (AtAll.ints L), dptInts (by omega), fun H7 S7 => ⟨_, rfl, ite2 (fun z => absurd z (by decide)) fun _ => ?_⟩⟩
    have S27 := S25.trans (S6.trans S7)
    have S07 := S02.trans S27
    have ed7 := ed2.bt (Same.btS S27)
    obtain ⟨w7, hw7⟩ := id ed7
    refine ⟨_, rfl, e2, _, _, rfl, hw7.at_, rfl, _, rfl, _, rfl, _, rfl, S, S, .ref o, tl, L, B', cell, rfl, o2.same S27, At.same a2 (S2.trans S27), ok'.bk, l4', S07 _ _ htl, ll', ok'.nd, ok'.ln, fun e3 H8 S8 he3 ed3 => ?_⟩
    refine ⟨S, e2, e3, B', B', L, L, rfl, (o2.same S27).same S8, ed7.bt (Same.btS S8), ed3, by omega, by omega, ok'.bk.nm, ok'.bk.nm, fun H9 S9 => ?_⟩
    rw [show PyData.eqv (toldD B' L) (toldD B' L) = true from by rw [eqv_told B' ok'.bk.nm]; exact decide_eq_true rfl]
    refine ⟨_, rfl, ite2 (fun z => absurd z (by decide)) fun _ => ?_⟩
    have S29 := S27.trans (S8.trans S9)
    have S09 := S02.trans S29
    have ed9 := ed2.bt (Same.btS S29)
    have o9 := o2.same S29
    have dd9 := dd.same (S2.trans S29)
    have li : x.i < B.length := (List.getElem?_eq_some_iff.mp hb).1
    have lj : x.j < b.2.length := (List.getElem?_eq_some_iff.mp hc).1
    have okr := (ok.bk.ch b (List.mem_of_getElem? hb)).2.2 c (List.mem_of_getElem? hc)
    have l30 := okr.l1
    have xm := okr.x m (List.mem_of_getElem? hm)
    have lch : ∀ b ∈ B, b.2.length ≤ 40 := fun b hb => by have := (ok.bk.ch b hb).2.1; omega
    clear hw2 hw5 hw7 et a2 dd
    cases dd9 with
    | div sp f h1 h2 h3 h4 h5 =>
      obtain ⟨k1, k2, k3⟩ := div_at (f := f) hm
      refine ⟨_, rfl, d, _, 0, .str "divide", rfl, rfl, .inl (.inl h1), atI_nat (j := 0) rfl, rfl, _, rfl, ite2 (fun _ => ?_) (fun z => absurd (decide_eq_true rfl) z)⟩
      refine ⟨_, rfl, _, rfl, d, _, 1, .ref sp, rfl, rfl, .inl (.inl h1), atI_nat (j := 1) rfl, S, e2, sp, _, L, x.i, _, x.j, divR c x.k m f, x.k, f, m - f, rfl, o9, ed9, ok', List.getElem?_set_self li, List.getElem?_set_self lj, k1, k2, h2, by omega, fun e4 HA SA he4 _ ed4 => ?_⟩
      rw [show (divR c x.k m f).take x.k ++ [f + (m - f)] ++ (divR c x.k m f).drop (x.k + 2) = c from k3, set_back hb hc] at ed4
      obtain ⟨w4, hw4⟩ := id ed4
      refine ⟨e4, _, _, rfl, hw4.at_, rfl, S, e4, B, L, rfl, o9.same SA, ed4, by omega, fun tv HB SB atv => ?_⟩
      have S0B := S09.trans (SA.trans SB)
      refine ⟨_, rfl, _, rfl, S, S0, v, tl, B, L, rfl, (o9.same SA).same SB, At.same hv S0B, ok.bk.l1, lch, S0B _ _ htl, by omega, fun dv HC SC adv => ?_⟩
      exact ⟨S, S, tv, dv, toldD B L, rfl, At.same atv SC, adv, dptTold ok, fun HD SD => q HD (S0B.trans (SC.trans SD))⟩
    | mer sp m2 h1 h2 h3 h4 =>
      obtain ⟨k1, k2, k3⟩ := mer_at hm h3
      obtain ⟨ct, rfl, nct, ect⟩ := hcv.c4
      obtain ⟨a, xs, rfl, na, ea, ka⟩ := hv.bksL
      obtain ⟨xv, hxv⟩ : ∃ xv, xs[x.i]? = some xv := ⟨_, List.getElem?_eq_getElem (by rw [ka.len, List.length_map]; exact li)⟩
      obtain ⟨b0, hb0, hbv⟩ := ka.at_ hxv
      rw [hb] at hb0
      cases hb0
      obtain ⟨ab, ac, zs, rfl, nb, eb, nc, ec, kz⟩ := hbv.bkL
      obtain ⟨zv, hzv⟩ : ∃ zv, zs[x.j]? = some zv := ⟨_, List.getElem?_eq_getElem (by rw [kz.len, List.length_map]; exact lj)⟩
      obtain ⟨c0, hc0, hcv0⟩ := kz.at_ hzv
      rw [hc] at hc0
      cases hc0
      obtain ⟨ad, rfl, nd, ead⟩ := hcv0.row
      have xm2 := okr.x m2 (List.mem_of_getElem? h3)
      refine ⟨_, rfl, d, _, 0, .str "merge", rfl, rfl, .inl (.inl h1), atI_nat (j := 0) rfl, rfl, _, rfl, ite2 (fun z => absurd z (by decide)) (fun _ => ?_)⟩
      refine ⟨_, rfl, _, rfl, ct, _, 1, .int (x.i : Nat), rfl, rfl, .inl (.inl (S09 _ _ ect)), atI_nat (j := 1) rfl, a, _, _, .ref ab, rfl, rfl, .inl (.inl (S09 _ _ ea)), atI_nat (j := x.i) hxv, ab, _, 1, .ref ac, rfl, rfl, .inl (.inl (S09 _ _ eb)), atI_nat (j := 1) rfl, _, rfl, ct, _, 2, .int (x.j : Nat), rfl, rfl, .inl (.inl (S09 _ _ ect)), atI_nat (j := 2) rfl, ac, _, _, .ref ad, rfl, rfl, .inl (.inl (S09 _ _ ec)), atI_nat (j := x.j) hzv, _, rfl, ct, _, 3, .int (x.k : Nat), rfl, rfl, .inl (.inl (S09 _ _ ect)), atI_nat (j := 3) rfl, ad, _, _, .int m, rfl, rfl, .inl (.inl (S09 _ _ ead)), atI_nat (j := x.k) (by rw [List.getElem?_map, hm]; rfl), ?_⟩
      try conv in (List.set _ _ _) => simp only [List.set]
      refine ⟨_, rfl, _, rfl, d, _, 1, .ref sp, rfl, rfl, .inl (.inl h1), atI_nat (j := 1) rfl, _, rfl, S, e2, sp, _, L, x.i, _, x.j, merR c x.k m m2, x.k, m + m2, m, rfl, o9, ed9, ok', List.getElem?_set_self li, List.getElem?_set_self lj, k1, h2, by omega, by omega, by omega, fun e4 HA SA he4 _ ed4 => ?_⟩
      rw [show (merR c x.k m m2).take x.k ++ [m, m + m2 - m] ++ (merR c x.k m m2).drop (x.k + 1) = c from k2, set_back hb hc] at ed4
      obtain ⟨w4, hw4⟩ := id ed4
      refine ⟨e4, _, _, rfl, hw4.at_, rfl, S, e4, B, L, rfl, o9.same SA, ed4, by omega, fun tv HB SB atv => ?_⟩
      have S0B := S09.trans (SA.trans SB)
      refine ⟨_, rfl, _, rfl, S, S0, .ref a, tl, B, L, rfl, (o9.same SA).same SB, At.same hv S0B, ok.bk.l1, lch, S0B _ _ htl, by omega, fun dv HC SC adv => ?_⟩
      exact ⟨S, S, tv, dv, toldD B L, rfl, At.same atv SC, adv, dptTold ok, fun HD SD => q HD (S0B.trans (SC.trans SD))⟩
end
end My
set_option Elab.async false
set_option linter.all false
set_option maxRecDepth 100000
set_option maxHeartbeats 4000000
namespace My
open PySem PySem.Spec PyProof.Rows L2
/-! L19: the law k37. -/
abbrev NA : Av := fun _ => False
theorem occN (H : Hp) : Occ NA H := fun _ z => z.elim
theorem cut_ints (ns : List Int) (i j : Option Int) : ∃ cs : List Int, cutV (ns.map V.int) i j = cs.map V.int ∧ cs.length ≤ ns.length := by
  refine ⟨(ns.drop (HT.sIx (ns.map V.int).length 0 i)).take (HT.sIx (ns.map V.int).length (ns.map V.int).length j - HT.sIx (ns.map V.int).length 0 i), ?_, ?_⟩
  · unfold cutV
    rw [List.map_take, List.map_drop]
  · rw [List.length_take, List.length_drop]
    omega
theorem dp_c4 {K : PySem.W.Frag} {S : Av} {H : Hp} {l : Addr} {rows : List V} {cs : List C4} (h : H l = some (.lst rows)) (a : AtAll S H rows (cs.map c4D)) : Dp K H (.ref l) (.list (cs.map c4D)) := At.dp _ _ (.lst (p := fun _ => False) (fun z => z) h (AtAll.weak (fun _ z => z.elim) _ _ a))
theorem shaped_c4 (cs : List C4) : SeqAt.shaped (.list (cs.map c4D)) = true := by
  unfold SeqAt.shaped
  rw [Bool.and_eq_true]
  refine ⟨lay_map _ cs fun x _ => rfl, decide_eq_true ?_⟩
  have h := dep_map c4D 1 cs fun x _ => Nat.le_refl _
  show PyData.depthAll _ + 1 ≤ 64
  omega
/-- what stands while the law asks -/
structure W37 (K : PySem.W.Frag) (C a b1 t1 e cl : Addr) (dv : V) (ns : List Int) (B : Bks) (L : List Int) (rows : List V) (cs : List C4) (H : Hp) : Prop where
  qs : SqL K H a (ns.map V.int)
  qb : At NA H (.ref b1) (bksLD B)
  qt : H t1 = some (.lst (L.map V.int))
  qe : EdAt NA H C e B L
  qc : H cl = some (.lst rows)
  qa : AtAll NA H rows (cs.map c4D)
  qd : At NA H dv (toldD B L)
theorem W37.same {K : PySem.W.Frag} {C a b1 t1 e cl : Addr} {dv : V} {ns : List Int} {B : Bks} {L : List Int} {rows : List V} {cs : List C4} {H H' : Hp} (h : W37 K C a b1 t1 e cl dv ns B L rows cs H) (z : Same H H') : W37 K C a b1 t1 e cl dv ns B L rows cs H' :=
  ⟨z.seq h.qs, At.same h.qb z, z _ _ h.qt, h.qe.bt (Same.btS z), z _ _ h.qc, AtAll.same h.qa z, At.same h.qd z⟩
def sp_law (K : PySem.W.Frag) : Sp := fun vs H Q _ => ∃ (a : Addr) (ns : List Int), vs = [.ref a] ∧ SqL K H a (ns.map V.int) ∧ ns.length ≤ 63 ∧ ∀ H', Q (.bl true) H'
abbrev LV : Nat := 12
section
variable {P : Program} {w : World} {K : PySem.W.Frag} {mg : Str → Option Value} {base : Heap}
theorem ok_law {C f : Addr} {fd : FuncData} (T : Txt K mg) (F : Fun K "law" "law" s_law f fd)
    (c__law_cell_at : Cl P w K mg base 2 "_law_cell_at" ["script", "k"] (sp_cellAt K)) (c__law_one : Cl P w K mg base 4 "_law_one" ["script"] (sp_one K)) (c__law_edition : Cl P w K mg base 8 "_law_edition" ["books", "threads", "way"] (sp_edL C)) (c__law_divisions : Cl P w K mg base 2 "_law_divisions" ["books"] sp_divisions)
    (c__law_told : Cl P w K mg base 2 "_law_told" ["books", "threads"] sp_toldT) (c__law_alike : Cl P w K mg base 7 "_law_alike" ["found", "due"] (sp_alike 6)) (m_told : C8.Met P w K mg base 3 C "told" (sp_told C) []) (c__law_right : Cl P w K mg base 11 "_law_right" ["edition", "books", "threads", "choice", "cell"] (sp_rightD C))
    (c__law_divide : Cl P w K mg base 3 "_law_divide" ["books", "choice", "cell"] sp_divide) (c__law_asked : Cl P w K mg base 10 "_law_asked" ["edition", "deed", "cell"] (sp_askedD C)) (c__law_kept : Cl P w K mg base 8 "_law_kept" ["edition", "threads"] (sp_keptD C)) : FnG P w K mg base LV f fd ["script"] (sp_law K) := by
  refine fun_okG F sc_law (fun vs H Q E h => ?_) (fun cdv A outer s H vs Q E hr gd h => ?_)
  · obtain ⟨a, ns, rfl, _⟩ := h
    rfl
  · obtain ⟨a, ns, rfl, hS, hlen, q⟩ := h
    refine ⟨_, (pss_cons (ps_asg (pe_cl c__law_one hr (by decide) (by rfl) (pa_cons (pv 0) pa_nil)) (pg_tup rfl (pgs_cons (pg_name (i := 1) sc_law.nd rfl (.inl rfl)) (pgs_cons (pg_name (i := 2) sc_law.nd rfl (.inl rfl)) pgs_nil))))
      (pss_cons (ps_set (i := 3) sc_law.nd rfl (.inl rfl) (pe_cl c__law_edition hr (by decide) (by rfl) (pa_cons (pv 1) (pa_cons (pv 2) (pa_cons (pe_cl c__law_cell_at hr (by decide) (by rfl) (pa_cons (pv 0) (pa_cons pe_int pa_nil))) pa_nil)))))
      (pss_cons (ps_set (i := 4) sc_law.nd rfl (.inl rfl) (pe_cl c__law_divisions hr (by decide) (by rfl) (pa_cons (pv 1) pa_nil)))
      (pss_cons (ps_set (i := 5) sc_law.nd rfl (.inl rfl) (pe_cl c__law_told hr (by decide) (by rfl) (pa_cons (pv 1) (pa_cons (pv 2) pa_nil))))
      (pss_cons (ps_if (pt_cmpR (op_eqD hr.units) (pv 4) (pe_lst pa_nil) (nomark _)) (pss_one (ps_ret (pe_cl c__law_alike hr (by decide) (by rfl) (pa_cons (C8.pe_mt0 m_told hr (by decide) (pv 3)) (pa_cons (pv 5) pa_nil))))) pss_nil)
      (pss_cons (ps_for PassesOwn.never rfl (pi_list (pe_slice sl_list (pv 0) (po_some pe_int) (po_some pe_int))) (pg_name (i := 6) sc_law.nd rfl (.inl rfl))
        (pss_cons (ps_set (i := 7) sc_law.nd rfl (.inl rfl) (pe_ix ix_list (pv 4) (pe_op op_mod (pv 6) (pe_callB call_len (by rfl) T.b_len (by decide +kernel) (pa_cons (pv 4) pa_nil))) (fun _ _ => rfl)))
        (pss_cons (ps_if (pt_not (pt_val (pe_cl c__law_right hr (by decide) (by rfl) (pa_cons (pv 3) (pa_cons (pv 1) (pa_cons (pv 2) (pa_cons (pv 7) (pa_cons (pe_op op_fdiv (pv 6) (pe_callB call_len (by rfl) T.b_len (by decide +kernel) (pa_cons (pv 4) pa_nil))) pa_nil)))))))) (pss_one (ps_ret pe_bl)) pss_nil)
        (pss_one (ps_if (pt_not (pt_val (pe_cl c__law_alike hr (by decide) (by rfl) (pa_cons (C8.pe_mt0 m_told hr (by decide) (pv 3)) (pa_cons (pv 5) pa_nil))))) (pss_one (ps_ret pe_bl)) pss_nil)))))
      (pss_cons (ps_if (pt_not (pt_val (pe_cl c__law_right hr (by decide) (by rfl) (pa_cons (pv 3) (pa_cons (pv 1) (pa_cons (pv 2) (pa_cons (pe_ix ix_list (pv 4) (pe_un un_neg pe_int) (fun _ _ => rfl)) (pa_cons pe_int pa_nil)))))))) (pss_one (ps_ret pe_bl)) pss_nil)
      (pss_cons (ps_asg (pe_cl c__law_divide hr (by decide) (by rfl) (pa_cons (pv 1) (pa_cons (pe_ix ix_list (pv 4) pe_int (fun _ _ => rfl)) (pa_cons pe_int pa_nil)))) (pg_tup rfl (pgs_cons (pg_name (i := 8) sc_law.nd rfl (.inl rfl)) (pgs_cons (pg_name (i := 9) sc_law.nd rfl (.inl rfl)) pgs_nil))))
      (pss_one (ps_ret (pe_and (pe_cl c__law_kept hr (by decide) (by rfl) (pa_cons (pe_cl c__law_asked hr (by decide) (by rfl) (pa_cons (pv 3) (pa_cons (pv 8) (pa_cons pe_int pa_nil)))) (pa_cons (pv 2) pa_nil))) (pe_one (pe_cl c__law_kept hr (by decide) (by rfl) (pa_cons (pv 3) (pa_cons (pv 2) pa_nil))))))))))))))), ?_⟩
    conv in (_root_.L2.start _ _) => change [some (V.ref a), none, none, none, none, none, none, none, none, none]
    refine ⟨.ref a, rfl, NA, a, ns, rfl, occN _, hS, fun t b1 t1 B L H1 S1 ht et a1 f1 k1 bt1 => ⟨t, _, rfl, .inl (.inl et), rfl, _, _, rfl, _, _, rfl, rfl, ?_⟩⟩
    try conv in (List.set _ _ _) => simp only [List.set]
    have ll := k1.ll
    have l4 := k1.l4
    refine ⟨_, rfl, _, rfl, _, rfl, a, ns, 3, rfl, S1.seq hS, by decide, fun way => ?_⟩
    refine ⟨NA, NA, .ref b1, t1, L, B, way, rfl, occN _, a1, k1.bk, l4, f1, ll, k1.nd, k1.ln, fun e H2 S2 he d1 => ?_⟩
    try conv in (List.set _ _ _) => simp only [List.set]
    refine ⟨_, rfl, NA, NA, .ref b1, B, rfl, occN _, At.same a1 S2, k1.bk, fun cl rows cs H3 S3 hcl ecl ac lcs gcs => ?_⟩
    try conv in (List.set _ _ _) => simp only [List.set]
    have S13 := S2.trans S3
    have lch : ∀ b ∈ B, b.2.length ≤ 40 := fun b hb => by have := (k1.bk.ch b hb).2.1; omega
    refine ⟨_, rfl, _, rfl, NA, NA, .ref b1, t1, B, L, rfl, occN _, At.same a1 S13, k1.bk.l1, lch, S13 _ _ f1, by omega, fun dv H4 S4 adv => ?_⟩
    try conv in (List.set _ _ _) => simp only [List.set]
    have S14 := S13.trans S4
    have W4 : W37 K C a b1 t1 e cl dv ns B L rows cs H4 := ⟨S14.seq (S1.seq hS), At.same a1 S14, S14 _ _ f1, d1.bt (Same.btS (S3.trans S4)), S4 _ _ ecl, AtAll.same ac S4, adv⟩
    clear S1 S2 S3 S4 S13 S14 a1 f1 d1 ecl ac adv et hS ht he hcl
    have lrows : rows.length = cs.length := by rw [W4.qa.len, List.length_map]
    -- none to choose
    refine ⟨_, rfl, Nat.zero_le _, fun n0 hn0 => ?_⟩
    have W5 := W4.same (same_new (o := .lst []) hn0)
    refine ⟨_, .list [], dp_c4 W5.qc W5.qa, .lst (.inl (.inl upd_same)) .nil, shaped_c4 _, by decide +kernel, _, rfl, ?_⟩
    generalize upd H4 n0 (.lst []) = H5 at W5 ⊢
    clear W4 hn0
    cases hcs : cs with
    | nil =>
      refine ite2 (fun _ => ?_) (fun z => absurd rfl z)
      obtain ⟨we, hwe⟩ := id W5.qe
      refine ⟨_, rfl, e, _, _, rfl, hwe.at_, rfl, NA, e, B, L, rfl, occN _, W5.qe, by omega, fun tv H6 S6 atv => ?_⟩
      exact ⟨_, rfl, NA, NA, tv, dv, toldD B L, rfl, atv, At.same W5.qd S6, dptTold k1, fun H7 S7 => q H7⟩
    | cons c0 cr =>
      refine ite2 (fun z => absurd z Bool.false_ne_true) (fun _ => ?_)
      have lpos : 1 ≤ cs.length := by rw [hcs, List.length_cons]; omega
      have pick : ∀ (i : Nat), i < cs.length → ∃ cv x, rows[i]? = some cv ∧ cs[i]? = some x ∧ GoodCh B x ∧ ∀ {H' : Hp}, W37 K C a b1 t1 e cl dv ns B L rows cs H' → At NA H' cv (c4D x) := fun i hi => by
        obtain ⟨cv, hcv⟩ : ∃ cv, rows[i]? = some cv := ⟨_, List.getElem?_eq_getElem (by omega)⟩
        obtain ⟨x, hx⟩ : ∃ x, cs[i]? = some x := ⟨_, List.getElem?_eq_getElem hi⟩
        refine ⟨cv, x, hcv, hx, gcs x (List.mem_of_getElem? hx), fun {H'} W => ?_⟩
        obtain ⟨d, hd, ha⟩ := W.qa.get hcv
        rw [List.getElem?_map, hx] at hd
        cases hd
        exact ha
      obtain ⟨zs, hzs, lzs⟩ := cut_ints ns (some 3) (some 33)
      refine ⟨_, rfl, 3, rfl, 33, rfl, a, _, rfl, W5.qs, fun zl hzl => ?_⟩
      rw [hzs]
      have W6 := W5.same (same_new (o := .lst (zs.map V.int)) hzl)
      have ezl := upd_same (H := H5) (a := zl) (o := .lst (zs.map V.int))
      generalize upd H5 zl (.lst (zs.map V.int)) = H6 at W6 ezl ⊢
      refine ⟨zl, rfl, ⟨_, .inl (.inl ezl)⟩, for_it (walk_list (xs := zs.map V.int)) (fun i σ H' => ∃ (t7 t8 : Option V), σ = [some (.ref a), some (.ref b1), some (.ref t1), some (.ref e), some (.ref cl), some dv, t7, t8, none, none] ∧ Same H6 H') ⟨_, _, rfl, Same.refl _⟩ (fun i σ H' _ ⟨_, _, _, z⟩ => .inl (.inl (z _ _ ezl))) ?_ ?_⟩
      · rintro i y0 σ H7x H7 hi ⟨t7, t8, rfl, S7⟩ ⟨rfl, hy0⟩
        rw [List.getElem?_map] at hy0
        obtain ⟨z, hz, rfl⟩ := Option.map_eq_some_iff.mp hy0
        have W7 := W6.same S7
        try conv in (List.set _ _ _) => simp only [List.set]
        have m0 := Int.emod_nonneg z (show ((cs.length : Nat) : Int) ≠ 0 by omega)
        have m1 := Int.emod_lt_of_pos z (show (0 : Int) < ((cs.length : Nat) : Int) by omega)
        obtain ⟨cv, x, hcv, hx, gx, hat⟩ := pick (z % ((cs.length : Nat) : Int)).toNat (by omega)
        refine ⟨_, rfl, _, rfl, _, rfl, _, rows.length, rfl, .inl ⟨_, .inl (.inl W7.qc), rfl⟩, z, (rows.length : Nat), rfl, rfl, (by show (0 : Int) < (rows.length : Nat); omega), cl, _, _, cv, rfl, rfl, .inl (.inl W7.qc), at_of (j := (z % ((cs.length : Nat) : Int)).toNat) (by rw [lrows]; omega) hcv, ?_⟩
        try conv in (List.set _ _ _) => simp only [List.set]
        refine ⟨_, rfl, _, rfl, _, rfl, _, rfl, _, rfl, _, rfl, _, rows.length, rfl, .inl ⟨_, .inl (.inl W7.qc), rfl⟩, z, (rows.length : Nat), rfl, rfl, ⟨by show (0 : Int) < (rows.length : Nat); omega, Int.lt_of_le_of_lt (show ((rows.length : Nat) : Int) ≤ 10000 by omega) (by decide)⟩, NA, NA, NA, e, .ref b1, t1, cv, _, B, L, x, rfl, occN _, W7.qe, k1, W7.qb, W7.qt, hat W7, gx, fun H8 S8 => ⟨_, rfl, ite2 (fun z => absurd z (by decide)) fun _ => ?_⟩⟩
        have W8 := W7.same S8
        obtain ⟨we, hwe⟩ := id W8.qe
        refine ⟨_, rfl, e, _, _, rfl, hwe.at_, rfl, NA, e, B, L, rfl, occN _, W8.qe, by omega, fun tv H9 S9 atv => ?_⟩
        exact ⟨_, rfl, NA, NA, tv, dv, toldD B L, rfl, atv, At.same W8.qd S9, dptTold k1, fun HA SA => ⟨_, rfl, ite2 (fun z => absurd z (by decide)) fun _ => ⟨_, _, rfl, S7.trans (S8.trans (S9.trans SA))⟩⟩⟩
      · rintro σ H7 ⟨t7, t8, rfl, S7⟩
        have W7 := W6.same S7
        obtain ⟨cv, x, hcv, hx, gx, hat⟩ := pick (cs.length - 1) (by omega)
        refine ⟨_, rfl, _, rfl, _, rfl, _, rfl, _, rfl, cl, _, -1, cv, rfl, rfl, .inl (.inl W7.qc), ?_, NA, NA, NA, e, .ref b1, t1, cv, 0, B, L, x, rfl, occN _, W7.qe, k1, W7.qb, W7.qt, hat W7, gx, fun H8 S8 => ⟨_, rfl, ite2 (fun z => absurd z (by decide)) fun _ => ?_⟩⟩
        · have e1 : rows = rows.take (cs.length - 1) ++ [cv] := by
            have hk : cs.length - 1 < rows.length := by omega
            have ee := List.take_append_drop (cs.length - 1) rows
            rw [List.drop_eq_getElem_cons hk, (List.getElem?_eq_some_iff.mp hcv).2, List.drop_of_length_le (by omega)] at ee
            exact ee.symm
          rw [e1]
          exact atI_last _ _
        have W8 := W7.same S8
        obtain ⟨cv0, x0, hcv0, hx0, gx0, hat0⟩ := pick 0 (by omega)
        refine ⟨_, rfl, _, rfl, cl, _, 0, cv0, rfl, rfl, .inl (.inl W8.qc), atI_nat (j := 0) hcv0, NA, NA, NA, .ref b1, cv0, 0, B, x0, rfl, occN _, W8.qb, k1.bk, hat0 W8, gx0, fun t d o b c m B' H9 S9 ht et hb hc hm dd a2 => ⟨t, _, rfl, .inl (.inl et), rfl, _, _, rfl, _, _, rfl, rfl, ?_⟩⟩
        try conv in (List.set _ _ _) => simp only [List.set]
        have W9 := W8.same S9
        refine ⟨_, rfl, _, rfl, NA, e, d, 1, B, L, x0.i, b, x0.j, c, x0.k, m, B', rfl, occN _, W9.qe, k1, hb, hc, hm, dd, fun e2 HA SA he2 ed2 => ?_⟩
        have WA := W9.same SA
        refine ⟨_, rfl, NA, e2, t1, B', L, rfl, occN _, ed2, dd.ok k1 hb hc hm, bt1, WA.qt, fun HB SB => ?_⟩
        have WB := WA.same SB
        refine ⟨_, rfl, ite2 (fun _ => ?_) (fun z => absurd rfl z)⟩
        exact ⟨_, rfl, _, rfl, NA, e, t1, B, L, rfl, occN _, WB.qe, k1, bt1, WB.qt, fun HC SC => q HC⟩
end
end My
set_option Elab.async false
set_option linter.all false
set_option maxRecDepth 100000
set_option maxHeartbeats 4000000
namespace My
open PySem PySem.Spec PyProof.Rows L2
theorem all_mk {l : PySem.W.OpenLaw} {w : World} {K : PySem.W.Frag} {h : Heap} {mg : Str → Option Value} {fa f__wall f_is_number f_is_whole f_is_name f_is_made_of f_is_tuple f_is_row f_check_edition f_kept_books f_kept_book f_kept_chapter f_check_counts f_kept_lines f_lines_of_pair f_fewest_pairs f_places_in f_stretches_of f_merged f_parts_of_verse f_with_verses f__law_cell_at f__law_row f__law_names f__law_books f__law_copy f__law_spots f__law_threads f__law_edition f__law_one f__law_told f__law_alike f__law_divisions f__law_divide f__law_asked f__law_kept f__law_right f_law f_divided : Addr} (X : K.In h) (G : h.Ns mainGlobals mg) (hfa : mg "law" = some (.ref fa))
    {od__wall an__wall : Option Addr} {sl__wall : Array (Option Value)} {oc__wall kV__wall dc__wall pm__wall cd__wall ct__wall : Value}
    {od_is_number an_is_number : Option Addr} {sl_is_number : Array (Option Value)} {oc_is_number kV_is_number dc_is_number pm_is_number cd_is_number ct_is_number : Value}
    {od_is_whole an_is_whole : Option Addr} {sl_is_whole : Array (Option Value)} {oc_is_whole kV_is_whole dc_is_whole pm_is_whole cd_is_whole ct_is_whole : Value}
    {od_is_name an_is_name : Option Addr} {sl_is_name : Array (Option Value)} {oc_is_name kV_is_name dc_is_name pm_is_name cd_is_name ct_is_name : Value}
    {od_is_made_of an_is_made_of : Option Addr} {sl_is_made_of : Array (Option Value)} {oc_is_made_of kV_is_made_of dc_is_made_of pm_is_made_of cd_is_made_of ct_is_made_of : Value}
    {od_is_tuple an_is_tuple : Option Addr} {sl_is_tuple : Array (Option Value)} {oc_is_tuple kV_is_tuple dc_is_tuple pm_is_tuple cd_is_tuple ct_is_tuple : Value}
    {od_is_row an_is_row : Option Addr} {sl_is_row : Array (Option Value)} {oc_is_row kV_is_row dc_is_row pm_is_row cd_is_row ct_is_row : Value}
    {od_check_edition an_check_edition : Option Addr} {sl_check_edition : Array (Option Value)} {oc_check_edition kV_check_edition dc_check_edition pm_check_edition cd_check_edition ct_check_edition : Value}
    {od_kept_books an_kept_books : Option Addr} {sl_kept_books : Array (Option Value)} {oc_kept_books kV_kept_books dc_kept_books pm_kept_books cd_kept_books ct_kept_books : Value}
    {od_kept_book an_kept_book : Option Addr} {sl_kept_book : Array (Option Value)} {oc_kept_book kV_kept_book dc_kept_book pm_kept_book cd_kept_book ct_kept_book : Value}
    {od_kept_chapter an_kept_chapter : Option Addr} {sl_kept_chapter : Array (Option Value)} {oc_kept_chapter kV_kept_chapter dc_kept_chapter pm_kept_chapter cd_kept_chapter ct_kept_chapter : Value}
    {od_check_counts an_check_counts : Option Addr} {sl_check_counts : Array (Option Value)} {oc_check_counts kV_check_counts dc_check_counts pm_check_counts cd_check_counts ct_check_counts : Value}
    {od_kept_lines an_kept_lines : Option Addr} {sl_kept_lines : Array (Option Value)} {oc_kept_lines kV_kept_lines dc_kept_lines pm_kept_lines cd_kept_lines ct_kept_lines : Value}
    {od_lines_of_pair an_lines_of_pair : Option Addr} {sl_lines_of_pair : Array (Option Value)} {oc_lines_of_pair kV_lines_of_pair dc_lines_of_pair pm_lines_of_pair cd_lines_of_pair ct_lines_of_pair : Value}
    {od_fewest_pairs an_fewest_pairs : Option Addr} {sl_fewest_pairs : Array (Option Value)} {oc_fewest_pairs kV_fewest_pairs dc_fewest_pairs pm_fewest_pairs cd_fewest_pairs ct_fewest_pairs : Value}
    {od_places_in an_places_in : Option Addr} {sl_places_in : Array (Option Value)} {oc_places_in kV_places_in dc_places_in pm_places_in cd_places_in ct_places_in : Value}
    {od_stretches_of an_stretches_of : Option Addr} {sl_stretches_of : Array (Option Value)} {oc_stretches_of kV_stretches_of dc_stretches_of pm_stretches_of cd_stretches_of ct_stretches_of : Value}
    {od_merged an_merged : Option Addr} {sl_merged : Array (Option Value)} {oc_merged kV_merged dc_merged pm_merged cd_merged ct_merged : Value}
    {od_parts_of_verse an_parts_of_verse : Option Addr} {sl_parts_of_verse : Array (Option Value)} {oc_parts_of_verse kV_parts_of_verse dc_parts_of_verse pm_parts_of_verse cd_parts_of_verse ct_parts_of_verse : Value}
    {od_with_verses an_with_verses : Option Addr} {sl_with_verses : Array (Option Value)} {oc_with_verses kV_with_verses dc_with_verses pm_with_verses cd_with_verses ct_with_verses : Value}
    {od__law_cell_at an__law_cell_at : Option Addr} {sl__law_cell_at : Array (Option Value)} {oc__law_cell_at kV__law_cell_at dc__law_cell_at pm__law_cell_at cd__law_cell_at ct__law_cell_at : Value}
    {od__law_row an__law_row : Option Addr} {sl__law_row : Array (Option Value)} {oc__law_row kV__law_row dc__law_row pm__law_row cd__law_row ct__law_row : Value}
    {od__law_names an__law_names : Option Addr} {sl__law_names : Array (Option Value)} {oc__law_names kV__law_names dc__law_names pm__law_names cd__law_names ct__law_names : Value}
    {od__law_books an__law_books : Option Addr} {sl__law_books : Array (Option Value)} {oc__law_books kV__law_books dc__law_books pm__law_books cd__law_books ct__law_books : Value}
    {od__law_copy an__law_copy : Option Addr} {sl__law_copy : Array (Option Value)} {oc__law_copy kV__law_copy dc__law_copy pm__law_copy cd__law_copy ct__law_copy : Value}
    {od__law_spots an__law_spots : Option Addr} {sl__law_spots : Array (Option Value)} {oc__law_spots kV__law_spots dc__law_spots pm__law_spots cd__law_spots ct__law_spots : Value}
    {od__law_threads an__law_threads : Option Addr} {sl__law_threads : Array (Option Value)} {oc__law_threads kV__law_threads dc__law_threads pm__law_threads cd__law_threads ct__law_threads : Value}
    {od__law_edition an__law_edition : Option Addr} {sl__law_edition : Array (Option Value)} {oc__law_edition kV__law_edition dc__law_edition pm__law_edition cd__law_edition ct__law_edition : Value}
    {od__law_one an__law_one : Option Addr} {sl__law_one : Array (Option Value)} {oc__law_one kV__law_one dc__law_one pm__law_one cd__law_one ct__law_one : Value}
    {od__law_told an__law_told : Option Addr} {sl__law_told : Array (Option Value)} {oc__law_told kV__law_told dc__law_told pm__law_told cd__law_told ct__law_told : Value}
    {od__law_alike an__law_alike : Option Addr} {sl__law_alike : Array (Option Value)} {oc__law_alike kV__law_alike dc__law_alike pm__law_alike cd__law_alike ct__law_alike : Value}
    {od__law_divisions an__law_divisions : Option Addr} {sl__law_divisions : Array (Option Value)} {oc__law_divisions kV__law_divisions dc__law_divisions pm__law_divisions cd__law_divisions ct__law_divisions : Value}
    {od__law_divide an__law_divide : Option Addr} {sl__law_divide : Array (Option Value)} {oc__law_divide kV__law_divide dc__law_divide pm__law_divide cd__law_divide ct__law_divide : Value}
    {od__law_asked an__law_asked : Option Addr} {sl__law_asked : Array (Option Value)} {oc__law_asked kV__law_asked dc__law_asked pm__law_asked cd__law_asked ct__law_asked : Value}
    {od__law_kept an__law_kept : Option Addr} {sl__law_kept : Array (Option Value)} {oc__law_kept kV__law_kept dc__law_kept pm__law_kept cd__law_kept ct__law_kept : Value}
    {od__law_right an__law_right : Option Addr} {sl__law_right : Array (Option Value)} {oc__law_right kV__law_right dc__law_right pm__law_right cd__law_right ct__law_right : Value}
    {od_law an_law : Option Addr} {sl_law : Array (Option Value)} {oc_law kV_law dc_law pm_law cd_law ct_law : Value}
    (a__wall : PySem.W.nsIn K mainGlobals "_wall" = some (some (.ref f__wall))) (l__wall : K.lookup f__wall = some ⟨oc__wall, od__wall, .func (PySem.W.fnOf "_wall" "_wall" (defArgs s__wall) (defBody s__wall) (defScope s__wall) .none kV__wall dc__wall pm__wall an__wall cd__wall ct__wall), sl__wall⟩) (c__wall : PySem.W.codeIn K cd__wall "_wall" = true) (k__wall : PySem.W.keepIn K (.ref f__wall) = true)
    (a_is_number : PySem.W.nsIn K mainGlobals "is_number" = some (some (.ref f_is_number))) (l_is_number : K.lookup f_is_number = some ⟨oc_is_number, od_is_number, .func (PySem.W.fnOf "is_number" "is_number" (defArgs s_is_number) (defBody s_is_number) (defScope s_is_number) .none kV_is_number dc_is_number pm_is_number an_is_number cd_is_number ct_is_number), sl_is_number⟩) (c_is_number : PySem.W.codeIn K cd_is_number "is_number" = true) (k_is_number : PySem.W.keepIn K (.ref f_is_number) = true)
    (a_is_whole : PySem.W.nsIn K mainGlobals "is_whole" = some (some (.ref f_is_whole))) (l_is_whole : K.lookup f_is_whole = some ⟨oc_is_whole, od_is_whole, .func (PySem.W.fnOf "is_whole" "is_whole" (defArgs s_is_whole) (defBody s_is_whole) (defScope s_is_whole) .none kV_is_whole dc_is_whole pm_is_whole an_is_whole cd_is_whole ct_is_whole), sl_is_whole⟩) (c_is_whole : PySem.W.codeIn K cd_is_whole "is_whole" = true) (k_is_whole : PySem.W.keepIn K (.ref f_is_whole) = true)
    (a_is_name : PySem.W.nsIn K mainGlobals "is_name" = some (some (.ref f_is_name))) (l_is_name : K.lookup f_is_name = some ⟨oc_is_name, od_is_name, .func (PySem.W.fnOf "is_name" "is_name" (defArgs s_is_name) (defBody s_is_name) (defScope s_is_name) .none kV_is_name dc_is_name pm_is_name an_is_name cd_is_name ct_is_name), sl_is_name⟩) (c_is_name : PySem.W.codeIn K cd_is_name "is_name" = true) (k_is_name : PySem.W.keepIn K (.ref f_is_name) = true)
    (a_is_made_of : PySem.W.nsIn K mainGlobals "is_made_of" = some (some (.ref f_is_made_of))) (l_is_made_of : K.lookup f_is_made_of = some ⟨oc_is_made_of, od_is_made_of, .func (PySem.W.fnOf "is_made_of" "is_made_of" (defArgs s_is_made_of) (defBody s_is_made_of) (defScope s_is_made_of) .none kV_is_made_of dc_is_made_of pm_is_made_of an_is_made_of cd_is_made_of ct_is_made_of), sl_is_made_of⟩) (c_is_made_of : PySem.W.codeIn K cd_is_made_of "is_made_of" = true) (k_is_made_of : PySem.W.keepIn K (.ref f_is_made_of) = true)
    (a_is_tuple : PySem.W.nsIn K mainGlobals "is_tuple" = some (some (.ref f_is_tuple))) (l_is_tuple : K.lookup f_is_tuple = some ⟨oc_is_tuple, od_is_tuple, .func (PySem.W.fnOf "is_tuple" "is_tuple" (defArgs s_is_tuple) (defBody s_is_tuple) (defScope s_is_tuple) .none kV_is_tuple dc_is_tuple pm_is_tuple an_is_tuple cd_is_tuple ct_is_tuple), sl_is_tuple⟩) (c_is_tuple : PySem.W.codeIn K cd_is_tuple "is_tuple" = true) (k_is_tuple : PySem.W.keepIn K (.ref f_is_tuple) = true)
    (a_is_row : PySem.W.nsIn K mainGlobals "is_row" = some (some (.ref f_is_row))) (l_is_row : K.lookup f_is_row = some ⟨oc_is_row, od_is_row, .func (PySem.W.fnOf "is_row" "is_row" (defArgs s_is_row) (defBody s_is_row) (defScope s_is_row) .none kV_is_row dc_is_row pm_is_row an_is_row cd_is_row ct_is_row), sl_is_row⟩) (c_is_row : PySem.W.codeIn K cd_is_row "is_row" = true) (k_is_row : PySem.W.keepIn K (.ref f_is_row) = true)
    (a_check_edition : PySem.W.nsIn K mainGlobals "check_edition" = some (some (.ref f_check_edition))) (l_check_edition : K.lookup f_check_edition = some ⟨oc_check_edition, od_check_edition, .func (PySem.W.fnOf "check_edition" "check_edition" (defArgs s_check_edition) (defBody s_check_edition) (defScope s_check_edition) .none kV_check_edition dc_check_edition pm_check_edition an_check_edition cd_check_edition ct_check_edition), sl_check_edition⟩) (c_check_edition : PySem.W.codeIn K cd_check_edition "check_edition" = true) (k_check_edition : PySem.W.keepIn K (.ref f_check_edition) = true)
    (a_kept_books : PySem.W.nsIn K mainGlobals "kept_books" = some (some (.ref f_kept_books))) (l_kept_books : K.lookup f_kept_books = some ⟨oc_kept_books, od_kept_books, .func (PySem.W.fnOf "kept_books" "kept_books" (defArgs s_kept_books) (defBody s_kept_books) (defScope s_kept_books) .none kV_kept_books dc_kept_books pm_kept_books an_kept_books cd_kept_books ct_kept_books), sl_kept_books⟩) (c_kept_books : PySem.W.codeIn K cd_kept_books "kept_books" = true) (k_kept_books : PySem.W.keepIn K (.ref f_kept_books) = true)
    (a_kept_book : PySem.W.nsIn K mainGlobals "kept_book" = some (some (.ref f_kept_book))) (l_kept_book : K.lookup f_kept_book = some ⟨oc_kept_book, od_kept_book, .func (PySem.W.fnOf "kept_book" "kept_book" (defArgs s_kept_book) (defBody s_kept_book) (defScope s_kept_book) .none kV_kept_book dc_kept_book pm_kept_book an_kept_book cd_kept_book ct_kept_book), sl_kept_book⟩) (c_kept_book : PySem.W.codeIn K cd_kept_book "kept_book" = true) (k_kept_book : PySem.W.keepIn K (.ref f_kept_book) = true)
    (a_kept_chapter : PySem.W.nsIn K mainGlobals "kept_chapter" = some (some (.ref f_kept_chapter))) (l_kept_chapter : K.lookup f_kept_chapter = some ⟨oc_kept_chapter, od_kept_chapter, .func (PySem.W.fnOf "kept_chapter" "kept_chapter" (defArgs s_kept_chapter) (defBody s_kept_chapter) (defScope s_kept_chapter) .none kV_kept_chapter dc_kept_chapter pm_kept_chapter an_kept_chapter cd_kept_chapter ct_kept_chapter), sl_kept_chapter⟩) (c_kept_chapter : PySem.W.codeIn K cd_kept_chapter "kept_chapter" = true) (k_kept_chapter : PySem.W.keepIn K (.ref f_kept_chapter) = true)
    (a_check_counts : PySem.W.nsIn K mainGlobals "check_counts" = some (some (.ref f_check_counts))) (l_check_counts : K.lookup f_check_counts = some ⟨oc_check_counts, od_check_counts, .func (PySem.W.fnOf "check_counts" "check_counts" (defArgs s_check_counts) (defBody s_check_counts) (defScope s_check_counts) .none kV_check_counts dc_check_counts pm_check_counts an_check_counts cd_check_counts ct_check_counts), sl_check_counts⟩) (c_check_counts : PySem.W.codeIn K cd_check_counts "check_counts" = true) (k_check_counts : PySem.W.keepIn K (.ref f_check_counts) = true)
    (a_kept_lines : PySem.W.nsIn K mainGlobals "kept_lines" = some (some (.ref f_kept_lines))) (l_kept_lines : K.lookup f_kept_lines = some ⟨oc_kept_lines, od_kept_lines, .func (PySem.W.fnOf "kept_lines" "kept_lines" (defArgs s_kept_lines) (defBody s_kept_lines) (defScope s_kept_lines) .none kV_kept_lines dc_kept_lines pm_kept_lines an_kept_lines cd_kept_lines ct_kept_lines), sl_kept_lines⟩) (c_kept_lines : PySem.W.codeIn K cd_kept_lines "kept_lines" = true) (k_kept_lines : PySem.W.keepIn K (.ref f_kept_lines) = true)
    (a_lines_of_pair : PySem.W.nsIn K mainGlobals "lines_of_pair" = some (some (.ref f_lines_of_pair))) (l_lines_of_pair : K.lookup f_lines_of_pair = some ⟨oc_lines_of_pair, od_lines_of_pair, .func (PySem.W.fnOf "lines_of_pair" "lines_of_pair" (defArgs s_lines_of_pair) (defBody s_lines_of_pair) (defScope s_lines_of_pair) .none kV_lines_of_pair dc_lines_of_pair pm_lines_of_pair an_lines_of_pair cd_lines_of_pair ct_lines_of_pair), sl_lines_of_pair⟩) (c_lines_of_pair : PySem.W.codeIn K cd_lines_of_pair "lines_of_pair" = true) (k_lines_of_pair : PySem.W.keepIn K (.ref f_lines_of_pair) = true)
    (a_fewest_pairs : PySem.W.nsIn K mainGlobals "fewest_pairs" = some (some (.ref f_fewest_pairs))) (l_fewest_pairs : K.lookup f_fewest_pairs = some ⟨oc_fewest_pairs, od_fewest_pairs, .func (PySem.W.fnOf "fewest_pairs" "fewest_pairs" (defArgs s_fewest_pairs) (defBody s_fewest_pairs) (defScope s_fewest_pairs) .none kV_fewest_pairs dc_fewest_pairs pm_fewest_pairs an_fewest_pairs cd_fewest_pairs ct_fewest_pairs), sl_fewest_pairs⟩) (c_fewest_pairs : PySem.W.codeIn K cd_fewest_pairs "fewest_pairs" = true) (k_fewest_pairs : PySem.W.keepIn K (.ref f_fewest_pairs) = true)
    (a_places_in : PySem.W.nsIn K mainGlobals "places_in" = some (some (.ref f_places_in))) (l_places_in : K.lookup f_places_in = some ⟨oc_places_in, od_places_in, .func (PySem.W.fnOf "places_in" "places_in" (defArgs s_places_in) (defBody s_places_in) (defScope s_places_in) .none kV_places_in dc_places_in pm_places_in an_places_in cd_places_in ct_places_in), sl_places_in⟩) (c_places_in : PySem.W.codeIn K cd_places_in "places_in" = true) (k_places_in : PySem.W.keepIn K (.ref f_places_in) = true)
    (a_stretches_of : PySem.W.nsIn K mainGlobals "stretches_of" = some (some (.ref f_stretches_of))) (l_stretches_of : K.lookup f_stretches_of = some ⟨oc_stretches_of, od_stretches_of, .func (PySem.W.fnOf "stretches_of" "stretches_of" (defArgs s_stretches_of) (defBody s_stretches_of) (defScope s_stretches_of) .none kV_stretches_of dc_stretches_of pm_stretches_of an_stretches_of cd_stretches_of ct_stretches_of), sl_stretches_of⟩) (c_stretches_of : PySem.W.codeIn K cd_stretches_of "stretches_of" = true) (k_stretches_of : PySem.W.keepIn K (.ref f_stretches_of) = true)
    (a_merged : PySem.W.nsIn K mainGlobals "merged" = some (some (.ref f_merged))) (l_merged : K.lookup f_merged = some ⟨oc_merged, od_merged, .func (PySem.W.fnOf "merged" "merged" (defArgs s_merged) (defBody s_merged) (defScope s_merged) .none kV_merged dc_merged pm_merged an_merged cd_merged ct_merged), sl_merged⟩) (c_merged : PySem.W.codeIn K cd_merged "merged" = true) (k_merged : PySem.W.keepIn K (.ref f_merged) = true)
    (a_parts_of_verse : PySem.W.nsIn K mainGlobals "parts_of_verse" = some (some (.ref f_parts_of_verse))) (l_parts_of_verse : K.lookup f_parts_of_verse = some ⟨oc_parts_of_verse, od_parts_of_verse, .func (PySem.W.fnOf "parts_of_verse" "parts_of_verse" (defArgs s_parts_of_verse) (defBody s_parts_of_verse) (defScope s_parts_of_verse) .none kV_parts_of_verse dc_parts_of_verse pm_parts_of_verse an_parts_of_verse cd_parts_of_verse ct_parts_of_verse), sl_parts_of_verse⟩) (c_parts_of_verse : PySem.W.codeIn K cd_parts_of_verse "parts_of_verse" = true) (k_parts_of_verse : PySem.W.keepIn K (.ref f_parts_of_verse) = true)
    (a_with_verses : PySem.W.nsIn K mainGlobals "with_verses" = some (some (.ref f_with_verses))) (l_with_verses : K.lookup f_with_verses = some ⟨oc_with_verses, od_with_verses, .func (PySem.W.fnOf "with_verses" "with_verses" (defArgs s_with_verses) (defBody s_with_verses) (defScope s_with_verses) .none kV_with_verses dc_with_verses pm_with_verses an_with_verses cd_with_verses ct_with_verses), sl_with_verses⟩) (c_with_verses : PySem.W.codeIn K cd_with_verses "with_verses" = true) (k_with_verses : PySem.W.keepIn K (.ref f_with_verses) = true)
    (a__law_cell_at : PySem.W.nsIn K mainGlobals "_law_cell_at" = some (some (.ref f__law_cell_at))) (l__law_cell_at : K.lookup f__law_cell_at = some ⟨oc__law_cell_at, od__law_cell_at, .func (PySem.W.fnOf "_law_cell_at" "_law_cell_at" (defArgs s__law_cell_at) (defBody s__law_cell_at) (defScope s__law_cell_at) .none kV__law_cell_at dc__law_cell_at pm__law_cell_at an__law_cell_at cd__law_cell_at ct__law_cell_at), sl__law_cell_at⟩) (c__law_cell_at : PySem.W.codeIn K cd__law_cell_at "_law_cell_at" = true) (k__law_cell_at : PySem.W.keepIn K (.ref f__law_cell_at) = true)
    (a__law_row : PySem.W.nsIn K mainGlobals "_law_row" = some (some (.ref f__law_row))) (l__law_row : K.lookup f__law_row = some ⟨oc__law_row, od__law_row, .func (PySem.W.fnOf "_law_row" "_law_row" (defArgs s__law_row) (defBody s__law_row) (defScope s__law_row) .none kV__law_row dc__law_row pm__law_row an__law_row cd__law_row ct__law_row), sl__law_row⟩) (c__law_row : PySem.W.codeIn K cd__law_row "_law_row" = true) (k__law_row : PySem.W.keepIn K (.ref f__law_row) = true)
    (a__law_names : PySem.W.nsIn K mainGlobals "_law_names" = some (some (.ref f__law_names))) (l__law_names : K.lookup f__law_names = some ⟨oc__law_names, od__law_names, .func (PySem.W.fnOf "_law_names" "_law_names" (defArgs s__law_names) (defBody s__law_names) (defScope s__law_names) .none kV__law_names dc__law_names pm__law_names an__law_names cd__law_names ct__law_names), sl__law_names⟩) (c__law_names : PySem.W.codeIn K cd__law_names "_law_names" = true) (k__law_names : PySem.W.keepIn K (.ref f__law_names) = true)
    (a__law_books : PySem.W.nsIn K mainGlobals "_law_books" = some (some (.ref f__law_books))) (l__law_books : K.lookup f__law_books = some ⟨oc__law_books, od__law_books, .func (PySem.W.fnOf "_law_books" "_law_books" (defArgs s__law_books) (defBody s__law_books) (defScope s__law_books) .none kV__law_books dc__law_books pm__law_books an__law_books cd__law_books ct__law_books), sl__law_books⟩) (c__law_books : PySem.W.codeIn K cd__law_books "_law_books" = true) (k__law_books : PySem.W.keepIn K (.ref f__law_books) = true)
    (a__law_copy : PySem.W.nsIn K mainGlobals "_law_copy" = some (some (.ref f__law_copy))) (l__law_copy : K.lookup f__law_copy = some ⟨oc__law_copy, od__law_copy, .func (PySem.W.fnOf "_law_copy" "_law_copy" (defArgs s__law_copy) (defBody s__law_copy) (defScope s__law_copy) .none kV__law_copy dc__law_copy pm__law_copy an__law_copy cd__law_copy ct__law_copy), sl__law_copy⟩) (c__law_copy : PySem.W.codeIn K cd__law_copy "_law_copy" = true) (k__law_copy : PySem.W.keepIn K (.ref f__law_copy) = true)
    (a__law_spots : PySem.W.nsIn K mainGlobals "_law_spots" = some (some (.ref f__law_spots))) (l__law_spots : K.lookup f__law_spots = some ⟨oc__law_spots, od__law_spots, .func (PySem.W.fnOf "_law_spots" "_law_spots" (defArgs s__law_spots) (defBody s__law_spots) (defScope s__law_spots) .none kV__law_spots dc__law_spots pm__law_spots an__law_spots cd__law_spots ct__law_spots), sl__law_spots⟩) (c__law_spots : PySem.W.codeIn K cd__law_spots "_law_spots" = true) (k__law_spots : PySem.W.keepIn K (.ref f__law_spots) = true)
    (a__law_threads : PySem.W.nsIn K mainGlobals "_law_threads" = some (some (.ref f__law_threads))) (l__law_threads : K.lookup f__law_threads = some ⟨oc__law_threads, od__law_threads, .func (PySem.W.fnOf "_law_threads" "_law_threads" (defArgs s__law_threads) (defBody s__law_threads) (defScope s__law_threads) .none kV__law_threads dc__law_threads pm__law_threads an__law_threads cd__law_threads ct__law_threads), sl__law_threads⟩) (c__law_threads : PySem.W.codeIn K cd__law_threads "_law_threads" = true) (k__law_threads : PySem.W.keepIn K (.ref f__law_threads) = true)
    (a__law_edition : PySem.W.nsIn K mainGlobals "_law_edition" = some (some (.ref f__law_edition))) (l__law_edition : K.lookup f__law_edition = some ⟨oc__law_edition, od__law_edition, .func (PySem.W.fnOf "_law_edition" "_law_edition" (defArgs s__law_edition) (defBody s__law_edition) (defScope s__law_edition) .none kV__law_edition dc__law_edition pm__law_edition an__law_edition cd__law_edition ct__law_edition), sl__law_edition⟩) (c__law_edition : PySem.W.codeIn K cd__law_edition "_law_edition" = true) (k__law_edition : PySem.W.keepIn K (.ref f__law_edition) = true)
    (a__law_one : PySem.W.nsIn K mainGlobals "_law_one" = some (some (.ref f__law_one))) (l__law_one : K.lookup f__law_one = some ⟨oc__law_one, od__law_one, .func (PySem.W.fnOf "_law_one" "_law_one" (defArgs s__law_one) (defBody s__law_one) (defScope s__law_one) .none kV__law_one dc__law_one pm__law_one an__law_one cd__law_one ct__law_one), sl__law_one⟩) (c__law_one : PySem.W.codeIn K cd__law_one "_law_one" = true) (k__law_one : PySem.W.keepIn K (.ref f__law_one) = true)
    (a__law_told : PySem.W.nsIn K mainGlobals "_law_told" = some (some (.ref f__law_told))) (l__law_told : K.lookup f__law_told = some ⟨oc__law_told, od__law_told, .func (PySem.W.fnOf "_law_told" "_law_told" (defArgs s__law_told) (defBody s__law_told) (defScope s__law_told) .none kV__law_told dc__law_told pm__law_told an__law_told cd__law_told ct__law_told), sl__law_told⟩) (c__law_told : PySem.W.codeIn K cd__law_told "_law_told" = true) (k__law_told : PySem.W.keepIn K (.ref f__law_told) = true)
    (a__law_alike : PySem.W.nsIn K mainGlobals "_law_alike" = some (some (.ref f__law_alike))) (l__law_alike : K.lookup f__law_alike = some ⟨oc__law_alike, od__law_alike, .func (PySem.W.fnOf "_law_alike" "_law_alike" (defArgs s__law_alike) (defBody s__law_alike) (defScope s__law_alike) .none kV__law_alike dc__law_alike pm__law_alike an__law_alike cd__law_alike ct__law_alike), sl__law_alike⟩) (c__law_alike : PySem.W.codeIn K cd__law_alike "_law_alike" = true) (k__law_alike : PySem.W.keepIn K (.ref f__law_alike) = true)
    (a__law_divisions : PySem.W.nsIn K mainGlobals "_law_divisions" = some (some (.ref f__law_divisions))) (l__law_divisions : K.lookup f__law_divisions = some ⟨oc__law_divisions, od__law_divisions, .func (PySem.W.fnOf "_law_divisions" "_law_divisions" (defArgs s__law_divisions) (defBody s__law_divisions) (defScope s__law_divisions) .none kV__law_divisions dc__law_divisions pm__law_divisions an__law_divisions cd__law_divisions ct__law_divisions), sl__law_divisions⟩) (c__law_divisions : PySem.W.codeIn K cd__law_divisions "_law_divisions" = true) (k__law_divisions : PySem.W.keepIn K (.ref f__law_divisions) = true)
    (a__law_divide : PySem.W.nsIn K mainGlobals "_law_divide" = some (some (.ref f__law_divide))) (l__law_divide : K.lookup f__law_divide = some ⟨oc__law_divide, od__law_divide, .func (PySem.W.fnOf "_law_divide" "_law_divide" (defArgs s__law_divide) (defBody s__law_divide) (defScope s__law_divide) .none kV__law_divide dc__law_divide pm__law_divide an__law_divide cd__law_divide ct__law_divide), sl__law_divide⟩) (c__law_divide : PySem.W.codeIn K cd__law_divide "_law_divide" = true) (k__law_divide : PySem.W.keepIn K (.ref f__law_divide) = true)
    (a__law_asked : PySem.W.nsIn K mainGlobals "_law_asked" = some (some (.ref f__law_asked))) (l__law_asked : K.lookup f__law_asked = some ⟨oc__law_asked, od__law_asked, .func (PySem.W.fnOf "_law_asked" "_law_asked" (defArgs s__law_asked) (defBody s__law_asked) (defScope s__law_asked) .none kV__law_asked dc__law_asked pm__law_asked an__law_asked cd__law_asked ct__law_asked), sl__law_asked⟩) (c__law_asked : PySem.W.codeIn K cd__law_asked "_law_asked" = true) (k__law_asked : PySem.W.keepIn K (.ref f__law_asked) = true)
    (a__law_kept : PySem.W.nsIn K mainGlobals "_law_kept" = some (some (.ref f__law_kept))) (l__law_kept : K.lookup f__law_kept = some ⟨oc__law_kept, od__law_kept, .func (PySem.W.fnOf "_law_kept" "_law_kept" (defArgs s__law_kept) (defBody s__law_kept) (defScope s__law_kept) .none kV__law_kept dc__law_kept pm__law_kept an__law_kept cd__law_kept ct__law_kept), sl__law_kept⟩) (c__law_kept : PySem.W.codeIn K cd__law_kept "_law_kept" = true) (k__law_kept : PySem.W.keepIn K (.ref f__law_kept) = true)
    (a__law_right : PySem.W.nsIn K mainGlobals "_law_right" = some (some (.ref f__law_right))) (l__law_right : K.lookup f__law_right = some ⟨oc__law_right, od__law_right, .func (PySem.W.fnOf "_law_right" "_law_right" (defArgs s__law_right) (defBody s__law_right) (defScope s__law_right) .none kV__law_right dc__law_right pm__law_right an__law_right cd__law_right ct__law_right), sl__law_right⟩) (c__law_right : PySem.W.codeIn K cd__law_right "_law_right" = true) (k__law_right : PySem.W.keepIn K (.ref f__law_right) = true)
    (a_law : PySem.W.nsIn K mainGlobals "law" = some (some (.ref f_law))) (l_law : K.lookup f_law = some ⟨oc_law, od_law, .func (PySem.W.fnOf "law" "law" (defArgs s_law) (defBody s_law) (defScope s_law) .none kV_law dc_law pm_law an_law cd_law ct_law), sl_law⟩) (c_law : PySem.W.codeIn K cd_law "law" = true) (k_law : PySem.W.keepIn K (.ref f_law) = true)
    (a_divided : PySem.W.nsIn K mainGlobals "divided" = some (some (.ref f_divided))) (h_divided : ∃ fd, FunD K "divided" "divided" (defArgs s_divided) (defBody s_divided) (defScope s_divided) [.int 1] [] f_divided fd)
    (z_LookupError : PySem.W.nsIn K mainGlobals "LookupError" = some none)
    (z_ValueError : PySem.W.nsIn K mainGlobals "ValueError" = some none)
    (z_abs : PySem.W.nsIn K mainGlobals "abs" = some none)
    (z_all : PySem.W.nsIn K mainGlobals "all" = some none)
    (z_bool : PySem.W.nsIn K mainGlobals "bool" = some none)
    (z_enumerate : PySem.W.nsIn K mainGlobals "enumerate" = some none)
    (z_int : PySem.W.nsIn K mainGlobals "int" = some none)
    (z_isinstance : PySem.W.nsIn K mainGlobals "isinstance" = some none)
    (z_len : PySem.W.nsIn K mainGlobals "len" = some none)
    (z_list : PySem.W.nsIn K mainGlobals "list" = some none)
    (z_range : PySem.W.nsIn K mainGlobals "range" = some none)
    (z_str : PySem.W.nsIn K mainGlobals "str" = some none)
    (z_sum : PySem.W.nsIn K mainGlobals "sum" = some none)
    (z_tuple : PySem.W.nsIn K mainGlobals "tuple" = some none)
    {t_LAST_LINE : Tok} (y_LAST_LINE : PySem.W.nsIn K mainGlobals "LAST_LINE" = some (some (.int 9999 t_LAST_LINE)))
    {t_LONGEST_NAME : Tok} (y_LONGEST_NAME : PySem.W.nsIn K mainGlobals "LONGEST_NAME" = some (some (.int 6 t_LONGEST_NAME)))
    {t_MOST_BOOKS : Tok} (y_MOST_BOOKS : PySem.W.nsIn K mainGlobals "MOST_BOOKS" = some (some (.int 6 t_MOST_BOOKS)))
    {t_MOST_BOOK_CHAPTERS : Tok} (y_MOST_BOOK_CHAPTERS : PySem.W.nsIn K mainGlobals "MOST_BOOK_CHAPTERS" = some (some (.int 12 t_MOST_BOOK_CHAPTERS)))
    {t_MOST_CHAPTERS : Tok} (y_MOST_CHAPTERS : PySem.W.nsIn K mainGlobals "MOST_CHAPTERS" = some (some (.int 40 t_MOST_CHAPTERS)))
    {t_MOST_PAIRS : Tok} (y_MOST_PAIRS : PySem.W.nsIn K mainGlobals "MOST_PAIRS" = some (some (.int 400 t_MOST_PAIRS)))
    {t_MOST_PARTS : Tok} (y_MOST_PARTS : PySem.W.nsIn K mainGlobals "MOST_PARTS" = some (some (.int 400 t_MOST_PARTS)))
    {t_MOST_VERSES : Tok} (y_MOST_VERSES : PySem.W.nsIn K mainGlobals "MOST_VERSES" = some (some (.int 30 t_MOST_VERSES)))
    {t_MOST_VERSE_PARTS : Tok} (y_MOST_VERSE_PARTS : PySem.W.nsIn K mainGlobals "MOST_VERSE_PARTS" = some (some (.int 4 t_MOST_VERSE_PARTS)))
    {t_SMALL_LETTERS : Tok} (y_SMALL_LETTERS : PySem.W.nsIn K mainGlobals "SMALL_LETTERS" = some (some (.str "abcdefghijklmnopqrstuvwxyz" t_SMALL_LETTERS)))
    {C fI TI : Addr} {odI anI ddT : Option Addr} {slI slT : Array (Option Value)} {ocI kVI dcI pmI cdI ctI ocT : Value} {nT : Nat} (aE : PySem.W.nsIn K mainGlobals "Edition" = some (some (.ref C))) (iI : PySem.W.findIn K (.ref C) "__init__" = some (some (.ref fI))) (lI : K.lookup fI = some ⟨ocI, odI, .func (PySem.W.fnOf "__init__" "Edition.__init__" (defArgs s_Edition___init__) (defBody s_Edition___init__) (defScope s_Edition___init__) (.ref TI) kVI dcI pmI anI cdI ctI), slI⟩) (cI : PySem.W.codeIn K cdI "Edition.__init__" = true) (kI : PySem.W.keepIn K (.ref fI) = true) (nI : PySem.W.isFn K (.ref fI) = true) (lT : K.lookup TI = some ⟨ocT, ddT, .seq #[Value.none] nT, slT⟩) (mkC : PySem.W.makesIn K C = true) (kC : PySem.W.keepIn K (.ref C) = true) (pgC : PySem.W.plainGet K C Str.empty = true) (hdC : PySem.W.hasDictIn K C = true) (poC : PySem.W.plainOver K C = true) (saC : PySem.W.findIn K (.ref C) "__setattr__" = some (some (.builtin "object.__setattr__"))) (w1 : PySem.W.findIn K (.ref C) "_books" = some none) (w2 : PySem.W.findIn K (.ref C) "_chapters" = some none) (w3 : PySem.W.findIn K (.ref C) "_places" = some none) (w4 : PySem.W.findIn K (.ref C) "_stretches" = some none) (w5 : PySem.W.findIn K (.ref C) "_lines" = some none) (w6 : PySem.W.findIn K (.ref C) "_numbers" = some none) (w7 : PySem.W.findIn K (.ref C) "_told" = some none) (haC : PySem.W.findIn K (.ref C) "__class__" = some (some (.builtin "object.__class__"))) (hnC : PySem.W.specialIn K (.builtin "object.__class__") "__get__" = some (some (.builtin "getset_descriptor.__get__"))) (tkC : PySem.W.takesIn K (.builtin "object.__class__") = some true) (hmC : PySem.W.mroIn K C (.type "object") = some true) (q1 : PySem.W.subIn K (.ref C) (.type "int") = some false) (q2 : PySem.W.subIn K (.ref C) (.type "bool") = some false) (q3 : PySem.W.subIn K (.ref C) (.type "str") = some false) {f_Msize : Addr} {od_Msize an_Msize : Option Addr} {sl_Msize : Array (Option Value)} {oc_Msize kV_Msize dc_Msize pm_Msize cd_Msize ct_Msize : Value} (i_Msize : PySem.W.findIn K (.ref C) "size" = some (some (.ref f_Msize))) (l_Msize : K.lookup f_Msize = some ⟨oc_Msize, od_Msize, .func (PySem.W.fnOf "size" "Edition.size" (defArgs s_Edition_size) (defBody s_Edition_size) (defScope s_Edition_size) .none kV_Msize dc_Msize pm_Msize an_Msize cd_Msize ct_Msize), sl_Msize⟩) (c_Msize : PySem.W.codeIn K cd_Msize "Edition.size" = true) (k_Msize : PySem.W.keepIn K (.ref f_Msize) = true) (n_Msize : PySem.W.isFn K (.ref f_Msize) = true) {f_Mlines : Addr} {od_Mlines an_Mlines : Option Addr} {sl_Mlines : Array (Option Value)} {oc_Mlines kV_Mlines dc_Mlines pm_Mlines cd_Mlines ct_Mlines : Value} (i_Mlines : PySem.W.findIn K (.ref C) "lines" = some (some (.ref f_Mlines))) (l_Mlines : K.lookup f_Mlines = some ⟨oc_Mlines, od_Mlines, .func (PySem.W.fnOf "lines" "Edition.lines" (defArgs s_Edition_lines) (defBody s_Edition_lines) (defScope s_Edition_lines) .none kV_Mlines dc_Mlines pm_Mlines an_Mlines cd_Mlines ct_Mlines), sl_Mlines⟩) (c_Mlines : PySem.W.codeIn K cd_Mlines "Edition.lines" = true) (k_Mlines : PySem.W.keepIn K (.ref f_Mlines) = true) (n_Mlines : PySem.W.isFn K (.ref f_Mlines) = true) {f_M_check_number : Addr} {od_M_check_number an_M_check_number : Option Addr} {sl_M_check_number : Array (Option Value)} {oc_M_check_number kV_M_check_number dc_M_check_number pm_M_check_number cd_M_check_number ct_M_check_number : Value} (i_M_check_number : PySem.W.findIn K (.ref C) "_check_number" = some (some (.ref f_M_check_number))) (l_M_check_number : K.lookup f_M_check_number = some ⟨oc_M_check_number, od_M_check_number, .func (PySem.W.fnOf "_check_number" "Edition._check_number" (defArgs s_Edition__check_number) (defBody s_Edition__check_number) (defScope s_Edition__check_number) .none kV_M_check_number dc_M_check_number pm_M_check_number an_M_check_number cd_M_check_number ct_M_check_number), sl_M_check_number⟩) (c_M_check_number : PySem.W.codeIn K cd_M_check_number "Edition._check_number" = true) (k_M_check_number : PySem.W.keepIn K (.ref f_M_check_number) = true) (n_M_check_number : PySem.W.isFn K (.ref f_M_check_number) = true) {f_Mline_at : Addr} {od_Mline_at an_Mline_at : Option Addr} {sl_Mline_at : Array (Option Value)} {oc_Mline_at kV_Mline_at dc_Mline_at pm_Mline_at cd_Mline_at ct_Mline_at : Value} (i_Mline_at : PySem.W.findIn K (.ref C) "line_at" = some (some (.ref f_Mline_at))) (l_Mline_at : K.lookup f_Mline_at = some ⟨oc_Mline_at, od_Mline_at, .func (PySem.W.fnOf "line_at" "Edition.line_at" (defArgs s_Edition_line_at) (defBody s_Edition_line_at) (defScope s_Edition_line_at) .none kV_Mline_at dc_Mline_at pm_Mline_at an_Mline_at cd_Mline_at ct_Mline_at), sl_Mline_at⟩) (c_Mline_at : PySem.W.codeIn K cd_Mline_at "Edition.line_at" = true) (k_Mline_at : PySem.W.keepIn K (.ref f_Mline_at) = true) (n_Mline_at : PySem.W.isFn K (.ref f_Mline_at) = true) {f_Mpart_of : Addr} {od_Mpart_of an_Mpart_of : Option Addr} {sl_Mpart_of : Array (Option Value)} {oc_Mpart_of kV_Mpart_of dc_Mpart_of pm_Mpart_of cd_Mpart_of ct_Mpart_of : Value} (i_Mpart_of : PySem.W.findIn K (.ref C) "part_of" = some (some (.ref f_Mpart_of))) (l_Mpart_of : K.lookup f_Mpart_of = some ⟨oc_Mpart_of, od_Mpart_of, .func (PySem.W.fnOf "part_of" "Edition.part_of" (defArgs s_Edition_part_of) (defBody s_Edition_part_of) (defScope s_Edition_part_of) .none kV_Mpart_of dc_Mpart_of pm_Mpart_of an_Mpart_of cd_Mpart_of ct_Mpart_of), sl_Mpart_of⟩) (c_Mpart_of : PySem.W.codeIn K cd_Mpart_of "Edition.part_of" = true) (k_Mpart_of : PySem.W.keepIn K (.ref f_Mpart_of) = true) (n_Mpart_of : PySem.W.isFn K (.ref f_Mpart_of) = true) {f_Mtold : Addr} {od_Mtold an_Mtold : Option Addr} {sl_Mtold : Array (Option Value)} {oc_Mtold kV_Mtold dc_Mtold pm_Mtold cd_Mtold ct_Mtold : Value} (i_Mtold : PySem.W.findIn K (.ref C) "told" = some (some (.ref f_Mtold))) (l_Mtold : K.lookup f_Mtold = some ⟨oc_Mtold, od_Mtold, .func (PySem.W.fnOf "told" "Edition.told" (defArgs s_Edition_told) (defBody s_Edition_told) (defScope s_Edition_told) .none kV_Mtold dc_Mtold pm_Mtold an_Mtold cd_Mtold ct_Mtold), sl_Mtold⟩) (c_Mtold : PySem.W.codeIn K cd_Mtold "Edition.told" = true) (k_Mtold : PySem.W.keepIn K (.ref f_Mtold) = true) (n_Mtold : PySem.W.isFn K (.ref f_Mtold) = true) {f_Msame : Addr} {od_Msame an_Msame : Option Addr} {sl_Msame : Array (Option Value)} {oc_Msame kV_Msame dc_Msame pm_Msame cd_Msame ct_Msame : Value} (i_Msame : PySem.W.findIn K (.ref C) "same" = some (some (.ref f_Msame))) (l_Msame : K.lookup f_Msame = some ⟨oc_Msame, od_Msame, .func (PySem.W.fnOf "same" "Edition.same" (defArgs s_Edition_same) (defBody s_Edition_same) (defScope s_Edition_same) .none kV_Msame dc_Msame pm_Msame an_Msame cd_Msame ct_Msame), sl_Msame⟩) (c_Msame : PySem.W.codeIn K cd_Msame "Edition.same" = true) (k_Msame : PySem.W.keepIn K (.ref f_Msame) = true) (n_Msame : PySem.W.isFn K (.ref f_Msame) = true) {f_M_book : Addr} {od_M_book an_M_book : Option Addr} {sl_M_book : Array (Option Value)} {oc_M_book kV_M_book dc_M_book pm_M_book cd_M_book ct_M_book : Value} (i_M_book : PySem.W.findIn K (.ref C) "_book" = some (some (.ref f_M_book))) (l_M_book : K.lookup f_M_book = some ⟨oc_M_book, od_M_book, .func (PySem.W.fnOf "_book" "Edition._book" (defArgs s_Edition__book) (defBody s_Edition__book) (defScope s_Edition__book) .none kV_M_book dc_M_book pm_M_book an_M_book cd_M_book ct_M_book), sl_M_book⟩) (c_M_book : PySem.W.codeIn K cd_M_book "Edition._book" = true) (k_M_book : PySem.W.keepIn K (.ref f_M_book) = true) (n_M_book : PySem.W.isFn K (.ref f_M_book) = true) {f_M_chapter : Addr} {od_M_chapter an_M_chapter : Option Addr} {sl_M_chapter : Array (Option Value)} {oc_M_chapter kV_M_chapter dc_M_chapter pm_M_chapter cd_M_chapter ct_M_chapter : Value} (i_M_chapter : PySem.W.findIn K (.ref C) "_chapter" = some (some (.ref f_M_chapter))) (l_M_chapter : K.lookup f_M_chapter = some ⟨oc_M_chapter, od_M_chapter, .func (PySem.W.fnOf "_chapter" "Edition._chapter" (defArgs s_Edition__chapter) (defBody s_Edition__chapter) (defScope s_Edition__chapter) .none kV_M_chapter dc_M_chapter pm_M_chapter an_M_chapter cd_M_chapter ct_M_chapter), sl_M_chapter⟩) (c_M_chapter : PySem.W.codeIn K cd_M_chapter "Edition._chapter" = true) (k_M_chapter : PySem.W.keepIn K (.ref f_M_chapter) = true) (n_M_chapter : PySem.W.isFn K (.ref f_M_chapter) = true) {f_Mparts : Addr} {od_Mparts an_Mparts : Option Addr} {sl_Mparts : Array (Option Value)} {oc_Mparts kV_Mparts dc_Mparts pm_Mparts cd_Mparts ct_Mparts : Value} (i_Mparts : PySem.W.findIn K (.ref C) "parts" = some (some (.ref f_Mparts))) (l_Mparts : K.lookup f_Mparts = some ⟨oc_Mparts, od_Mparts, .func (PySem.W.fnOf "parts" "Edition.parts" (defArgs s_Edition_parts) (defBody s_Edition_parts) (defScope s_Edition_parts) .none kV_Mparts dc_Mparts pm_Mparts an_Mparts cd_Mparts ct_Mparts), sl_Mparts⟩) (c_Mparts : PySem.W.codeIn K cd_Mparts "Edition.parts" = true) (k_Mparts : PySem.W.keepIn K (.ref f_Mparts) = true) (n_Mparts : PySem.W.isFn K (.ref f_Mparts) = true) {f_Mverses : Addr} {od_Mverses an_Mverses : Option Addr} {sl_Mverses : Array (Option Value)} {oc_Mverses kV_Mverses dc_Mverses pm_Mverses cd_Mverses ct_Mverses : Value} (i_Mverses : PySem.W.findIn K (.ref C) "verses" = some (some (.ref f_Mverses))) (l_Mverses : K.lookup f_Mverses = some ⟨oc_Mverses, od_Mverses, .func (PySem.W.fnOf "verses" "Edition.verses" (defArgs s_Edition_verses) (defBody s_Edition_verses) (defScope s_Edition_verses) .none kV_Mverses dc_Mverses pm_Mverses an_Mverses cd_Mverses ct_Mverses), sl_Mverses⟩) (c_Mverses : PySem.W.codeIn K cd_Mverses "Edition.verses" = true) (k_Mverses : PySem.W.keepIn K (.ref f_Mverses) = true) (n_Mverses : PySem.W.isFn K (.ref f_Mverses) = true) (gf_Mparts : PySem.W.specialIn K (.ref f_Mparts) "__get__" = some (some (.builtin "function.__get__"))) (tk_Mparts : PySem.W.takesIn K (.ref f_Mparts) = some false) (fi_Mparts : PySem.W.fnIn K f_Mparts = true)
    : ∃ fd : FuncData, (∀ (s : Shared) (v : Value), BindsTo s fd ⟨[v], []⟩ [("script", v)]) ∧ ∀ base : Heap, K.In base → base.Ns mainGlobals mg → FnG l.prog w K mg base LV fa fd ["script"] (sp_law K) := by
  have e := hfa.symm.trans (PySem.W.mg_of X G a_law)
  cases e
  have T : Txt K mg := ⟨PySem.W.mg_none_of X G z_LookupError, PySem.W.mg_none_of X G z_ValueError, PySem.W.mg_none_of X G z_abs, PySem.W.mg_none_of X G z_all, PySem.W.mg_none_of X G z_bool, PySem.W.mg_none_of X G z_enumerate, PySem.W.mg_none_of X G z_int, PySem.W.mg_none_of X G z_isinstance, PySem.W.mg_none_of X G z_len, PySem.W.mg_none_of X G z_list, PySem.W.mg_none_of X G z_range, PySem.W.mg_none_of X G z_str, PySem.W.mg_none_of X G z_sum, PySem.W.mg_none_of X G z_tuple, ⟨_, PySem.W.mg_of X G y_LAST_LINE, ⟨_, rfl⟩⟩, ⟨_, PySem.W.mg_of X G y_LONGEST_NAME, ⟨_, rfl⟩⟩, ⟨_, PySem.W.mg_of X G y_MOST_BOOKS, ⟨_, rfl⟩⟩, ⟨_, PySem.W.mg_of X G y_MOST_BOOK_CHAPTERS, ⟨_, rfl⟩⟩, ⟨_, PySem.W.mg_of X G y_MOST_CHAPTERS, ⟨_, rfl⟩⟩, ⟨_, PySem.W.mg_of X G y_MOST_PAIRS, ⟨_, rfl⟩⟩, ⟨_, PySem.W.mg_of X G y_MOST_PARTS, ⟨_, rfl⟩⟩, ⟨_, PySem.W.mg_of X G y_MOST_VERSES, ⟨_, rfl⟩⟩, ⟨_, PySem.W.mg_of X G y_MOST_VERSE_PARTS, ⟨_, rfl⟩⟩, ⟨_, PySem.W.mg_of X G y_SMALL_LETTERS, ⟨_, rfl⟩⟩⟩
  have D__wall : Df K mg "_wall" s__wall ["k"] := ⟨_, _, fun_mk (st := s__wall) l__wall c__wall k__wall, PySem.W.mg_of X G a__wall, (fun_mk (st := s__wall) l__wall c__wall k__wall).binds (ps := ["k"]) fun _ _ _ _ _ _ us hl => match us, hl with | [_], _ => rfl⟩
  have D_is_number : Df K mg "is_number" s_is_number ["thing"] := ⟨_, _, fun_mk (st := s_is_number) l_is_number c_is_number k_is_number, PySem.W.mg_of X G a_is_number, (fun_mk (st := s_is_number) l_is_number c_is_number k_is_number).binds (ps := ["thing"]) fun _ _ _ _ _ _ us hl => match us, hl with | [_], _ => rfl⟩
  have D_is_whole : Df K mg "is_whole" s_is_whole ["thing", "low", "high"] := ⟨_, _, fun_mk (st := s_is_whole) l_is_whole c_is_whole k_is_whole, PySem.W.mg_of X G a_is_whole, (fun_mk (st := s_is_whole) l_is_whole c_is_whole k_is_whole).binds (ps := ["thing", "low", "high"]) fun _ _ _ _ _ _ us hl => match us, hl with | [_, _, _], _ => rfl⟩
  have D_is_name : Df K mg "is_name" s_is_name ["thing"] := ⟨_, _, fun_mk (st := s_is_name) l_is_name c_is_name k_is_name, PySem.W.mg_of X G a_is_name, (fun_mk (st := s_is_name) l_is_name c_is_name k_is_name).binds (ps := ["thing"]) fun _ _ _ _ _ _ us hl => match us, hl with | [_], _ => rfl⟩
  have D_is_made_of : Df K mg "is_made_of" s_is_made_of ["thing", "signs", "most"] := ⟨_, _, fun_mk (st := s_is_made_of) l_is_made_of c_is_made_of k_is_made_of, PySem.W.mg_of X G a_is_made_of, (fun_mk (st := s_is_made_of) l_is_made_of c_is_made_of k_is_made_of).binds (ps := ["thing", "signs", "most"]) fun _ _ _ _ _ _ us hl => match us, hl with | [_, _, _], _ => rfl⟩
  have D_is_tuple : Df K mg "is_tuple" s_is_tuple ["thing", "fewest", "most"] := ⟨_, _, fun_mk (st := s_is_tuple) l_is_tuple c_is_tuple k_is_tuple, PySem.W.mg_of X G a_is_tuple, (fun_mk (st := s_is_tuple) l_is_tuple c_is_tuple k_is_tuple).binds (ps := ["thing", "fewest", "most"]) fun _ _ _ _ _ _ us hl => match us, hl with | [_, _, _], _ => rfl⟩
  have D_is_row : Df K mg "is_row" s_is_row ["thing", "fewest", "most"] := ⟨_, _, fun_mk (st := s_is_row) l_is_row c_is_row k_is_row, PySem.W.mg_of X G a_is_row, (fun_mk (st := s_is_row) l_is_row c_is_row k_is_row).binds (ps := ["thing", "fewest", "most"]) fun _ _ _ _ _ _ us hl => match us, hl with | [_, _, _], _ => rfl⟩
  have D_check_edition : Df K mg "check_edition" s_check_edition ["thing"] := ⟨_, _, fun_mk (st := s_check_edition) l_check_edition c_check_edition k_check_edition, PySem.W.mg_of X G a_check_edition, (fun_mk (st := s_check_edition) l_check_edition c_check_edition k_check_edition).binds (ps := ["thing"]) fun _ _ _ _ _ _ us hl => match us, hl with | [_], _ => rfl⟩
  have D_kept_books : Df K mg "kept_books" s_kept_books ["books"] := ⟨_, _, fun_mk (st := s_kept_books) l_kept_books c_kept_books k_kept_books, PySem.W.mg_of X G a_kept_books, (fun_mk (st := s_kept_books) l_kept_books c_kept_books k_kept_books).binds (ps := ["books"]) fun _ _ _ _ _ _ us hl => match us, hl with | [_], _ => rfl⟩
  have D_kept_book : Df K mg "kept_book" s_kept_book ["book", "names"] := ⟨_, _, fun_mk (st := s_kept_book) l_kept_book c_kept_book k_kept_book, PySem.W.mg_of X G a_kept_book, (fun_mk (st := s_kept_book) l_kept_book c_kept_book k_kept_book).binds (ps := ["book", "names"]) fun _ _ _ _ _ _ us hl => match us, hl with | [_, _], _ => rfl⟩
  have D_kept_chapter : Df K mg "kept_chapter" s_kept_chapter ["chapter"] := ⟨_, _, fun_mk (st := s_kept_chapter) l_kept_chapter c_kept_chapter k_kept_chapter, PySem.W.mg_of X G a_kept_chapter, (fun_mk (st := s_kept_chapter) l_kept_chapter c_kept_chapter k_kept_chapter).binds (ps := ["chapter"]) fun _ _ _ _ _ _ us hl => match us, hl with | [_], _ => rfl⟩
  have D_check_counts : Df K mg "check_counts" s_check_counts ["books"] := ⟨_, _, fun_mk (st := s_check_counts) l_check_counts c_check_counts k_check_counts, PySem.W.mg_of X G a_check_counts, (fun_mk (st := s_check_counts) l_check_counts c_check_counts k_check_counts).binds (ps := ["books"]) fun _ _ _ _ _ _ us hl => match us, hl with | [_], _ => rfl⟩
  have D_kept_lines : Df K mg "kept_lines" s_kept_lines ["lines", "size"] := ⟨_, _, fun_mk (st := s_kept_lines) l_kept_lines c_kept_lines k_kept_lines, PySem.W.mg_of X G a_kept_lines, (fun_mk (st := s_kept_lines) l_kept_lines c_kept_lines k_kept_lines).binds (ps := ["lines", "size"]) fun _ _ _ _ _ _ us hl => match us, hl with | [_, _], _ => rfl⟩
  have D_lines_of_pair : Df K mg "lines_of_pair" s_lines_of_pair ["pair"] := ⟨_, _, fun_mk (st := s_lines_of_pair) l_lines_of_pair c_lines_of_pair k_lines_of_pair, PySem.W.mg_of X G a_lines_of_pair, (fun_mk (st := s_lines_of_pair) l_lines_of_pair c_lines_of_pair k_lines_of_pair).binds (ps := ["pair"]) fun _ _ _ _ _ _ us hl => match us, hl with | [_], _ => rfl⟩
  have D_fewest_pairs : Df K mg "fewest_pairs" s_fewest_pairs ["lines"] := ⟨_, _, fun_mk (st := s_fewest_pairs) l_fewest_pairs c_fewest_pairs k_fewest_pairs, PySem.W.mg_of X G a_fewest_pairs, (fun_mk (st := s_fewest_pairs) l_fewest_pairs c_fewest_pairs k_fewest_pairs).binds (ps := ["lines"]) fun _ _ _ _ _ _ us hl => match us, hl with | [_], _ => rfl⟩
  have D_places_in : Df K mg "places_in" s_places_in ["books"] := ⟨_, _, fun_mk (st := s_places_in) l_places_in c_places_in k_places_in, PySem.W.mg_of X G a_places_in, (fun_mk (st := s_places_in) l_places_in c_places_in k_places_in).binds (ps := ["books"]) fun _ _ _ _ _ _ us hl => match us, hl with | [_], _ => rfl⟩
  have D_stretches_of : Df K mg "stretches_of" s_stretches_of ["places"] := ⟨_, _, fun_mk (st := s_stretches_of) l_stretches_of c_stretches_of k_stretches_of, PySem.W.mg_of X G a_stretches_of, (fun_mk (st := s_stretches_of) l_stretches_of c_stretches_of k_stretches_of).binds (ps := ["places"]) fun _ _ _ _ _ _ us hl => match us, hl with | [_], _ => rfl⟩
  have D_merged : Df K mg "merged" s_merged ["edition", "spot"] := ⟨_, _, fun_mk (st := s_merged) l_merged c_merged k_merged, PySem.W.mg_of X G a_merged, (fun_mk (st := s_merged) l_merged c_merged k_merged).binds (ps := ["edition", "spot"]) fun _ _ _ _ _ _ us hl => match us, hl with | [_, _], _ => rfl⟩
  have D_parts_of_verse : Df K mg "parts_of_verse" s_parts_of_verse ["edition", "spot"] := ⟨_, _, fun_mk (st := s_parts_of_verse) l_parts_of_verse c_parts_of_verse k_parts_of_verse, PySem.W.mg_of X G a_parts_of_verse, (fun_mk (st := s_parts_of_verse) l_parts_of_verse c_parts_of_verse k_parts_of_verse).binds (ps := ["edition", "spot"]) fun _ _ _ _ _ _ us hl => match us, hl with | [_, _], _ => rfl⟩
  have D_with_verses : Df K mg "with_verses" s_with_verses ["edition", "spot", "gone", "counts"] := ⟨_, _, fun_mk (st := s_with_verses) l_with_verses c_with_verses k_with_verses, PySem.W.mg_of X G a_with_verses, (fun_mk (st := s_with_verses) l_with_verses c_with_verses k_with_verses).binds (ps := ["edition", "spot", "gone", "counts"]) fun _ _ _ _ _ _ us hl => match us, hl with | [_, _, _, _], _ => rfl⟩
  have D__law_cell_at : Df K mg "_law_cell_at" s__law_cell_at ["script", "k"] := ⟨_, _, fun_mk (st := s__law_cell_at) l__law_cell_at c__law_cell_at k__law_cell_at, PySem.W.mg_of X G a__law_cell_at, (fun_mk (st := s__law_cell_at) l__law_cell_at c__law_cell_at k__law_cell_at).binds (ps := ["script", "k"]) fun _ _ _ _ _ _ us hl => match us, hl with | [_, _], _ => rfl⟩
  have D__law_row : Df K mg "_law_row" s__law_row ["cell", "count", "salt"] := ⟨_, _, fun_mk (st := s__law_row) l__law_row c__law_row k__law_row, PySem.W.mg_of X G a__law_row, (fun_mk (st := s__law_row) l__law_row c__law_row k__law_row).binds (ps := ["cell", "count", "salt"]) fun _ _ _ _ _ _ us hl => match us, hl with | [_, _, _], _ => rfl⟩
  have D__law_names : Df K mg "_law_names" s__law_names ["row", "count"] := ⟨_, _, fun_mk (st := s__law_names) l__law_names c__law_names k__law_names, PySem.W.mg_of X G a__law_names, (fun_mk (st := s__law_names) l__law_names c__law_names k__law_names).binds (ps := ["row", "count"]) fun _ _ _ _ _ _ us hl => match us, hl with | [_, _], _ => rfl⟩
  have D__law_books : Df K mg "_law_books" s__law_books ["cell", "salt"] := ⟨_, _, fun_mk (st := s__law_books) l__law_books c__law_books k__law_books, PySem.W.mg_of X G a__law_books, (fun_mk (st := s__law_books) l__law_books c__law_books k__law_books).binds (ps := ["cell", "salt"]) fun _ _ _ _ _ _ us hl => match us, hl with | [_, _], _ => rfl⟩
  have D__law_copy : Df K mg "_law_copy" s__law_copy ["books"] := ⟨_, _, fun_mk (st := s__law_copy) l__law_copy c__law_copy k__law_copy, PySem.W.mg_of X G a__law_copy, (fun_mk (st := s__law_copy) l__law_copy c__law_copy k__law_copy).binds (ps := ["books"]) fun _ _ _ _ _ _ us hl => match us, hl with | [_], _ => rfl⟩
  have D__law_spots : Df K mg "_law_spots" s__law_spots ["books"] := ⟨_, _, fun_mk (st := s__law_spots) l__law_spots c__law_spots k__law_spots, PySem.W.mg_of X G a__law_spots, (fun_mk (st := s__law_spots) l__law_spots c__law_spots k__law_spots).binds (ps := ["books"]) fun _ _ _ _ _ _ us hl => match us, hl with | [_], _ => rfl⟩
  have D__law_threads : Df K mg "_law_threads" s__law_threads ["row", "size", "span", "low", "way"] := ⟨_, _, fun_mk (st := s__law_threads) l__law_threads c__law_threads k__law_threads, PySem.W.mg_of X G a__law_threads, (fun_mk (st := s__law_threads) l__law_threads c__law_threads k__law_threads).binds (ps := ["row", "size", "span", "low", "way"]) fun _ _ _ _ _ _ us hl => match us, hl with | [_, _, _, _, _], _ => rfl⟩
  have D__law_edition : Df K mg "_law_edition" s__law_edition ["books", "threads", "way"] := ⟨_, _, fun_mk (st := s__law_edition) l__law_edition c__law_edition k__law_edition, PySem.W.mg_of X G a__law_edition, (fun_mk (st := s__law_edition) l__law_edition c__law_edition k__law_edition).binds (ps := ["books", "threads", "way"]) fun _ _ _ _ _ _ us hl => match us, hl with | [_, _, _], _ => rfl⟩
  have D__law_one : Df K mg "_law_one" s__law_one ["script"] := ⟨_, _, fun_mk (st := s__law_one) l__law_one c__law_one k__law_one, PySem.W.mg_of X G a__law_one, (fun_mk (st := s__law_one) l__law_one c__law_one k__law_one).binds (ps := ["script"]) fun _ _ _ _ _ _ us hl => match us, hl with | [_], _ => rfl⟩
  have D__law_told : Df K mg "_law_told" s__law_told ["books", "threads"] := ⟨_, _, fun_mk (st := s__law_told) l__law_told c__law_told k__law_told, PySem.W.mg_of X G a__law_told, (fun_mk (st := s__law_told) l__law_told c__law_told k__law_told).binds (ps := ["books", "threads"]) fun _ _ _ _ _ _ us hl => match us, hl with | [_, _], _ => rfl⟩
  have D__law_alike : Df K mg "_law_alike" s__law_alike ["found", "due"] := ⟨_, _, fun_mk (st := s__law_alike) l__law_alike c__law_alike k__law_alike, PySem.W.mg_of X G a__law_alike, (fun_mk (st := s__law_alike) l__law_alike c__law_alike k__law_alike).binds (ps := ["found", "due"]) fun _ _ _ _ _ _ us hl => match us, hl with | [_, _], _ => rfl⟩
  have D__law_divisions : Df K mg "_law_divisions" s__law_divisions ["books"] := ⟨_, _, fun_mk (st := s__law_divisions) l__law_divisions c__law_divisions k__law_divisions, PySem.W.mg_of X G a__law_divisions, (fun_mk (st := s__law_divisions) l__law_divisions c__law_divisions k__law_divisions).binds (ps := ["books"]) fun _ _ _ _ _ _ us hl => match us, hl with | [_], _ => rfl⟩
  have D__law_divide : Df K mg "_law_divide" s__law_divide ["books", "choice", "cell"] := ⟨_, _, fun_mk (st := s__law_divide) l__law_divide c__law_divide k__law_divide, PySem.W.mg_of X G a__law_divide, (fun_mk (st := s__law_divide) l__law_divide c__law_divide k__law_divide).binds (ps := ["books", "choice", "cell"]) fun _ _ _ _ _ _ us hl => match us, hl with | [_, _, _], _ => rfl⟩
  have D__law_asked : Df K mg "_law_asked" s__law_asked ["edition", "deed", "cell"] := ⟨_, _, fun_mk (st := s__law_asked) l__law_asked c__law_asked k__law_asked, PySem.W.mg_of X G a__law_asked, (fun_mk (st := s__law_asked) l__law_asked c__law_asked k__law_asked).binds (ps := ["edition", "deed", "cell"]) fun _ _ _ _ _ _ us hl => match us, hl with | [_, _, _], _ => rfl⟩
  have D__law_kept : Df K mg "_law_kept" s__law_kept ["edition", "threads"] := ⟨_, _, fun_mk (st := s__law_kept) l__law_kept c__law_kept k__law_kept, PySem.W.mg_of X G a__law_kept, (fun_mk (st := s__law_kept) l__law_kept c__law_kept k__law_kept).binds (ps := ["edition", "threads"]) fun _ _ _ _ _ _ us hl => match us, hl with | [_, _], _ => rfl⟩
  have D__law_right : Df K mg "_law_right" s__law_right ["edition", "books", "threads", "choice", "cell"] := ⟨_, _, fun_mk (st := s__law_right) l__law_right c__law_right k__law_right, PySem.W.mg_of X G a__law_right, (fun_mk (st := s__law_right) l__law_right c__law_right k__law_right).binds (ps := ["edition", "books", "threads", "choice", "cell"]) fun _ _ _ _ _ _ us hl => match us, hl with | [_, _, _, _, _], _ => rfl⟩
  have D_law : Df K mg "law" s_law ["script"] := ⟨_, _, fun_mk (st := s_law) l_law c_law k_law, PySem.W.mg_of X G a_law, (fun_mk (st := s_law) l_law c_law k_law).binds (ps := ["script"]) fun _ _ _ _ _ _ us hl => match us, hl with | [_], _ => rfl⟩
  exact ⟨_, fun s v => .of_eq rfl, fun base _ _ => by
    have EC : EdC K C := ⟨⟨pgC, hdC, poC, saC⟩, w1, w2, w3, w4, w5, w6, w7⟩
    have O : OwnK K C := ⟨EC.cl, haC, hnC, tkC, hmC, kit_sub (by decide +kernel) q1, kit_sub (by decide +kernel) q2, kit_sub (by decide +kernel) q3⟩
    have kk : PySem.W.kitOne K (.ref C) (.ref C) = some true := kit_self
    have gC : ∃ u, mg "Edition" = some u ∧ RelV (.ref C) u := ⟨_, PySem.W.mg_of X G aE, rfl⟩
    have cCA : Cl l.prog w K mg base 2 "_law_cell_at" ["script", "k"] (sp_cellAt K) := ok_cellAt T D__law_cell_at
    have cRowL : Cl l.prog w K mg base 2 "_law_row" ["cell", "count", "salt"] sp_row := ok_rowL T D__law_row
    have cNamK : Cl l.prog w K mg base 2 "_law_names" ["row", "count"] sp_namesK := ok_namesK T D__law_names
    have cBksL : Cl l.prog w K mg base 3 "_law_books" ["cell", "salt"] sp_booksK := ok_booksK T cRowL cNamK D__law_books
    have cCopy : Cl l.prog w K mg base 2 "_law_copy" ["books"] sp_copy := ok_copy T D__law_copy
    have cSpots : Cl l.prog w K mg base 2 "_law_spots" ["books"] sp_spotsL := ok_spotsL T D__law_spots
    have cAlike : Cl l.prog w K mg base 7 "_law_alike" ["found", "due"] (sp_alike 6) := ok_alike T D__law_alike
    have cNum : Cl l.prog w K mg base 1 "is_number" ["thing"] (sp_num K) := ok_isNum T D_is_number
    have cWhole : Cl l.prog w K mg base 2 "is_whole" ["thing", "low", "high"] (sp_whole K) := ok_whole T cNum D_is_whole
    have cMade : Cl l.prog w K mg base 2 "is_made_of" ["thing", "signs", "most"] (sp_made K) := ok_made T D_is_made_of
    have cName : Cl l.prog w K mg base 3 "is_name" ["thing"] (sp_name K) := ok_name T cMade D_is_name
    have cTup : Cl l.prog w K mg base 2 "is_tuple" ["thing", "fewest", "most"] sp_isTup := ok_isTup T D_is_tuple
    have cRow : Cl l.prog w K mg base 2 "is_row" ["thing", "fewest", "most"] sp_isRow := ok_isRow T D_is_row
    have cCh : Cl l.prog w K mg base 3 "kept_chapter" ["chapter"] sp_keptCh := ok_keptCh T cWhole cRow D_kept_chapter
    have cBk : Cl l.prog w K mg base 4 "kept_book" ["book", "names"] sp_keptBk := ok_keptBk T cName cTup cRow cCh D_kept_book
    have cCounts : Cl l.prog w K mg base 2 "check_counts" ["books"] sp_counts := ok_counts T D_check_counts
    have cBks : Cl l.prog w K mg base 5 "kept_books" ["books"] sp_keptBks := ok_keptBks T cRow cBk cCounts D_kept_books
    have cLnPair : Cl l.prog w K mg base 3 "lines_of_pair" ["pair"] sp_lnPair := ok_lnPair T cWhole cTup D_lines_of_pair
    have cKeptLn : Cl l.prog w K mg base 4 "kept_lines" ["lines", "size"] sp_keptLn := ok_keptLn T cRow cLnPair D_kept_lines
    have cFewest : Cl l.prog w K mg base 2 "fewest_pairs" ["lines"] (sp_fewest K) := ok_fewest T D_fewest_pairs
    have cPlaces : Cl l.prog w K mg base 2 "places_in" ["books"] sp_places := ok_places T D_places_in
    have cStret : Cl l.prog w K mg base 2 "stretches_of" ["places"] sp_stret := ok_stret T D_stretches_of
    have cCopyX : Cl l.prog w K mg base 2 "_law_copy" ["books"] sp_copyX := ok_copyX T D__law_copy
    have cThr : Cl l.prog w K mg base 2 "_law_threads" ["row", "size", "span", "low", "way"] sp_threads := ok_threads T D__law_threads
    have FI : FunD K "__init__" "Edition.__init__" (defArgs s_Edition___init__) (defBody s_Edition___init__) (defScope s_Edition___init__) [.non] [] fI _ := ⟨⟨_, _, _, _, _, _, _, _, _, _, rfl, lI, cI, .inr ⟨(fun z => nomatch z), TI, _, [Value.none], _, rfl, lT, rfl, .cons rfl .nil⟩, .inl rfl⟩, kI⟩
    have bI : Binds K _ ["self", "books", "lines"] [] := bindsD_all (fd := PySem.W.fnOf "__init__" "Edition.__init__" (defArgs s_Edition___init__) (defBody s_Edition___init__) (defScope s_Edition___init__) (.ref TI) kVI dcI pmI anI cdI ctI) lT rfl fun us hl => match us, hl with | [_, _, _], _ => ⟨_, rfl, rfl⟩
    have cEd : C8.Mak l.prog w K mg base 6 "Edition" C (sp_init C) [] := ⟨⟨_, _, _, _, ⟨mkC, iI, nI, kC⟩, ok_init T EC cBks cPlaces cStret cKeptLn cFewest FI, PySem.W.mg_of X G aE, bI, .nil⟩⟩
    have F_size := fun_mk (st := s_Edition_size) l_Msize c_Msize k_Msize
    have b_size : Binds K _ ["self"] [] := F_size.binds (ps := ["self"]) fun _ _ _ _ _ _ us hl => match us, hl with | [_], _ => rfl
    have m_size : C8.Met l.prog w K mg base 2 C "size" (sp_size C) [] := ⟨⟨_, _, _, _, EC.cl, ⟨i_Msize, n_Msize, k_Msize⟩, ok_size T EC F_size, b_size, .nil⟩⟩
    have F_lines := fun_mk (st := s_Edition_lines) l_Mlines c_Mlines k_Mlines
    have b_lines : Binds K _ ["self"] [] := F_lines.binds (ps := ["self"]) fun _ _ _ _ _ _ us hl => match us, hl with | [_], _ => rfl
    have m_lines : C8.Met l.prog w K mg base 2 C "lines" (sp_lines C) [] := ⟨⟨_, _, _, _, EC.cl, ⟨i_Mlines, n_Mlines, k_Mlines⟩, ok_lines T EC F_lines, b_lines, .nil⟩⟩
    have F__check_number := fun_mk (st := s_Edition__check_number) l_M_check_number c_M_check_number k_M_check_number
    have b__check_number : Binds K _ ["self", "number"] [] := F__check_number.binds (ps := ["self", "number"]) fun _ _ _ _ _ _ us hl => match us, hl with | [_, _], _ => rfl
    have m__check_number : C8.Met l.prog w K mg base 3 C "_check_number" (sp_checkN C) [] := ⟨⟨_, _, _, _, EC.cl, ⟨i_M_check_number, n_M_check_number, k_M_check_number⟩, ok_checkN T EC cWhole m_size F__check_number, b__check_number, .nil⟩⟩
    have F_line_at := fun_mk (st := s_Edition_line_at) l_Mline_at c_Mline_at k_Mline_at
    have b_line_at : Binds K _ ["self", "number"] [] := F_line_at.binds (ps := ["self", "number"]) fun _ _ _ _ _ _ us hl => match us, hl with | [_, _], _ => rfl
    have m_line_at : C8.Met l.prog w K mg base 4 C "line_at" (sp_lineAt C) [] := ⟨⟨_, _, _, _, EC.cl, ⟨i_Mline_at, n_Mline_at, k_Mline_at⟩, ok_lineAt T EC m__check_number F_line_at, b_line_at, .nil⟩⟩
    have F_part_of := fun_mk (st := s_Edition_part_of) l_Mpart_of c_Mpart_of k_Mpart_of
    have b_part_of : Binds K _ ["self", "thing"] [] := F_part_of.binds (ps := ["self", "thing"]) fun _ _ _ _ _ _ us hl => match us, hl with | [_, _], _ => rfl
    have m_part_of : C8.Met l.prog w K mg base 3 C "part_of" (sp_partOf K C) [] := ⟨⟨_, _, _, _, EC.cl, ⟨i_Mpart_of, n_Mpart_of, k_Mpart_of⟩, ok_partOf T EC cWhole F_part_of, b_part_of, .nil⟩⟩
    have F_told := fun_mk (st := s_Edition_told) l_Mtold c_Mtold k_Mtold
    have b_told : Binds K _ ["self"] [] := F_told.binds (ps := ["self"]) fun _ _ _ _ _ _ us hl => match us, hl with | [_], _ => rfl
    have m_told : C8.Met l.prog w K mg base 3 C "told" (sp_told C) [] := ⟨⟨_, _, _, _, EC.cl, ⟨i_Mtold, n_Mtold, k_Mtold⟩, ok_told T EC F_told, b_told, .nil⟩⟩
    have F_same := fun_mk (st := s_Edition_same) l_Msame c_Msame k_Msame
    have b_same : Binds K _ ["self", "thing"] [] := F_same.binds (ps := ["self", "thing"]) fun _ _ _ _ _ _ us hl => match us, hl with | [_, _], _ => rfl
    have m_same : C8.Met l.prog w K mg base 4 C "same" (sp_same C) [] := ⟨⟨_, _, _, _, EC.cl, ⟨i_Msame, n_Msame, k_Msame⟩, ok_same T EC O kk gC m_told F_same, b_same, .nil⟩⟩
    have F__book := fun_mk (st := s_Edition__book) l_M_book c_M_book k_M_book
    have b__book : Binds K _ ["self", "name"] [] := F__book.binds (ps := ["self", "name"]) fun _ _ _ _ _ _ us hl => match us, hl with | [_, _], _ => rfl
    have m__book : C8.Met l.prog w K mg base 2 C "_book" (sp_book C) [] := ⟨⟨_, _, _, _, EC.cl, ⟨i_M_book, n_M_book, k_M_book⟩, ok_book T EC F__book, b__book, .nil⟩⟩
    have F__chapter := fun_mk (st := s_Edition__chapter) l_M_chapter c_M_chapter k_M_chapter
    have b__chapter : Binds K _ ["self", "name", "chapter"] [] := F__chapter.binds (ps := ["self", "name", "chapter"]) fun _ _ _ _ _ _ us hl => match us, hl with | [_, _, _], _ => rfl
    have m__chapter : C8.Met l.prog w K mg base 3 C "_chapter" (sp_chap C) [] := ⟨⟨_, _, _, _, EC.cl, ⟨i_M_chapter, n_M_chapter, k_M_chapter⟩, ok_chap T EC cWhole m__book F__chapter, b__chapter, .nil⟩⟩
    have F_parts := fun_mk (st := s_Edition_parts) l_Mparts c_Mparts k_Mparts
    have b_parts : Binds K _ ["self", "name", "chapter", "verse"] [] := F_parts.binds (ps := ["self", "name", "chapter", "verse"]) fun _ _ _ _ _ _ us hl => match us, hl with | [_, _, _, _], _ => rfl
    have m_parts : C8.Met l.prog w K mg base 4 C "parts" (sp_parts C) [] := ⟨⟨_, _, _, _, EC.cl, ⟨i_Mparts, n_Mparts, k_Mparts⟩, ok_parts T EC cWhole m__chapter F_parts, b_parts, .nil⟩⟩
    have F_verses := fun_mk (st := s_Edition_verses) l_Mverses c_Mverses k_Mverses
    have b_verses : Binds K _ ["self", "name", "chapter"] [] := F_verses.binds (ps := ["self", "name", "chapter"]) fun _ _ _ _ _ _ us hl => match us, hl with | [_, _, _], _ => rfl
    have m_verses : C8.Met l.prog w K mg base 4 C "verses" (sp_versesE C) [] := ⟨⟨_, _, _, _, EC.cl, ⟨i_Mverses, n_Mverses, k_Mverses⟩, ok_versesE T EC m__chapter F_verses, b_verses, .nil⟩⟩
    have ms_parts : MetB l.prog w K mg base 4 C "parts" (sp_parts C) := ⟨f_Mparts, EC.cl, ⟨⟨i_Mparts, n_Mparts, k_Mparts⟩, gf_Mparts, tk_Mparts, by decide, fi_Mparts⟩, ((ok_parts T EC cWhole m__chapter F_parts).raw b_parts .nil).imp fun vs H Q E h => by rw [List.append_nil]; exact h⟩
    have bED : Binds K _ ["self", "books", "lines"] [Value.none] := bindsD_one (m := 2) (fd := PySem.W.fnOf "__init__" "Edition.__init__" (defArgs s_Edition___init__) (defBody s_Edition___init__) (defScope s_Edition___init__) (.ref TI) kVI dcI pmI anI cdI ctI) rfl lT rfl fun us hl => match us, hl with | [_, _], _ => ⟨_, rfl, rfl⟩
    have cEdD : C8.Mak l.prog w K mg base 6 "Edition" C (sp_init C) [.non] := ⟨⟨_, _, _, _, ⟨mkC, iI, nI, kC⟩, ok_init T EC cBks cPlaces cStret cKeptLn cFewest FI, PySem.W.mg_of X G aE, bED, .cons rfl .nil⟩⟩
    have cEdN : MakN l.prog w K mg base 6 "Edition" C 1 ["lines"] (fun vs zs => vs ++ zs) (sp_init C) := ⟨fI, _, ["self", "books", "lines"], _, ⟨mkC, iI, nI, kC⟩, ok_init T EC cBks cPlaces cStret cKeptLn cFewest FI, PySem.W.mg_of X G aE, kbn_all (m := 2) lT rfl fun us ws hl hw => match us, ws, hl, hw with | [_, _], [_], _, _ => ⟨_, rfl, rfl⟩⟩
    have cEdL : Cl l.prog w K mg base 8 "_law_edition" ["books", "threads", "way"] (sp_edL C) := ok_edL T cCopy cEdD cEdN D__law_edition
    have cOne : Cl l.prog w K mg base 4 "_law_one" ["script"] (sp_one K) := ok_one T cCA cBksL cSpots cRowL cThr D__law_one
    have cToldT : Cl l.prog w K mg base 2 "_law_told" ["books", "threads"] sp_toldT := ok_toldT T D__law_told
    have cChk : Cl l.prog w K mg base 2 "check_edition" ["thing"] (sp_chkEd C) := ok_chkEd T EC O kk gC D_check_edition
    have cPov : Cl l.prog w K mg base 5 "parts_of_verse" ["edition", "spot"] (sp_pov C) := ok_pov T cTup ms_parts D_parts_of_verse
    have cWv : Cl l.prog w K mg base 8 "with_verses" ["edition", "spot", "gone", "counts"] (sp_withV C) := ok_withV T m_told cEd D_with_verses
    have cMer : Cl l.prog w K mg base 9 "merged" ["edition", "spot"] (sp_mer C) := ok_mer T cChk cPov m_parts cWv D_merged
    obtain ⟨T_divided, kV_divided, dc_divided, pm_divided, an_divided, cd_divided, ct_divided, o_divided, u_divided, n_divided, FD_divided, lT_divided, oT_divided, ru_divided⟩ := FunD.oneV h_divided
    have ok_divided_ := ok_div T cChk cPov cWhole m_verses cWv FD_divided
    have c_divided_A : ClD l.prog w K mg base 9 "divided" [] (sp_div C) := ⟨_, _, _, [], ok_divided_, PySem.W.mg_of X G a_divided, FD_divided.kp, bindsD_all lT_divided oT_divided fun us hl => match us, hl with | [_, _, _], _ => ⟨_, rfl, rfl⟩, .nil⟩
    have c_divided_D : ClD l.prog w K mg base 9 "divided" [.int 1] (sp_div C) := ⟨_, _, _, [u_divided], ok_divided_, PySem.W.mg_of X G a_divided, FD_divided.kp, bindsD_one (m := 2) rfl lT_divided oT_divided fun us hl => match us, hl with | [_, _], _ => ⟨_, rfl, rfl⟩, .cons ru_divided .nil⟩
    have c_divided_N : ClN l.prog w K mg base 9 "divided" 2 ["many"] (fun vs zs => vs ++ zs) (sp_div C) := ⟨_, _, _, _, ok_divided_, PySem.W.mg_of X G a_divided, FD_divided.kp, kbn_all (m := 2) lT_divided oT_divided fun us ws hl hw => match us, ws, hl, hw with | [_, _], [_], _, _ => ⟨_, rfl, rfl⟩⟩
    have cDivs : Cl l.prog w K mg base 2 "_law_divisions" ["books"] sp_divisions := ok_divisions T D__law_divisions
    have cDivide : Cl l.prog w K mg base 3 "_law_divide" ["books", "choice", "cell"] sp_divide := ok_divide T cCopyX D__law_divide
    have cAsk : Cl l.prog w K mg base 10 "_law_asked" ["edition", "deed", "cell"] (sp_askedD C) := ok_askedD T cMer c_divided_D c_divided_A c_divided_N D__law_asked
    have cKeptD : Cl l.prog w K mg base 8 "_law_kept" ["edition", "threads"] (sp_keptD C) := ok_keptD T cAlike m_part_of m_line_at m_lines D__law_kept
    have cRight : Cl l.prog w K mg base 11 "_law_right" ["edition", "books", "threads", "choice", "cell"] (sp_rightD C) := ok_rightD T cDivide cAsk m_told cToldT cAlike m_lines cEdL m_same cMer c_divided_A D__law_right
    exact ok_law T (fun_mk (st := s_law) l_law c_law k_law) cCA cOne cEdL cDivs cToldT cAlike m_told cRight cDivide cAsk cKeptD⟩
end My
namespace My
open PySem PySem.Spec PyProof.Rows L2
theorem lawM {l : PySem.W.OpenLaw} {w : World} {K : PySem.W.Frag} {h : Heap} {mg : Str → Option Value} {fa : Addr} (X : K.In h) (G : h.Ns mainGlobals mg) (hfa : mg "law" = some (.ref fa)) (c : ∀ p ∈ psM, SaysM p.1 p.2 K) : ∃ fd : FuncData, (∀ (s : Shared) (v : Value), BindsTo s fd ⟨[v], []⟩ [("script", v)]) ∧ ∀ base : Heap, K.In base → base.Ns mainGlobals mg → FnG l.prog w K mg base LV fa fd ["script"] (sp_law K) := by
    have a__wall : PySem.W.nsIn K mainGlobals "_wall" = some (some (.ref (He.ga K "_wall"))) := He.eqO_ok ((saysM0 c).fact (f := fun K => He.eqO (PySem.W.nsIn K mainGlobals "_wall") (some (some (.ref (He.ga K "_wall"))))) 0 rfl)
    obtain ⟨_, _, _, _, _, _, _, _, _, l__wall, c__wall, k__wall⟩ := FunD.plain ((saysM1 c).def_ (d := fnM_0) 0 rfl)
    have a_is_number : PySem.W.nsIn K mainGlobals "is_number" = some (some (.ref (He.ga K "is_number"))) := He.eqO_ok ((saysM0 c).fact (f := fun K => He.eqO (PySem.W.nsIn K mainGlobals "is_number") (some (some (.ref (He.ga K "is_number"))))) 1 rfl)
    obtain ⟨_, _, _, _, _, _, _, _, _, l_is_number, c_is_number, k_is_number⟩ := FunD.plain ((saysM1 c).def_ (d := fnM_1) 1 rfl)
    have a_is_whole : PySem.W.nsIn K mainGlobals "is_whole" = some (some (.ref (He.ga K "is_whole"))) := He.eqO_ok ((saysM0 c).fact (f := fun K => He.eqO (PySem.W.nsIn K mainGlobals "is_whole") (some (some (.ref (He.ga K "is_whole"))))) 2 rfl)
    obtain ⟨_, _, _, _, _, _, _, _, _, l_is_whole, c_is_whole, k_is_whole⟩ := FunD.plain ((saysM1 c).def_ (d := fnM_2) 2 rfl)
    have a_is_name : PySem.W.nsIn K mainGlobals "is_name" = some (some (.ref (He.ga K "is_name"))) := He.eqO_ok ((saysM0 c).fact (f := fun K => He.eqO (PySem.W.nsIn K mainGlobals "is_name") (some (some (.ref (He.ga K "is_name"))))) 3 rfl)
    obtain ⟨_, _, _, _, _, _, _, _, _, l_is_name, c_is_name, k_is_name⟩ := FunD.plain ((saysM1 c).def_ (d := fnM_3) 3 rfl)
    have a_is_made_of : PySem.W.nsIn K mainGlobals "is_made_of" = some (some (.ref (He.ga K "is_made_of"))) := He.eqO_ok ((saysM0 c).fact (f := fun K => He.eqO (PySem.W.nsIn K mainGlobals "is_made_of") (some (some (.ref (He.ga K "is_made_of"))))) 4 rfl)
    obtain ⟨_, _, _, _, _, _, _, _, _, l_is_made_of, c_is_made_of, k_is_made_of⟩ := FunD.plain ((saysM1 c).def_ (d := fnM_4) 4 rfl)
    have a_is_tuple : PySem.W.nsIn K mainGlobals "is_tuple" = some (some (.ref (He.ga K "is_tuple"))) := He.eqO_ok ((saysM0 c).fact (f := fun K => He.eqO (PySem.W.nsIn K mainGlobals "is_tuple") (some (some (.ref (He.ga K "is_tuple"))))) 5 rfl)
    obtain ⟨_, _, _, _, _, _, _, _, _, l_is_tuple, c_is_tuple, k_is_tuple⟩ := FunD.plain ((saysM1 c).def_ (d := fnM_5) 5 rfl)
    have a_is_row : PySem.W.nsIn K mainGlobals "is_row" = some (some (.ref (He.ga K "is_row"))) := He.eqO_ok ((saysM0 c).fact (f := fun K => He.eqO (PySem.W.nsIn K mainGlobals "is_row") (some (some (.ref (He.ga K "is_row"))))) 6 rfl)
    obtain ⟨_, _, _, _, _, _, _, _, _, l_is_row, c_is_row, k_is_row⟩ := FunD.plain ((saysM1 c).def_ (d := fnM_6) 6 rfl)
    have a_check_edition : PySem.W.nsIn K mainGlobals "check_edition" = some (some (.ref (He.ga K "check_edition"))) := He.eqO_ok ((saysM0 c).fact (f := fun K => He.eqO (PySem.W.nsIn K mainGlobals "check_edition") (some (some (.ref (He.ga K "check_edition"))))) 7 rfl)
    obtain ⟨_, _, _, _, _, _, _, _, _, l_check_edition, c_check_edition, k_check_edition⟩ := FunD.plain ((saysM1 c).def_ (d := fnM_7) 7 rfl)
    have a_kept_books : PySem.W.nsIn K mainGlobals "kept_books" = some (some (.ref (He.ga K "kept_books"))) := He.eqO_ok ((saysM0 c).fact (f := fun K => He.eqO (PySem.W.nsIn K mainGlobals "kept_books") (some (some (.ref (He.ga K "kept_books"))))) 8 rfl)
    obtain ⟨_, _, _, _, _, _, _, _, _, l_kept_books, c_kept_books, k_kept_books⟩ := FunD.plain ((saysM1 c).def_ (d := fnM_8) 8 rfl)
    have a_kept_book : PySem.W.nsIn K mainGlobals "kept_book" = some (some (.ref (He.ga K "kept_book"))) := He.eqO_ok ((saysM0 c).fact (f := fun K => He.eqO (PySem.W.nsIn K mainGlobals "kept_book") (some (some (.ref (He.ga K "kept_book"))))) 9 rfl)
    obtain ⟨_, _, _, _, _, _, _, _, _, l_kept_book, c_kept_book, k_kept_book⟩ := FunD.plain ((saysM1 c).def_ (d := fnM_9) 9 rfl)
    have a_kept_chapter : PySem.W.nsIn K mainGlobals "kept_chapter" = some (some (.ref (He.ga K "kept_chapter"))) := He.eqO_ok ((saysM0 c).fact (f := fun K => He.eqO (PySem.W.nsIn K mainGlobals "kept_chapter") (some (some (.ref (He.ga K "kept_chapter"))))) 10 rfl)
    obtain ⟨_, _, _, _, _, _, _, _, _, l_kept_chapter, c_kept_chapter, k_kept_chapter⟩ := FunD.plain ((saysM1 c).def_ (d := fnM_10) 10 rfl)
    have a_check_counts : PySem.W.nsIn K mainGlobals "check_counts" = some (some (.ref (He.ga K "check_counts"))) := He.eqO_ok ((saysM0 c).fact (f := fun K => He.eqO (PySem.W.nsIn K mainGlobals "check_counts") (some (some (.ref (He.ga K "check_counts"))))) 11 rfl)
    obtain ⟨_, _, _, _, _, _, _, _, _, l_check_counts, c_check_counts, k_check_counts⟩ := FunD.plain ((saysM1 c).def_ (d := fnM_11) 11 rfl)
    have a_kept_lines : PySem.W.nsIn K mainGlobals "kept_lines" = some (some (.ref (He.ga K "kept_lines"))) := He.eqO_ok ((saysM0 c).fact (f := fun K => He.eqO (PySem.W.nsIn K mainGlobals "kept_lines") (some (some (.ref (He.ga K "kept_lines"))))) 12 rfl)
    obtain ⟨_, _, _, _, _, _, _, _, _, l_kept_lines, c_kept_lines, k_kept_lines⟩ := FunD.plain ((saysM1 c).def_ (d := fnM_12) 12 rfl)
    have a_lines_of_pair : PySem.W.nsIn K mainGlobals "lines_of_pair" = some (some (.ref (He.ga K "lines_of_pair"))) := He.eqO_ok ((saysM0 c).fact (f := fun K => He.eqO (PySem.W.nsIn K mainGlobals "lines_of_pair") (some (some (.ref (He.ga K "lines_of_pair"))))) 13 rfl)
    obtain ⟨_, _, _, _, _, _, _, _, _, l_lines_of_pair, c_lines_of_pair, k_lines_of_pair⟩ := FunD.plain ((saysM1 c).def_ (d := fnM_13) 13 rfl)
    have a_fewest_pairs : PySem.W.nsIn K mainGlobals "fewest_pairs" = some (some (.ref (He.ga K "fewest_pairs"))) := He.eqO_ok ((saysM0 c).fact (f := fun K => He.eqO (PySem.W.nsIn K mainGlobals "fewest_pairs") (some (some (.ref (He.ga K "fewest_pairs"))))) 14 rfl)
    obtain ⟨_, _, _, _, _, _, _, _, _, l_fewest_pairs, c_fewest_pairs, k_fewest_pairs⟩ := FunD.plain ((saysM1 c).def_ (d := fnM_14) 14 rfl)
    have a_places_in : PySem.W.nsIn K mainGlobals "places_in" = some (some (.ref (He.ga K "places_in"))) := He.eqO_ok ((saysM0 c).fact (f := fun K => He.eqO (PySem.W.nsIn K mainGlobals "places_in") (some (some (.ref (He.ga K "places_in"))))) 15 rfl)
    obtain ⟨_, _, _, _, _, _, _, _, _, l_places_in, c_places_in, k_places_in⟩ := FunD.plain ((saysM1 c).def_ (d := fnM_15) 15 rfl)
    have a_stretches_of : PySem.W.nsIn K mainGlobals "stretches_of" = some (some (.ref (He.ga K "stretches_of"))) := He.eqO_ok ((saysM0 c).fact (f := fun K => He.eqO (PySem.W.nsIn K mainGlobals "stretches_of") (some (some (.ref (He.ga K "stretches_of"))))) 16 rfl)
    obtain ⟨_, _, _, _, _, _, _, _, _, l_stretches_of, c_stretches_of, k_stretches_of⟩ := FunD.plain ((saysM1 c).def_ (d := fnM_16) 16 rfl)
    have a_merged : PySem.W.nsIn K mainGlobals "merged" = some (some (.ref (He.ga K "merged"))) := He.eqO_ok ((saysM0 c).fact (f := fun K => He.eqO (PySem.W.nsIn K mainGlobals "merged") (some (some (.ref (He.ga K "merged"))))) 17 rfl)
    obtain ⟨_, _, _, _, _, _, _, _, _, l_merged, c_merged, k_merged⟩ := FunD.plain ((saysM1 c).def_ (d := fnM_17) 17 rfl)
    have a_parts_of_verse : PySem.W.nsIn K mainGlobals "parts_of_verse" = some (some (.ref (He.ga K "parts_of_verse"))) := He.eqO_ok ((saysM0 c).fact (f := fun K => He.eqO (PySem.W.nsIn K mainGlobals "parts_of_verse") (some (some (.ref (He.ga K "parts_of_verse"))))) 18 rfl)
    obtain ⟨_, _, _, _, _, _, _, _, _, l_parts_of_verse, c_parts_of_verse, k_parts_of_verse⟩ := FunD.plain ((saysM1 c).def_ (d := fnM_18) 18 rfl)
    have a_with_verses : PySem.W.nsIn K mainGlobals "with_verses" = some (some (.ref (He.ga K "with_verses"))) := He.eqO_ok ((saysM0 c).fact (f := fun K => He.eqO (PySem.W.nsIn K mainGlobals "with_verses") (some (some (.ref (He.ga K "with_verses"))))) 19 rfl)
    obtain ⟨_, _, _, _, _, _, _, _, _, l_with_verses, c_with_verses, k_with_verses⟩ := FunD.plain ((saysM1 c).def_ (d := fnM_19) 19 rfl)
    have a__law_cell_at : PySem.W.nsIn K mainGlobals "_law_cell_at" = some (some (.ref (He.ga K "_law_cell_at"))) := He.eqO_ok ((saysM0 c).fact (f := fun K => He.eqO (PySem.W.nsIn K mainGlobals "_law_cell_at") (some (some (.ref (He.ga K "_law_cell_at"))))) 20 rfl)
    obtain ⟨_, _, _, _, _, _, _, _, _, l__law_cell_at, c__law_cell_at, k__law_cell_at⟩ := FunD.plain ((saysM1 c).def_ (d := fnM_20) 20 rfl)
    have a__law_row : PySem.W.nsIn K mainGlobals "_law_row" = some (some (.ref (He.ga K "_law_row"))) := He.eqO_ok ((saysM0 c).fact (f := fun K => He.eqO (PySem.W.nsIn K mainGlobals "_law_row") (some (some (.ref (He.ga K "_law_row"))))) 21 rfl)
    obtain ⟨_, _, _, _, _, _, _, _, _, l__law_row, c__law_row, k__law_row⟩ := FunD.plain ((saysM1 c).def_ (d := fnM_21) 21 rfl)
    have a__law_names : PySem.W.nsIn K mainGlobals "_law_names" = some (some (.ref (He.ga K "_law_names"))) := He.eqO_ok ((saysM0 c).fact (f := fun K => He.eqO (PySem.W.nsIn K mainGlobals "_law_names") (some (some (.ref (He.ga K "_law_names"))))) 22 rfl)
    obtain ⟨_, _, _, _, _, _, _, _, _, l__law_names, c__law_names, k__law_names⟩ := FunD.plain ((saysM1 c).def_ (d := fnM_22) 22 rfl)
    have a__law_books : PySem.W.nsIn K mainGlobals "_law_books" = some (some (.ref (He.ga K "_law_books"))) := He.eqO_ok ((saysM0 c).fact (f := fun K => He.eqO (PySem.W.nsIn K mainGlobals "_law_books") (some (some (.ref (He.ga K "_law_books"))))) 23 rfl)
    obtain ⟨_, _, _, _, _, _, _, _, _, l__law_books, c__law_books, k__law_books⟩ := FunD.plain ((saysM1 c).def_ (d := fnM_23) 23 rfl)
    have a__law_copy : PySem.W.nsIn K mainGlobals "_law_copy" = some (some (.ref (He.ga K "_law_copy"))) := He.eqO_ok ((saysM0 c).fact (f := fun K => He.eqO (PySem.W.nsIn K mainGlobals "_law_copy") (some (some (.ref (He.ga K "_law_copy"))))) 24 rfl)
    obtain ⟨_, _, _, _, _, _, _, _, _, l__law_copy, c__law_copy, k__law_copy⟩ := FunD.plain ((saysM1 c).def_ (d := fnM_24) 24 rfl)
    have a__law_spots : PySem.W.nsIn K mainGlobals "_law_spots" = some (some (.ref (He.ga K "_law_spots"))) := He.eqO_ok ((saysM0 c).fact (f := fun K => He.eqO (PySem.W.nsIn K mainGlobals "_law_spots") (some (some (.ref (He.ga K "_law_spots"))))) 25 rfl)
    obtain ⟨_, _, _, _, _, _, _, _, _, l__law_spots, c__law_spots, k__law_spots⟩ := FunD.plain ((saysM1 c).def_ (d := fnM_25) 25 rfl)
    have a__law_threads : PySem.W.nsIn K mainGlobals "_law_threads" = some (some (.ref (He.ga K "_law_threads"))) := He.eqO_ok ((saysM0 c).fact (f := fun K => He.eqO (PySem.W.nsIn K mainGlobals "_law_threads") (some (some (.ref (He.ga K "_law_threads"))))) 26 rfl)
    obtain ⟨_, _, _, _, _, _, _, _, _, l__law_threads, c__law_threads, k__law_threads⟩ := FunD.plain ((saysM1 c).def_ (d := fnM_26) 26 rfl)
    have a__law_edition : PySem.W.nsIn K mainGlobals "_law_edition" = some (some (.ref (He.ga K "_law_edition"))) := He.eqO_ok ((saysM0 c).fact (f := fun K => He.eqO (PySem.W.nsIn K mainGlobals "_law_edition") (some (some (.ref (He.ga K "_law_edition"))))) 27 rfl)
    obtain ⟨_, _, _, _, _, _, _, _, _, l__law_edition, c__law_edition, k__law_edition⟩ := FunD.plain ((saysM1 c).def_ (d := fnM_27) 27 rfl)
    have a__law_one : PySem.W.nsIn K mainGlobals "_law_one" = some (some (.ref (He.ga K "_law_one"))) := He.eqO_ok ((saysM0 c).fact (f := fun K => He.eqO (PySem.W.nsIn K mainGlobals "_law_one") (some (some (.ref (He.ga K "_law_one"))))) 28 rfl)
    obtain ⟨_, _, _, _, _, _, _, _, _, l__law_one, c__law_one, k__law_one⟩ := FunD.plain ((saysM1 c).def_ (d := fnM_28) 28 rfl)
    have a__law_told : PySem.W.nsIn K mainGlobals "_law_told" = some (some (.ref (He.ga K "_law_told"))) := He.eqO_ok ((saysM0 c).fact (f := fun K => He.eqO (PySem.W.nsIn K mainGlobals "_law_told") (some (some (.ref (He.ga K "_law_told"))))) 29 rfl)
    obtain ⟨_, _, _, _, _, _, _, _, _, l__law_told, c__law_told, k__law_told⟩ := FunD.plain ((saysM1 c).def_ (d := fnM_29) 29 rfl)
    have a__law_alike : PySem.W.nsIn K mainGlobals "_law_alike" = some (some (.ref (He.ga K "_law_alike"))) := He.eqO_ok ((saysM0 c).fact (f := fun K => He.eqO (PySem.W.nsIn K mainGlobals "_law_alike") (some (some (.ref (He.ga K "_law_alike"))))) 30 rfl)
    obtain ⟨_, _, _, _, _, _, _, _, _, l__law_alike, c__law_alike, k__law_alike⟩ := FunD.plain ((saysM1 c).def_ (d := fnM_30) 30 rfl)
    have a__law_divisions : PySem.W.nsIn K mainGlobals "_law_divisions" = some (some (.ref (He.ga K "_law_divisions"))) := He.eqO_ok ((saysM0 c).fact (f := fun K => He.eqO (PySem.W.nsIn K mainGlobals "_law_divisions") (some (some (.ref (He.ga K "_law_divisions"))))) 31 rfl)
    obtain ⟨_, _, _, _, _, _, _, _, _, l__law_divisions, c__law_divisions, k__law_divisions⟩ := FunD.plain ((saysM1 c).def_ (d := fnM_31) 31 rfl)
    have a__law_divide : PySem.W.nsIn K mainGlobals "_law_divide" = some (some (.ref (He.ga K "_law_divide"))) := He.eqO_ok ((saysM0 c).fact (f := fun K => He.eqO (PySem.W.nsIn K mainGlobals "_law_divide") (some (some (.ref (He.ga K "_law_divide"))))) 32 rfl)
    obtain ⟨_, _, _, _, _, _, _, _, _, l__law_divide, c__law_divide, k__law_divide⟩ := FunD.plain ((saysM1 c).def_ (d := fnM_32) 32 rfl)
    have a__law_asked : PySem.W.nsIn K mainGlobals "_law_asked" = some (some (.ref (He.ga K "_law_asked"))) := He.eqO_ok ((saysM0 c).fact (f := fun K => He.eqO (PySem.W.nsIn K mainGlobals "_law_asked") (some (some (.ref (He.ga K "_law_asked"))))) 33 rfl)
    obtain ⟨_, _, _, _, _, _, _, _, _, l__law_asked, c__law_asked, k__law_asked⟩ := FunD.plain ((saysM1 c).def_ (d := fnM_33) 33 rfl)
    have a__law_kept : PySem.W.nsIn K mainGlobals "_law_kept" = some (some (.ref (He.ga K "_law_kept"))) := He.eqO_ok ((saysM0 c).fact (f := fun K => He.eqO (PySem.W.nsIn K mainGlobals "_law_kept") (some (some (.ref (He.ga K "_law_kept"))))) 34 rfl)
    obtain ⟨_, _, _, _, _, _, _, _, _, l__law_kept, c__law_kept, k__law_kept⟩ := FunD.plain ((saysM1 c).def_ (d := fnM_34) 34 rfl)
    have a__law_right : PySem.W.nsIn K mainGlobals "_law_right" = some (some (.ref (He.ga K "_law_right"))) := He.eqO_ok ((saysM0 c).fact (f := fun K => He.eqO (PySem.W.nsIn K mainGlobals "_law_right") (some (some (.ref (He.ga K "_law_right"))))) 35 rfl)
    obtain ⟨_, _, _, _, _, _, _, _, _, l__law_right, c__law_right, k__law_right⟩ := FunD.plain ((saysM1 c).def_ (d := fnM_35) 35 rfl)
    have a_law : PySem.W.nsIn K mainGlobals "law" = some (some (.ref (He.ga K "law"))) := He.eqO_ok ((saysM0 c).fact (f := fun K => He.eqO (PySem.W.nsIn K mainGlobals "law") (some (some (.ref (He.ga K "law"))))) 36 rfl)
    obtain ⟨_, _, _, _, _, _, _, _, _, l_law, c_law, k_law⟩ := FunD.plain ((saysM1 c).def_ (d := fnM_36) 36 rfl)
    have a_divided : PySem.W.nsIn K mainGlobals "divided" = some (some (.ref (He.ga K "divided"))) := He.eqO_ok ((saysM0 c).fact (f := fun K => He.eqO (PySem.W.nsIn K mainGlobals "divided") (some (some (.ref (He.ga K "divided"))))) 37 rfl)
    have h_divided : ∃ fd, FunD K "divided" "divided" (defArgs s_divided) (defBody s_divided) (defScope s_divided) [.int 1] [] (He.ga K "divided") fd := ((saysM1 c).def_ (d := fnM_37) 37 rfl)
    have z_LookupError : PySem.W.nsIn K mainGlobals "LookupError" = some none := He.eqO_ok ((saysM0 c).fact (f := fun K => He.eqO (PySem.W.nsIn K mainGlobals "LookupError") (some none)) 38 rfl)
    have z_ValueError : PySem.W.nsIn K mainGlobals "ValueError" = some none := He.eqO_ok ((saysM0 c).fact (f := fun K => He.eqO (PySem.W.nsIn K mainGlobals "ValueError") (some none)) 39 rfl)
    have z_abs : PySem.W.nsIn K mainGlobals "abs" = some none := He.eqO_ok ((saysM0 c).fact (f := fun K => He.eqO (PySem.W.nsIn K mainGlobals "abs") (some none)) 40 rfl)
    have z_all : PySem.W.nsIn K mainGlobals "all" = some none := He.eqO_ok ((saysM0 c).fact (f := fun K => He.eqO (PySem.W.nsIn K mainGlobals "all") (some none)) 41 rfl)
    have z_bool : PySem.W.nsIn K mainGlobals "bool" = some none := He.eqO_ok ((saysM0 c).fact (f := fun K => He.eqO (PySem.W.nsIn K mainGlobals "bool") (some none)) 42 rfl)
    have z_enumerate : PySem.W.nsIn K mainGlobals "enumerate" = some none := He.eqO_ok ((saysM0 c).fact (f := fun K => He.eqO (PySem.W.nsIn K mainGlobals "enumerate") (some none)) 43 rfl)
    have z_int : PySem.W.nsIn K mainGlobals "int" = some none := He.eqO_ok ((saysM0 c).fact (f := fun K => He.eqO (PySem.W.nsIn K mainGlobals "int") (some none)) 44 rfl)
    have z_isinstance : PySem.W.nsIn K mainGlobals "isinstance" = some none := He.eqO_ok ((saysM0 c).fact (f := fun K => He.eqO (PySem.W.nsIn K mainGlobals "isinstance") (some none)) 45 rfl)
    have z_len : PySem.W.nsIn K mainGlobals "len" = some none := He.eqO_ok ((saysM0 c).fact (f := fun K => He.eqO (PySem.W.nsIn K mainGlobals "len") (some none)) 46 rfl)
    have z_list : PySem.W.nsIn K mainGlobals "list" = some none := He.eqO_ok ((saysM0 c).fact (f := fun K => He.eqO (PySem.W.nsIn K mainGlobals "list") (some none)) 47 rfl)
    have z_range : PySem.W.nsIn K mainGlobals "range" = some none := He.eqO_ok ((saysM0 c).fact (f := fun K => He.eqO (PySem.W.nsIn K mainGlobals "range") (some none)) 48 rfl)
    have z_str : PySem.W.nsIn K mainGlobals "str" = some none := He.eqO_ok ((saysM0 c).fact (f := fun K => He.eqO (PySem.W.nsIn K mainGlobals "str") (some none)) 49 rfl)
    have z_sum : PySem.W.nsIn K mainGlobals "sum" = some none := He.eqO_ok ((saysM0 c).fact (f := fun K => He.eqO (PySem.W.nsIn K mainGlobals "sum") (some none)) 50 rfl)
    have z_tuple : PySem.W.nsIn K mainGlobals "tuple" = some none := He.eqO_ok ((saysM0 c).fact (f := fun K => He.eqO (PySem.W.nsIn K mainGlobals "tuple") (some none)) 51 rfl)
    obtain ⟨_, y_LAST_LINE⟩ := intF_ok ((saysM0 c).fact (f := intF "LAST_LINE" 9999) 52 rfl)
    obtain ⟨_, y_LONGEST_NAME⟩ := intF_ok ((saysM0 c).fact (f := intF "LONGEST_NAME" 6) 53 rfl)
    obtain ⟨_, y_MOST_BOOKS⟩ := intF_ok ((saysM0 c).fact (f := intF "MOST_BOOKS" 6) 54 rfl)
    obtain ⟨_, y_MOST_BOOK_CHAPTERS⟩ := intF_ok ((saysM0 c).fact (f := intF "MOST_BOOK_CHAPTERS" 12) 55 rfl)
    obtain ⟨_, y_MOST_CHAPTERS⟩ := intF_ok ((saysM0 c).fact (f := intF "MOST_CHAPTERS" 40) 56 rfl)
    obtain ⟨_, y_MOST_PAIRS⟩ := intF_ok ((saysM0 c).fact (f := intF "MOST_PAIRS" 400) 57 rfl)
    obtain ⟨_, y_MOST_PARTS⟩ := intF_ok ((saysM0 c).fact (f := intF "MOST_PARTS" 400) 58 rfl)
    obtain ⟨_, y_MOST_VERSES⟩ := intF_ok ((saysM0 c).fact (f := intF "MOST_VERSES" 30) 59 rfl)
    obtain ⟨_, y_MOST_VERSE_PARTS⟩ := intF_ok ((saysM0 c).fact (f := intF "MOST_VERSE_PARTS" 4) 60 rfl)
    obtain ⟨_, y_SMALL_LETTERS⟩ := strF_ok ((saysM0 c).fact (f := strF "SMALL_LETTERS" "abcdefghijklmnopqrstuvwxyz") 61 rfl)
    have aE : PySem.W.nsIn K mainGlobals "Edition" = some (some (.ref (He.ga K "Edition"))) := He.eqO_ok ((saysM0 c).fact (f := fun K => He.eqO (PySem.W.nsIn K mainGlobals "Edition") (some (some (.ref (He.ga K "Edition"))))) 62 rfl)
    have iI : PySem.W.findIn K (.ref (He.ga K "Edition")) "__init__" = some (some (.ref (He.ma K (He.ga K "Edition") "__init__"))) := He.eqO_ok ((saysM0 c).fact (f := fun K => He.eqO (PySem.W.findIn K (.ref (He.ga K "Edition")) "__init__") (some (some (.ref (He.ma K (He.ga K "Edition") "__init__"))))) 63 rfl)
    obtain ⟨_, _, _, _, _, _, _, _, _, _, _, _, _, _, lI, cI, kI, lT⟩ := FunD.oneN ((saysM1 c).def_ (d := fnM_38) 38 rfl)
    have nI : PySem.W.isFn K (.ref (He.ma K (He.ga K "Edition") "__init__")) = true := (saysM0 c).fact (f := fun K => PySem.W.isFn K (.ref (He.ma K (He.ga K "Edition") "__init__"))) 64 rfl
    have mkC : PySem.W.makesIn K (He.ga K "Edition") = true := (saysM0 c).fact (f := fun K => PySem.W.makesIn K (He.ga K "Edition")) 65 rfl
    have kC : PySem.W.keepIn K (.ref (He.ga K "Edition")) = true := (saysM0 c).fact (f := fun K => PySem.W.keepIn K (.ref (He.ga K "Edition"))) 66 rfl
    have pgC : PySem.W.plainGet K (He.ga K "Edition") Str.empty = true := (saysM0 c).fact (f := fun K => PySem.W.plainGet K (He.ga K "Edition") Str.empty) 67 rfl
    have hdC : PySem.W.hasDictIn K (He.ga K "Edition") = true := (saysM0 c).fact (f := fun K => PySem.W.hasDictIn K (He.ga K "Edition")) 68 rfl
    have poC : PySem.W.plainOver K (He.ga K "Edition") = true := (saysM0 c).fact (f := fun K => PySem.W.plainOver K (He.ga K "Edition")) 69 rfl
    have saC : PySem.W.findIn K (.ref (He.ga K "Edition")) "__setattr__" = some (some (.builtin "object.__setattr__")) := He.eqO_ok ((saysM0 c).fact (f := fun K => He.eqO (PySem.W.findIn K (.ref (He.ga K "Edition")) "__setattr__") (some (some (.builtin "object.__setattr__")))) 70 rfl)
    have w1 : PySem.W.findIn K (.ref (He.ga K "Edition")) "_books" = some none := He.eqO_ok ((saysM0 c).fact (f := fun K => He.eqO (PySem.W.findIn K (.ref (He.ga K "Edition")) "_books") (some none)) 71 rfl)
    have w2 : PySem.W.findIn K (.ref (He.ga K "Edition")) "_chapters" = some none := He.eqO_ok ((saysM0 c).fact (f := fun K => He.eqO (PySem.W.findIn K (.ref (He.ga K "Edition")) "_chapters") (some none)) 72 rfl)
    have w3 : PySem.W.findIn K (.ref (He.ga K "Edition")) "_places" = some none := He.eqO_ok ((saysM0 c).fact (f := fun K => He.eqO (PySem.W.findIn K (.ref (He.ga K "Edition")) "_places") (some none)) 73 rfl)
    have w4 : PySem.W.findIn K (.ref (He.ga K "Edition")) "_stretches" = some none := He.eqO_ok ((saysM0 c).fact (f := fun K => He.eqO (PySem.W.findIn K (.ref (He.ga K "Edition")) "_stretches") (some none)) 74 rfl)
    have w5 : PySem.W.findIn K (.ref (He.ga K "Edition")) "_lines" = some none := He.eqO_ok ((saysM0 c).fact (f := fun K => He.eqO (PySem.W.findIn K (.ref (He.ga K "Edition")) "_lines") (some none)) 75 rfl)
    have w6 : PySem.W.findIn K (.ref (He.ga K "Edition")) "_numbers" = some none := He.eqO_ok ((saysM0 c).fact (f := fun K => He.eqO (PySem.W.findIn K (.ref (He.ga K "Edition")) "_numbers") (some none)) 76 rfl)
    have w7 : PySem.W.findIn K (.ref (He.ga K "Edition")) "_told" = some none := He.eqO_ok ((saysM0 c).fact (f := fun K => He.eqO (PySem.W.findIn K (.ref (He.ga K "Edition")) "_told") (some none)) 77 rfl)
    have haC : PySem.W.findIn K (.ref (He.ga K "Edition")) "__class__" = some (some (.builtin "object.__class__")) := He.eqO_ok ((saysM0 c).fact (f := fun K => He.eqO (PySem.W.findIn K (.ref (He.ga K "Edition")) "__class__") (some (some (.builtin "object.__class__")))) 78 rfl)
    have hnC : PySem.W.specialIn K (.builtin "object.__class__") "__get__" = some (some (.builtin "getset_descriptor.__get__")) := He.eqO_ok ((saysM0 c).fact (f := fun K => He.eqO (PySem.W.specialIn K (.builtin "object.__class__") "__get__") (some (some (.builtin "getset_descriptor.__get__")))) 79 rfl)
    have tkC : PySem.W.takesIn K (.builtin "object.__class__") = some true := of_decide_eq_true ((saysM0 c).fact (f := fun K => decide (PySem.W.takesIn K (.builtin "object.__class__") = some true)) 80 rfl)
    have hmC : PySem.W.mroIn K (He.ga K "Edition") (.type "object") = some true := of_decide_eq_true ((saysM0 c).fact (f := fun K => decide (PySem.W.mroIn K (He.ga K "Edition") (.type "object") = some true)) 81 rfl)
    have q1 : PySem.W.subIn K (.ref (He.ga K "Edition")) (.type "int") = some false := of_decide_eq_true ((saysM0 c).fact (f := fun K => decide (PySem.W.subIn K (.ref (He.ga K "Edition")) (.type "int") = some false)) 82 rfl)
    have q2 : PySem.W.subIn K (.ref (He.ga K "Edition")) (.type "bool") = some false := of_decide_eq_true ((saysM0 c).fact (f := fun K => decide (PySem.W.subIn K (.ref (He.ga K "Edition")) (.type "bool") = some false)) 83 rfl)
    have q3 : PySem.W.subIn K (.ref (He.ga K "Edition")) (.type "str") = some false := of_decide_eq_true ((saysM0 c).fact (f := fun K => decide (PySem.W.subIn K (.ref (He.ga K "Edition")) (.type "str") = some false)) 84 rfl)
    have i_Msize : PySem.W.findIn K (.ref (He.ga K "Edition")) "size" = some (some (.ref (He.ma K (He.ga K "Edition") "size"))) := He.eqO_ok ((saysM0 c).fact (f := fun K => He.eqO (PySem.W.findIn K (.ref (He.ga K "Edition")) "size") (some (some (.ref (He.ma K (He.ga K "Edition") "size"))))) 85 rfl)
    obtain ⟨_, _, _, _, _, _, _, _, _, l_Msize, c_Msize, k_Msize⟩ := FunD.plain ((saysM1 c).def_ (d := fnM_39) 39 rfl)
    have n_Msize : PySem.W.isFn K (.ref (He.ma K (He.ga K "Edition") "size")) = true := (saysM0 c).fact (f := fun K => PySem.W.isFn K (.ref (He.ma K (He.ga K "Edition") "size"))) 86 rfl
    have i_Mlines : PySem.W.findIn K (.ref (He.ga K "Edition")) "lines" = some (some (.ref (He.ma K (He.ga K "Edition") "lines"))) := He.eqO_ok ((saysM0 c).fact (f := fun K => He.eqO (PySem.W.findIn K (.ref (He.ga K "Edition")) "lines") (some (some (.ref (He.ma K (He.ga K "Edition") "lines"))))) 87 rfl)
    obtain ⟨_, _, _, _, _, _, _, _, _, l_Mlines, c_Mlines, k_Mlines⟩ := FunD.plain ((saysM1 c).def_ (d := fnM_40) 40 rfl)
    have n_Mlines : PySem.W.isFn K (.ref (He.ma K (He.ga K "Edition") "lines")) = true := (saysM0 c).fact (f := fun K => PySem.W.isFn K (.ref (He.ma K (He.ga K "Edition") "lines"))) 88 rfl
    have i_M_check_number : PySem.W.findIn K (.ref (He.ga K "Edition")) "_check_number" = some (some (.ref (He.ma K (He.ga K "Edition") "_check_number"))) := He.eqO_ok ((saysM0 c).fact (f := fun K => He.eqO (PySem.W.findIn K (.ref (He.ga K "Edition")) "_check_number") (some (some (.ref (He.ma K (He.ga K "Edition") "_check_number"))))) 89 rfl)
    obtain ⟨_, _, _, _, _, _, _, _, _, l_M_check_number, c_M_check_number, k_M_check_number⟩ := FunD.plain ((saysM1 c).def_ (d := fnM_41) 41 rfl)
    have n_M_check_number : PySem.W.isFn K (.ref (He.ma K (He.ga K "Edition") "_check_number")) = true := (saysM0 c).fact (f := fun K => PySem.W.isFn K (.ref (He.ma K (He.ga K "Edition") "_check_number"))) 90 rfl
    have i_Mline_at : PySem.W.findIn K (.ref (He.ga K "Edition")) "line_at" = some (some (.ref (He.ma K (He.ga K "Edition") "line_at"))) := He.eqO_ok ((saysM0 c).fact (f := fun K => He.eqO (PySem.W.findIn K (.ref (He.ga K "Edition")) "line_at") (some (some (.ref (He.ma K (He.ga K "Edition") "line_at"))))) 91 rfl)
    obtain ⟨_, _, _, _, _, _, _, _, _, l_Mline_at, c_Mline_at, k_Mline_at⟩ := FunD.plain ((saysM1 c).def_ (d := fnM_42) 42 rfl)
    have n_Mline_at : PySem.W.isFn K (.ref (He.ma K (He.ga K "Edition") "line_at")) = true := (saysM0 c).fact (f := fun K => PySem.W.isFn K (.ref (He.ma K (He.ga K "Edition") "line_at"))) 92 rfl
    have i_Mpart_of : PySem.W.findIn K (.ref (He.ga K "Edition")) "part_of" = some (some (.ref (He.ma K (He.ga K "Edition") "part_of"))) := He.eqO_ok ((saysM0 c).fact (f := fun K => He.eqO (PySem.W.findIn K (.ref (He.ga K "Edition")) "part_of") (some (some (.ref (He.ma K (He.ga K "Edition") "part_of"))))) 93 rfl)
    obtain ⟨_, _, _, _, _, _, _, _, _, l_Mpart_of, c_Mpart_of, k_Mpart_of⟩ := FunD.plain ((saysM1 c).def_ (d := fnM_43) 43 rfl)
    have n_Mpart_of : PySem.W.isFn K (.ref (He.ma K (He.ga K "Edition") "part_of")) = true := (saysM0 c).fact (f := fun K => PySem.W.isFn K (.ref (He.ma K (He.ga K "Edition") "part_of"))) 94 rfl
    have i_Mtold : PySem.W.findIn K (.ref (He.ga K "Edition")) "told" = some (some (.ref (He.ma K (He.ga K "Edition") "told"))) := He.eqO_ok ((saysM0 c).fact (f := fun K => He.eqO (PySem.W.findIn K (.ref (He.ga K "Edition")) "told") (some (some (.ref (He.ma K (He.ga K "Edition") "told"))))) 95 rfl)
    obtain ⟨_, _, _, _, _, _, _, _, _, l_Mtold, c_Mtold, k_Mtold⟩ := FunD.plain ((saysM1 c).def_ (d := fnM_44) 44 rfl)
    have n_Mtold : PySem.W.isFn K (.ref (He.ma K (He.ga K "Edition") "told")) = true := (saysM0 c).fact (f := fun K => PySem.W.isFn K (.ref (He.ma K (He.ga K "Edition") "told"))) 96 rfl
    have i_Msame : PySem.W.findIn K (.ref (He.ga K "Edition")) "same" = some (some (.ref (He.ma K (He.ga K "Edition") "same"))) := He.eqO_ok ((saysM0 c).fact (f := fun K => He.eqO (PySem.W.findIn K (.ref (He.ga K "Edition")) "same") (some (some (.ref (He.ma K (He.ga K "Edition") "same"))))) 97 rfl)
    obtain ⟨_, _, _, _, _, _, _, _, _, l_Msame, c_Msame, k_Msame⟩ := FunD.plain ((saysM1 c).def_ (d := fnM_45) 45 rfl)
    have n_Msame : PySem.W.isFn K (.ref (He.ma K (He.ga K "Edition") "same")) = true := (saysM0 c).fact (f := fun K => PySem.W.isFn K (.ref (He.ma K (He.ga K "Edition") "same"))) 98 rfl
    have i_M_book : PySem.W.findIn K (.ref (He.ga K "Edition")) "_book" = some (some (.ref (He.ma K (He.ga K "Edition") "_book"))) := He.eqO_ok ((saysM0 c).fact (f := fun K => He.eqO (PySem.W.findIn K (.ref (He.ga K "Edition")) "_book") (some (some (.ref (He.ma K (He.ga K "Edition") "_book"))))) 99 rfl)
    obtain ⟨_, _, _, _, _, _, _, _, _, l_M_book, c_M_book, k_M_book⟩ := FunD.plain ((saysM1 c).def_ (d := fnM_46) 46 rfl)
    have n_M_book : PySem.W.isFn K (.ref (He.ma K (He.ga K "Edition") "_book")) = true := (saysM0 c).fact (f := fun K => PySem.W.isFn K (.ref (He.ma K (He.ga K "Edition") "_book"))) 100 rfl
    have i_M_chapter : PySem.W.findIn K (.ref (He.ga K "Edition")) "_chapter" = some (some (.ref (He.ma K (He.ga K "Edition") "_chapter"))) := He.eqO_ok ((saysM0 c).fact (f := fun K => He.eqO (PySem.W.findIn K (.ref (He.ga K "Edition")) "_chapter") (some (some (.ref (He.ma K (He.ga K "Edition") "_chapter"))))) 101 rfl)
    obtain ⟨_, _, _, _, _, _, _, _, _, l_M_chapter, c_M_chapter, k_M_chapter⟩ := FunD.plain ((saysM1 c).def_ (d := fnM_47) 47 rfl)
    have n_M_chapter : PySem.W.isFn K (.ref (He.ma K (He.ga K "Edition") "_chapter")) = true := (saysM0 c).fact (f := fun K => PySem.W.isFn K (.ref (He.ma K (He.ga K "Edition") "_chapter"))) 102 rfl
    have i_Mparts : PySem.W.findIn K (.ref (He.ga K "Edition")) "parts" = some (some (.ref (He.ma K (He.ga K "Edition") "parts"))) := He.eqO_ok ((saysM0 c).fact (f := fun K => He.eqO (PySem.W.findIn K (.ref (He.ga K "Edition")) "parts") (some (some (.ref (He.ma K (He.ga K "Edition") "parts"))))) 103 rfl)
    obtain ⟨_, _, _, _, _, _, _, _, _, l_Mparts, c_Mparts, k_Mparts⟩ := FunD.plain ((saysM1 c).def_ (d := fnM_48) 48 rfl)
    have n_Mparts : PySem.W.isFn K (.ref (He.ma K (He.ga K "Edition") "parts")) = true := (saysM0 c).fact (f := fun K => PySem.W.isFn K (.ref (He.ma K (He.ga K "Edition") "parts"))) 104 rfl
    have i_Mverses : PySem.W.findIn K (.ref (He.ga K "Edition")) "verses" = some (some (.ref (He.ma K (He.ga K "Edition") "verses"))) := He.eqO_ok ((saysM0 c).fact (f := fun K => He.eqO (PySem.W.findIn K (.ref (He.ga K "Edition")) "verses") (some (some (.ref (He.ma K (He.ga K "Edition") "verses"))))) 105 rfl)
    obtain ⟨_, _, _, _, _, _, _, _, _, l_Mverses, c_Mverses, k_Mverses⟩ := FunD.plain ((saysM1 c).def_ (d := fnM_49) 49 rfl)
    have n_Mverses : PySem.W.isFn K (.ref (He.ma K (He.ga K "Edition") "verses")) = true := (saysM0 c).fact (f := fun K => PySem.W.isFn K (.ref (He.ma K (He.ga K "Edition") "verses"))) 106 rfl
    have gf_Mparts : PySem.W.specialIn K (.ref (He.ma K (He.ga K "Edition") "parts")) "__get__" = some (some (.builtin "function.__get__")) := He.eqO_ok ((saysM0 c).fact (f := fun K => He.eqO (PySem.W.specialIn K (.ref (He.ma K (He.ga K "Edition") "parts")) "__get__") (some (some (.builtin "function.__get__")))) 107 rfl)
    have tk_Mparts : PySem.W.takesIn K (.ref (He.ma K (He.ga K "Edition") "parts")) = some false := of_decide_eq_true ((saysM0 c).fact (f := fun K => decide (PySem.W.takesIn K (.ref (He.ma K (He.ga K "Edition") "parts")) = some false)) 108 rfl)
    have fi_Mparts : PySem.W.fnIn K (He.ma K (He.ga K "Edition") "parts") = true := (saysM0 c).fact (f := fun K => PySem.W.fnIn K (He.ma K (He.ga K "Edition") "parts")) 109 rfl
    exact all_mk X G hfa a__wall l__wall c__wall k__wall a_is_number l_is_number c_is_number k_is_number a_is_whole l_is_whole c_is_whole k_is_whole a_is_name l_is_name c_is_name k_is_name a_is_made_of l_is_made_of c_is_made_of k_is_made_of a_is_tuple l_is_tuple c_is_tuple k_is_tuple a_is_row l_is_row c_is_row k_is_row a_check_edition l_check_edition c_check_edition k_check_edition a_kept_books l_kept_books c_kept_books k_kept_books a_kept_book l_kept_book c_kept_book k_kept_book a_kept_chapter l_kept_chapter c_kept_chapter k_kept_chapter a_check_counts l_check_counts c_check_counts k_check_counts a_kept_lines l_kept_lines c_kept_lines k_kept_lines a_lines_of_pair l_lines_of_pair c_lines_of_pair k_lines_of_pair a_fewest_pairs l_fewest_pairs c_fewest_pairs k_fewest_pairs a_places_in l_places_in c_places_in k_places_in a_stretches_of l_stretches_of c_stretches_of k_stretches_of a_merged l_merged c_merged k_merged a_parts_of_verse l_parts_of_verse c_parts_of_verse k_parts_of_verse a_with_verses l_with_verses c_with_verses k_with_verses a__law_cell_at l__law_cell_at c__law_cell_at k__law_cell_at a__law_row l__law_row c__law_row k__law_row a__law_names l__law_names c__law_names k__law_names a__law_books l__law_books c__law_books k__law_books a__law_copy l__law_copy c__law_copy k__law_copy a__law_spots l__law_spots c__law_spots k__law_spots a__law_threads l__law_threads c__law_threads k__law_threads a__law_edition l__law_edition c__law_edition k__law_edition a__law_one l__law_one c__law_one k__law_one a__law_told l__law_told c__law_told k__law_told a__law_alike l__law_alike c__law_alike k__law_alike a__law_divisions l__law_divisions c__law_divisions k__law_divisions a__law_divide l__law_divide c__law_divide k__law_divide a__law_asked l__law_asked c__law_asked k__law_asked a__law_kept l__law_kept c__law_kept k__law_kept a__law_right l__law_right c__law_right k__law_right a_law l_law c_law k_law a_divided h_divided z_LookupError z_ValueError z_abs z_all z_bool z_enumerate z_int z_isinstance z_len z_list z_range z_str z_sum z_tuple y_LAST_LINE y_LONGEST_NAME y_MOST_BOOKS y_MOST_BOOK_CHAPTERS y_MOST_CHAPTERS y_MOST_PAIRS y_MOST_PARTS y_MOST_VERSES y_MOST_VERSE_PARTS y_SMALL_LETTERS aE iI lI cI kI nI lT mkC kC pgC hdC poC saC w1 w2 w3 w4 w5 w6 w7 haC hnC tkC hmC q1 q2 q3 i_Msize l_Msize c_Msize k_Msize n_Msize i_Mlines l_Mlines c_Mlines k_Mlines n_Mlines i_M_check_number l_M_check_number c_M_check_number k_M_check_number n_M_check_number i_Mline_at l_Mline_at c_Mline_at k_Mline_at n_Mline_at i_Mpart_of l_Mpart_of c_Mpart_of k_Mpart_of n_Mpart_of i_Mtold l_Mtold c_Mtold k_Mtold n_Mtold i_Msame l_Msame c_Msame k_Msame n_Msame i_M_book l_M_book c_M_book k_M_book n_M_book i_M_chapter l_M_chapter c_M_chapter k_M_chapter n_M_chapter i_Mparts l_Mparts c_Mparts k_Mparts n_Mparts i_Mverses l_Mverses c_Mverses k_Mverses n_Mverses gf_Mparts tk_Mparts fi_Mparts
end My
open PySem PySem.W PySem.Calls PyProof.Rows
set_option maxHeartbeats 0 in
theorem PySem.Challenge.cw_bookplaces_k37_divided_and_merged_holds : PySem.Challenge.rw_bookplaces_k37_divided_and_merged.Holds := by
  w_on; o_law
  refine HandSHeadRun.head_any (r := OpenLaw.row PySem.Challenge.rw_bookplaces_k37_divided_and_merged) (q := view (OpenLaw.row PySem.Challenge.rw_bookplaces_k37_divided_and_merged).prog [66]) (H := My.hkM) (ob := My.obM) (M := 40000) (loose := My.looseM) (d := HandSHeadRun.topDef (OpenLaw.row PySem.Challenge.rw_bookplaces_k37_divided_and_merged).prog 66) (kwd := []) My.obM_eq
    (by kernel_rfl) (fun s => by kernel_rfl) My.runM (by kernel_rfl) (by kernel_rfl) (by kernel_rfl) (by rfl) (by first | assumption | decide +kernel) (by decide +kernel) ⟨rfl, rfl, rfl, rfl, rfl, by decide +kernel⟩ ?hw ?hc
  case hw => w_witness2
  case hc =>
    refine My.walk_ofGE (l := PySem.Challenge.rw_bookplaces_k37_divided_and_merged) (n := 63) (k := My.LV) (x := "script") rfl (by decide) (by kernel_rfl) ⟨rfl, by decide, by decide⟩ ?F
    intro w mg fa h Y G hmg0
    obtain ⟨K, KX, c⟩ := Y
    have hmg : mg ("law" : PySem.Str) = some (.ref fa) := by
      have e : (HandSHeadRun.topDef (OpenLaw.row PySem.Challenge.rw_bookplaces_k37_divided_and_merged).prog 66).name = ("law" : PySem.Str) := by kernel_rfl
      rw [← e]
      exact hmg0
    obtain ⟨fd, hb, hF⟩ := My.lawM (l := PySem.Challenge.rw_bookplaces_k37_divided_and_merged) (w := w) KX G hmg c
    exact ⟨K, fd, My.sp_law K, KX, hb, fun H a ns hl _ hS => ⟨a, ns, rfl, hS, hl, fun _ => rfl⟩, hF⟩
