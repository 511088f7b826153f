import PyProof.Rows.All
import Wide.All
import OpenK.AllK
import Wide.FinOn
import HandS.ForMost
import HandS.Evl
import HandS.Codes
import HandS.IsInst
import HandS.RaiseMore
import HandS.TupAny
import HandS.ExcInit
import HandS.Walk
import KE.KExcIs
import PyProof.ReprRoads
import KE.KRevSl
import HandS.Iter
import HandS.Conv
import HandS.DictComp
import KE.GoesEnumKw
import KE.KTupSum
import HandS.Defaults
import HandS.Exc
import HandS.ExcOwn
import HandS.ExcField
import HandS.TryMany
import HandS.WordsExc
import HandS.MakeKw
import HandS.HeadHook2
import HandS.Head0
import HandS.Head1
import HandS.Head2
import HandS.More
import HandS.SortRule
import HandS.List
import PySem.Challenge.RW_bookplaces_k29_forged_rows
set_option Elab.async false
set_option linter.all false
set_option maxRecDepth 100000
/-! B0: what all of these proofs share. -/
namespace My
open PySem PySem.Spec PyProof.Rows L2
/-! ### defs called by their names -/
def Df (K : PySem.W.Frag) (mg : Str → Option Value) (x : Str) (st : Stmt) (ps : List Str) : Prop := ∃ f fd, Fun K x x st f fd ∧ mg x = some (.ref f) ∧ Binds K fd ps []
def Cl (P : Program) (w : World) (K : PySem.W.Frag) (mg : Str → Option Value) (base : Heap) (k : Nat) (x : Str) (ps : List Str) (sp : Sp) : Prop := ∃ f fd, FnOk P w K mg base CX0 k f fd ps sp ∧ mg x = some (.ref f) ∧ PySem.W.keepIn K (.ref f) = true ∧ Binds K fd ps []
section
variable {P : Program} {w : World} {K : PySem.W.Frag} {mg : Str → Option Value} {base : Heap}
theorem ok_of {x : Str} {st : Stmt} {N ps : List Str} {k : Nat} {sp : Sp} (D : Df K mg x st ps) (S : FnScope N ps (defScope st)) (len : ∀ vs H Q E, sp vs H Q E → vs.length = ps.length)
    (hbody : ∀ (f : Addr) (cdv : Value) (A : Around) (outer : List Env) (s : Shared) (H : Hp) (vs : List V) (Q : VK) (E : XK), Room k (A.deeper (envOfC x (defScope st) s.heap.objs.size f cdv)) → sp vs H Q E →
      ∃ t, PSs (cxOf CX0 P w K mg base N x (defScope st) f cdv A outer s H E).nox (defBody st) t ∧ t { nx := fun _ H' => Q .non H', rt := Q } (start N vs) H) : Cl P w K mg base (k + 1) x ps sp := by
  obtain ⟨f, fd, F, hm, b⟩ := D
  exact ⟨f, fd, F.ok S len (hbody f), hm, F.kp, b⟩
end
section
variable {X : Cx}
theorem pe_cl {k j : Nat} {x : Str} {ps : List Str} {sp : Sp} {e : Expr} {es : List Expr} {t : TA} {p pos : Pos} (c : Cl X.prog X.w X.K X.mg X.base k x ps sp) (hr : Room j X.A) (hk : k ≤ j) (hg : Gl X x) (ha : PA X (e :: es) t)
    (hdb : (x == ("__debug__" : Str)) = false := by decide) (he : starEach (e :: es) X.env = (false, eval e X.env) :: starEach es X.env := by rfl) (hpl : (backTo pos (starEach es X.env)).any (·.1) = false := by rfl) :
    PE X (.Call (.Name x p) (e :: es) [] pos) (tCall sp [] E0 t) := by
  obtain ⟨f, fd, F, hm, kp, b⟩ := c
  exact pe_call F (hr.mono hk) hg hm kp b .nil pass0 ha hdb he hpl
theorem call_repr_bool : CallR X (.builtin "repr") (fun xs H Q => ∃ b, xs = [.bl b] ∧ Q (.str (if b then "True" else "False")) H) := by
  intro pins s σ H xs us Q I r h
  obtain ⟨i, rfl, q⟩ := h
  obtain ⟨u, rfl, rfl⟩ := vals1 r
  exact PySem.P.repr_of_bool ⟨.str _, H, I.tok _, ⟨_, rfl⟩, q⟩
end
theorem repr_ne (a b : Bool) : (!decide ((V.str (if a then "True" else "False")) = V.str (if b then "True" else "False"))) = (a != b) := by
  cases a <;> cases b <;> decide +kernel

/-! ### heaps: all but the thing at p is as it was -/
def Bt (p : Addr) (H H' : Hp) : Prop := ∀ b o, b ≠ p → H b = some o → H' b = some o
theorem Bt.refl {p : Addr} {H : Hp} : Bt p H H := fun _ _ _ h => h
theorem Bt.trans {p : Addr} {H H1 H2 : Hp} (a : Bt p H H1) (b : Bt p H1 H2) : Bt p H H2 := fun c o n h => b c o n (a c o n h)
theorem Bt.same {p : Addr} {H H1 : Hp} (a : Same H H1) : Bt p H H1 := fun c o _ h => a c o h
theorem Bt.upd {p : Addr} {H : Hp} {o : HO} : Bt p H (upd H p o) := fun c o n h => by
  rw [upd_ne n]
  exact h
theorem Bt.new {p q : Addr} {H : Hp} {o : HO} (h : H q = none) : Bt p H (L2.upd H q o) := fun c u _ e => by
  rw [upd_ne (ne_of_none e h)]
  exact e
theorem same_new {H : Hp} {p : Addr} {o : HO} (h : H p = none) : Same H (upd H p o) := fun b x e => by
  rw [upd_ne (ne_of_none e h)]
  exact e

/-! ### the box of which the law draws -/
def bx (i j k : Int) : HO := .lst [.int i, .int j, .int k]
def Box (n : Nat) (H : Hp) (p : Addr) : Prop := ∃ i j k : Int, H p = some (bx i j k) ∧ 0 ≤ i ∧ 0 ≤ j ∧ j < 2147483587 ∧ 0 ≤ k ∧ k ≤ n
theorem Box.mono {n m : Nat} {H : Hp} {p : Addr} (h : Box n H p) (l : n ≤ m) : Box m H p := by
  obtain ⟨i, j, k, e, a, b, c, d, f⟩ := h
  exact ⟨i, j, k, e, a, b, c, d, by omega⟩
theorem Box.same {n : Nat} {H H' : Hp} {p : Addr} (h : Box n H p) (l : Same H H') : Box n H' p := by
  obtain ⟨i, j, k, e, a, b, c, d, f⟩ := h
  exact ⟨i, j, k, l _ _ e, a, b, c, d, f⟩
theorem Box.ne {n : Nat} {H : Hp} {p q : Addr} (h : Box n H p) (l : H q = none) : p ≠ q := by
  obtain ⟨i, j, k, e, _⟩ := h
  exact ne_of_none e l
/-- what a def that draws leaves: the box, some draws further on, and all else as it was -/
structure Dr (p : Addr) (n : Nat) (H H' : Hp) : Prop where
  box : Box n H' p
  bt : Bt p H H'
theorem nat_small {z : Int} {m : Nat} (h0 : 0 ≤ z) (h1 : z < m) : z.natAbs < m := by omega

def sp_cell (K : PySem.W.Frag) : Sp := fun vs H Q _ => ∃ (a : Addr) (ns : List Int) (k : Int), vs = [.ref a, .int k] ∧ SqL K H a (ns.map V.int) ∧ 0 ≤ k ∧ ∀ z, Q (.int z) H
def sp_box : Sp := fun vs H Q _ => ∃ c : Int, vs = [.int c] ∧ ∀ p H', H p = none → Same H H' → Box 0 H' p → Q (.ref p) H'
def sp_take : Sp := fun vs H Q _ => ∃ (p : Addr) (n : Nat) (m : Int), vs = [.ref p, .int m] ∧ Box n H p ∧ n ≤ 1000000 ∧ 0 < m ∧ m < 1073741824 ∧ ∀ d H', 0 ≤ d → d < m → Dr p (n + 1) H H' → Q (.int d) H'
end My
namespace My
open PySem PySem.Spec PyProof.Rows L2
theorem ix_some {α : Type} (xs : List α) {i : Int} (h0 : 0 ≤ i) (h1 : i < xs.length) : ∃ v, atI xs i = some v ∧ v ∈ xs := by
  have hj : i.toNat < xs.length := by omega
  refine ⟨xs[i.toNat], ?_, List.getElem_mem hj⟩
  have e : xs[i.toNat]? = some xs[i.toNat] := List.getElem?_eq_getElem hj
  have := atI_nat e
  rwa [Int.toNat_of_nonneg h0] at this
theorem Dr.refl {p : Addr} {n : Nat} {H : Hp} (h : Box n H p) : Dr p n H H := ⟨h, Bt.refl⟩
theorem Dr.trans {p : Addr} {n m : Nat} {H H1 H2 : Hp} (a : Dr p n H H1) (b : Dr p m H1 H2) : Dr p m H H2 := ⟨b.box, a.bt.trans b.bt⟩
theorem Dr.new {p q : Addr} {n : Nat} {H H1 : Hp} {o : HO} (a : Dr p n H H1) (h : H1 q = none) : Dr p n H (upd H1 q o) := ⟨a.box.same (same_new h), a.bt.trans (Bt.new h)⟩
theorem Dr.mono {p : Addr} {n m : Nat} {H H1 : Hp} (a : Dr p n H H1) (l : n ≤ m) : Dr p m H H1 := ⟨a.box.mono l, a.bt⟩
theorem joinL1 : ∀ cs : List Nat, TL.joinL [] (cs.map fun c => [c]) = cs
  | [] => rfl
  | [c] => rfl
  | c :: d :: r => by
    have e := joinL1 (d :: r)
    show c :: ([] ++ TL.joinL [] ((d :: r).map fun c => [c])) = c :: d :: r
    rw [List.nil_append, e]
theorem join_signs (cs : List Nat) : Txt.join ("" : Str) (cs.map fun c => (⟨#[c]⟩ : Str)) = SX.S cs := by
  have e := SX.join_S [] (cs.map fun c => [c])
  rw [joinL1, List.map_map] at e
  exact e
theorem lens1 : ∀ cs : List Nat, ((cs.map fun c => (⟨#[c]⟩ : Str)).map (·.length)).sum = cs.length
  | [] => rfl
  | c :: r => by
    have e := lens1 r
    rw [List.map_cons, List.map_cons, List.sum_cons, e, List.length_cons]
    show 1 + r.length = r.length + 1
    omega
end My
set_option Elab.async false
set_option linter.all false
set_option maxRecDepth 100000
set_option maxHeartbeats 4000000
/-! B1: an own exception as a value: made by its own __init__, its base's __init__ called by the class's name, isinstance of it. -/
namespace My
open PySem PySem.Spec PyProof.Rows L2
theorem S_le {l : List Nat} (h : l.length ≤ 1000) : (SX.S l).length ≤ sizeLine := by
  rw [SX.S_len]
  exact Nat.le_trans h (by decide)
theorem sign_ok {c : Nat} (h : c < 128) : PyData.strOk (⟨#[c]⟩ : Str) = true := by
  simp [PyData.strOk]
  omega
theorem lay_signs : ∀ cs : List Nat, (∀ c ∈ cs, c < 128) → PyData.canLayAll0 (cs.map fun c => PyData.str ⟨#[c]⟩) = true
  | [], _ => rfl
  | c :: r, h => by
    show (PyData.strOk (⟨#[c]⟩ : Str) && PyData.canLayAll0 (r.map fun c => PyData.str ⟨#[c]⟩)) = true
    rw [sign_ok (h c (List.mem_cons_self ..)), lay_signs r fun d hd => h d (List.mem_cons_of_mem _ hd)]
    rfl
theorem dep_signs : ∀ cs : List Nat, PyData.depthAll (cs.map fun c => PyData.str ⟨#[c]⟩) = 0
  | [] => rfl
  | c :: r => by
    show max 0 (PyData.depthAll (r.map fun c => PyData.str ⟨#[c]⟩)) = 0
    rw [dep_signs r]
    rfl
theorem shaped_signs {cs : List Nat} (h : ∀ c ∈ cs, c < 128) : SeqAt.shaped (.list (cs.map fun c => PyData.str ⟨#[c]⟩)) = true := by
  unfold SeqAt.shaped
  rw [Bool.and_eq_true]
  refine ⟨lay_signs cs h, decide_eq_true ?_⟩
  show PyData.depthAll _ + 1 ≤ 64
  rw [dep_signs]
  decide
theorem dpall_signs {K : PySem.W.Frag} {H : Hp} : ∀ cs : List Nat, DpAll K H (cs.map fun c => V.str ⟨#[c]⟩) (cs.map fun c => PyData.str ⟨#[c]⟩)
  | [] => .nil
  | c :: r => .cons (.str _) (dpall_signs r)
theorem eqv_nil (ds : List PyData) : PyData.eqv (.list ds) (.list []) = ds.isEmpty := by
  cases ds with
  | nil => rfl
  | cons a r => rfl
/-- C(e, ..) as a value, C's own __init__ keeping sp -/
def tMkV (C : Addr) (sp : Sp) (ta : TA) : TE := fun σ H Q => ta σ H fun vs H1 => vs.length ≤ 1000 ∧ ∀ a, H1 a = none → sp (.ref a :: vs) (upd H1 a (exo a C none)) (fun v H2 => v = .non ∧ Q (.ref a) H2) E0
section
variable {X : Cx} {e : Expr} {es : List Expr} {ta : TA} {p p1 p2 pos : Pos}
theorem pe_oexv {x : Str} {C fI : Addr} {k : Nat} {fd : FuncData} {ps : List Str} {sp : Sp} (T : OexC X.K C) (iC : PySem.W.findIn X.K (.ref C) "__init__" = some (some (.ref fI))) (tI : PySem.W.typeIn X.K (.ref fI) = some (.type "function"))
    (F1 : FnOk X.prog X.w X.K X.mg X.base CX0 k fI fd ps sp) (hr : Room (k + 1) X.A) (hb : Binds X.K fd ps []) (hg : Gl X x) (hm : X.mg x = some (.ref C)) (ha : PA X (e :: es) ta)
    (hdb : (x == ("__debug__" : Str)) = false := by decide) (he : starEach (e :: es) X.env = (false, eval e X.env) :: starEach es X.env := by rfl) (hpl : (backTo pos (starEach es X.env)).any (·.1) = false := by rfl) :
    PE X (.Call (.Name x p) (e :: es) [] pos) (tMkV C sp ta) := by
  refine ⟨fun pins s σ H Q I h => ?_⟩
  obtain ⟨nm, q, N, bs, bm, sn, sub, ab, col, dd, k0, k1, k2, k3, k5, hC, hbm⟩ := T.cls
  refine wpAny_Call_Name_kw (ld_glob I hg hm ?_ hdb)
  refine PySem.W.callWith_K (h₀ := X.base) I.ok.mod.kin T.kC (thn (ha.run pos pins s σ H _ I h) fun us s1 ⟨vs, H1, I1, r1, hz, q1⟩ => ⟨I1.kIn, ?_⟩) he hpl
  show wpAny _ _ (call (.ref C) us) _ _ _
  obtain ⟨hp, g, dr, tk, os⟩ := s1
  have hsz : hp.objs.size ≤ hp.objs.size + 1 := Nat.le_succ _
  have hn : H1 (hp.objs.size + 1) = none := I1.hok.fresh hsz
  have hq := q1 (hp.objs.size + 1) hn
  have kk : ∀ b o, hp.get? b = some o → ((hp.push (PySem.W.kdv_tup us)).push (PySem.HandSPX.excO C hp.objs.size)).get? b = some o := fun b o e => Heap.get?_push_of_some _ (Heap.get?_push_of_some _ e)
  have hget : ((hp.push (PySem.W.kdv_tup us)).push (PySem.HandSPX.excO C hp.objs.size)).get? (hp.objs.size + 1) = some (PySem.HandSPX.excO C hp.objs.size) := by heap_get
  have I2 : Inv X pins σ (upd H1 (hp.objs.size + 1) (exo (hp.objs.size + 1) C none)) ⟨(hp.push (PySem.W.kdv_tup us)).push (PySem.HandSPX.excO C hp.objs.size), g, dr, tk, os⟩ :=
    I1.laid (t' := tk) (a := hp.objs.size + 1) (o := exo (hp.objs.size + 1) C none) (h' := (hp.push (PySem.W.kdv_tup us)).push (PySem.HandSPX.excO C hp.objs.size)) kk hsz (exo_ok hget)
  have r2 : Vals (V.ref (hp.objs.size + 1) :: vs) (Value.ref (hp.objs.size + 1) :: us) := .cons rfl r1
  have hl : (Value.ref (hp.objs.size + 1) :: us ++ []).length = ps.length := by
    rw [List.append_nil]
    have e := r2.length
    rw [F1.len _ _ _ _ hq] at e
    exact e.symm
  have hus : us.length ≤ sizeLine := by
    rw [← Paired.length r1, sizeLine_eq]
    omega
  have hbb := hb ⟨(hp.push (PySem.W.kdv_tup us)).push (PySem.HandSPX.excO C hp.objs.size), g, dr, tk, os⟩ (Value.ref (hp.objs.size + 1) :: us) I2.kIn hl
  rw [List.append_nil] at hbb
  refine wpAny_call (PySem.HandSPX.call_own F.excBase_ValueError (fun Y => PySem.HandSPX.refsVE_contains Y bm hbm) (I1.kIn _ _ hC) (PySem.W.looks_findIn I1.kIn iC) (fun self => PySem.W.bind_fn I1.kIn self tI) hus
    (codeAny_mono (F1.run _ X.stack _ _ ⟨Value.ref (hp.objs.size + 1) :: us, []⟩ (Value.ref (hp.objs.size + 1) :: us) _ _ (fun _ _ _ => False) (hr.make C us []) (I2.env0.make C us []) hbb r2 hq) fun r s' hq' => ?_))
  cases r with
  | error er => exact pass0 pins σ _ _ er s' I2 hq'
  | ok fl =>
    cases fl with
    | ret u =>
      obtain ⟨v, H2, os2, bare2, un2, hok2, rv, ev, q2⟩ := hq'
      subst ev
      exact ⟨rv, .ref (hp.objs.size + 1), H2, I2.call' (ch := []) os2 un2 hok2 bare2 (fun b z => absurd z (by simp)), rfl, q2⟩
    | next => exact False.elim hq'
    | brk => exact False.elim hq'
    | cont => exact False.elim hq'
/-- what the written part says of reading a def off the class at C -/
structure CDef (K : PySem.W.Frag) (C : Addr) (m : Str) (f : Addr) : Prop where
  ga : PySem.W.specialIn K (.ref C) "__getattribute__" = some (some (.builtin "type.__getattribute__"))
  rd : PySem.W.readsIn K C (.type "type") = true
  at_ : PySem.W.findCls K (.ref C) (.type "type") m = some (.val (.ref f))
/-- C.m(self, ..) -/
theorem pe_cinit {pl : Sem Bool} {x m : Str} {C f : Addr} {k : Nat} {fd : FuncData} {ps : List Str} {sp : Sp} (c : CDef X.K C m f) (F : FnOk X.prog X.w X.K X.mg X.base CX0 k f fd ps sp) (hr : Room k X.A) (hg : Gl X x) (hm : X.mg x = some (.ref C)) (hk : PySem.W.keepIn X.K (.ref f) = true) (hb : Binds X.K fd ps [])
    (ha : PA X (e :: es) ta) (hdb : (x == ("__debug__" : Str)) = false := by decide)
    (hc : eval (.Call (.Attribute (.Name x p1) m p2) (e :: es) [] pos) X.env = (do
      let ov ← eval (.Name x p1) X.env
      standAt p2.atName
      let (f, first) ← holding [ov] (getMethod ov m pl)
      callWith pos f first (backTo pos (starEach (e :: es) X.env)) (backToKw pos (keywordEach [] X.env))) := by rfl)
    (he : starEach (e :: es) X.env = (false, eval e X.env) :: starEach es X.env := by rfl) (hpl : (backTo pos (starEach es X.env)).any (·.1) = false := by rfl) :
    PE X (.Call (.Attribute (.Name x p1) m p2) (e :: es) [] pos) (tCall sp [] E0 ta) := by
  refine ⟨fun pins s σ H Q I h => ?_⟩
  refine PySem.W.methodCall_KW (ld_glob I hg hm ?_ hdb) hc
  refine PySem.W.method_cls I.kIn c.ga (PySem.W.cls_value I.kIn c.rd c.at_ rfl ?_)
  show wpAny _ _ (callWith pos (Value.ref f) [] (backTo pos (starEach (e :: es) X.env)) []) _ _ _
  refine PySem.W.callWith_K (h₀ := X.base) I.ok.mod.kin hk (thn (ha.run pos pins _ σ H _ (I.tok _) h) fun us s1 ⟨vs, H1, I1, r, q⟩ => ⟨I1.kIn, ?_⟩) he hpl
  exact run_fn F hr hb .nil pass0 I1 r q
end
/-- a made exception of the class at C, its fields (the newest first) -/
def Exn (H : Hp) (a C : Addr) (fs : List (Str × V)) : Prop := ∃ dx, H a = some (exo a C (some dx)) ∧ H dx = some (exd dx fs)
theorem Exn.same {H H' : Hp} {a C : Addr} {fs : List (Str × V)} (h : Exn H a C fs) (s : Same H H') : Exn H' a C fs := by
  obtain ⟨dx, h1, h2⟩ := h
  exact ⟨dx, s _ _ h1, s _ _ h2⟩
/-- what isinstance asks of its class -/
structure ExI (K : PySem.W.Frag) (C : Addr) : Prop where
  cl : (PySem.W.clsIn K C).isSome = true
  ga : PySem.W.findIn K (.ref C) "__getattribute__" = some (some (.builtin "BaseException.__getattribute__"))
  gt : PySem.W.findIn K (.ref C) "__getattr__" = some none
  sub : PySem.W.subIn K (.ref C) (.type "BaseException") = some true
  ca : PySem.W.findIn K (.ref C) "__class__" = some (some (.builtin "object.__class__"))
  hn : PySem.W.specialIn K (.builtin "object.__class__") "__get__" = some (some (.builtin "getset_descriptor.__get__"))
  tk : PySem.W.takesIn K (.builtin "object.__class__") = some true
  hm : PySem.W.mroIn K C (.type "object") = some true
section
variable {X : Cx} {pins : List (Addr × Obj)} {σ : L2.St} {H : Hp} {s : Shared}
theorem exn_inst {a C : Addr} {fs : List (Str × V)} (I : Inv X pins σ H s) (h : Exn H a C fs) : ∃ ox oD, PySem.W.InstAt s.heap a ox C (some oD) := by
  obtain ⟨dx, h1, h2⟩ := h
  obtain ⟨t1, ho⟩ := exo_at I.hok h1
  obtain ⟨mA, hns, rel⟩ := exd_at I.hok h2
  obtain ⟨oD, _, _, hoD, _, _⟩ := hns.count (within_of rel)
  exact ⟨_, oD, ho, rfl, rfl, hoD⟩
/-- isinstance(x, c): x a made exception -/
theorem call_isx : CallR X (.builtin "isinstance") (fun xs H Q => ∃ (a C : Addr) (fs : List (Str × V)) (c : V) (u : Value) (b : Bool), xs = [.ref a, c] ∧ Exn H a C fs ∧ ExI X.K C ∧ ClsV c u ∧ PySem.W.kitOne X.K (.ref C) u = some b ∧ Q (.bl b) H) := by
  intro pins s σ H xs us Q I r h
  obtain ⟨a, C, fs, c, u, b, rfl, hx, D, k, e, q⟩ := h
  obtain ⟨u1, u2, rfl, r1, r2⟩ := vals2 r
  have e2 := k.eq r2
  subst e2
  cases (show u1 = Value.ref a from r1)
  obtain ⟨ox, oD, hI⟩ := exn_inst I hx
  exact PySem.W.kia_one (PySem.W.kitx_exc (x := a) (ox := ox) (od := some oD) D.cl D.ga D.gt D.sub D.ca D.hn D.tk D.hm) I.kIn hI e (fun z => nomatch z) fun tk => ⟨.bl b, H, I.tok tk, rfl, q⟩
/-- both -/
theorem call_isb : CallR X (.builtin "isinstance") (fun xs H Q => rIsi X.K xs H Q ∨ ∃ (a C : Addr) (fs : List (Str × V)) (c : V) (u : Value) (b : Bool), xs = [.ref a, c] ∧ Exn H a C fs ∧ ExI X.K C ∧ ClsV c u ∧ PySem.W.kitOne X.K (.ref C) u = some b ∧ Q (.bl b) H) := CallR.or call_isi call_isx
end
end My
set_option Elab.async false
set_option linter.all false
set_option maxRecDepth 100000
set_option maxHeartbeats 4000000
/-! B2: promises of defs that are called while nothing is being shown (no repr on the way), repr of data; data that stand apart from one object. -/
namespace My
open PySem PySem.Spec PyProof.Rows L2
/-! ### promises where nothing is being shown -/
structure FnG (P : Program) (w : World) (K : PySem.W.Frag) (mg : Str → Option Value) (base : Heap) (k : Nat) (f : Addr) (fd : FuncData) (ps : List Str) (sp : Sp) : Prop where
  len : ∀ vs H Q E, sp vs H Q E → vs.length = ps.length
  go : ∀ (A : Around) (out : List Env) (s : Shared) (H : Hp) (ar : Args) (us : List Value) (vs : List V) (Q : VK) (E : XK), Room k A → A.guards = some [] → Env0 P w K mg base A out s H → BindsTo s fd ar (ps.zip us) → Vals vs us → sp vs H Q E →
    codeAny (model P w) A (.call (.ref f) ar) (CR CX0 out P w H s Q E) s
section
variable {P : Program} {w : World} {K : PySem.W.Frag} {mg : Str → Option Value} {base : Heap}
theorem fnG_of {k : Nat} {f : Addr} {nm ql : Str} {pa : Arguments} {bd : List Stmt} {sc : Scope} {dV kV doc pm cdv ct oc : Value} {an od : Option Addr} {osl : Array (Option Value)} {N ps : List Str} {sp : Sp}
    (look : K.lookup f = some ⟨oc, od, .func (PySem.W.fnOf nm ql pa bd sc dV kV doc pm an cdv ct), osl⟩) (code : PySem.W.codeIn K cdv ql = true) (S : FnScope N ps sc) (len : ∀ vs H Q E, sp vs H Q E → vs.length = ps.length)
    (body : ∀ (A : Around) (out : List Env) (s : Shared) (H : Hp) (vs : List V) (Q : VK) (E : XK), Room k (A.deeper (envOfC ql sc s.heap.objs.size f cdv)) → A.guards = some [] → sp vs H Q E →
      ∃ t, PSs (cxOf CX0 P w K mg base N ql sc f cdv A out s H E) bd t ∧ t { nx := fun _ H' => Q .non H', rt := Q } (start N vs) H) :
    FnG P w K mg base (k + 1) f (PySem.W.fnOf nm ql pa bd sc dV kV doc pm an cdv ct) ps sp := by
  refine ⟨len, fun A out s H ar us vs Q E hr hg env0 hb rel hsp => ?_⟩
  have llen := len _ _ _ _ hsp
  have KS : K.In s.heap := env0.mod.kin.keeps fun b o e => (env0.bs b o e).1
  have kinds : ∀ y ∈ ps.zip us, sc.names.lookup y.1 = some .local ∨ (sc.names.lookup y.1 = some .cell ∧ ((cellsFrom (s.heap.objs.size + 1) sc.names []).lookup y.1).isSome = true) := by
    intro ⟨n, v⟩ hy
    exact (S.par n (List.of_mem_zip hy).1).elim (fun q => .inl q) fun q => .inr ⟨q, PySem.W.cellsFrom_some _ _ _ (.inl q)⟩
  refine codeAny_call_function hr.depth (KS _ _ look) rfl S.co S.gen rfl (PySem.W.codeRec_of KS code) (hb _ _ _ _ ?_)
  refine wpAny_newFunctionEnv_cells S.kind kinds fun ev he s1 z => ?_
  subst he
  refine ⟨(env0.mod.nolimit.keeps fun b o e => (env0.bs b o e).1).keeps z.toInCall.keep, codeAny_func ?_⟩
  obtain ⟨t, ht, hq⟩ := body A out s H vs Q E (hr.deeper _) hg hsp
  have I0 := inv_start (CX := CX0) (E := E) S hr.hd env0 llen rel z
  refine wpAny_mono (ht.run [] s1 (start N vs) H _ I0 hq) (fun fl s' hs => ?_) fun e s' hs => hs
  cases fl with
  | ret u => exact let ⟨v, σ', H', J, rv, q⟩ := hs; ⟨v, H', J.os, J.bare, J.base, J.hok, rv, q⟩
  | next => exact let ⟨σ', H', J, q⟩ := hs; ⟨V.non, H', J.os, J.bare, J.base, J.hok, rfl, q⟩
  | brk => exact let ⟨_, _, _, q⟩ := hs; False.elim q
  | cont => exact let ⟨_, _, _, q⟩ := hs; False.elim q
def ClG (P : Program) (w : World) (K : PySem.W.Frag) (mg : Str → Option Value) (base : Heap) (k : Nat) (x : Str) (ps : List Str) (sp : Sp) : Prop := ∃ f fd, FnG P w K mg base k f fd ps sp ∧ mg x = some (.ref f) ∧ PySem.W.keepIn K (.ref f) = true ∧ Binds K fd ps []
theorem fun_okG {x ql : Str} {st : Stmt} {f : Addr} {fd : FuncData} {N ps : List Str} {k : Nat} {sp : Sp} (F : Fun K x ql st f fd) (S : FnScope N ps (defScope st)) (len : ∀ vs H Q E, sp vs H Q E → vs.length = ps.length)
    (body : ∀ (cdv : Value) (A : Around) (out : List Env) (s : Shared) (H : Hp) (vs : List V) (Q : VK) (E : XK), Room k (A.deeper (envOfC ql (defScope st) s.heap.objs.size f cdv)) → A.guards = some [] → sp vs H Q E →
      ∃ t, PSs (cxOf CX0 P w K mg base N ql (defScope st) f cdv A out s H E).nox (defBody st) t ∧ t { nx := fun _ H' => Q .non H', rt := Q } (start N vs) H) : FnG P w K mg base (k + 1) f fd ps sp := by
  obtain ⟨oc, od, kV, doc, pm, an, cdv, ct, osl, rfl, lk, hcd⟩ := F.ex
  refine fnG_of lk hcd S len fun A out s H vs Q E hr hg hsp => ?_
  obtain ⟨t, h, q⟩ := body cdv A out s H vs Q E hr hg hsp
  exact ⟨t, h.nox, q⟩
theorem okG_of {x : Str} {st : Stmt} {N ps : List Str} {k : Nat} {sp : Sp} (D : Df K mg x st ps) (S : FnScope N ps (defScope st)) (len : ∀ vs H Q E, sp vs H Q E → vs.length = ps.length)
    (body : ∀ (f : Addr) (cdv : Value) (A : Around) (out : List Env) (s : Shared) (H : Hp) (vs : List V) (Q : VK) (E : XK), Room k (A.deeper (envOfC x (defScope st) s.heap.objs.size f cdv)) → A.guards = some [] → sp vs H Q E →
      ∃ t, PSs (cxOf CX0 P w K mg base N x (defScope st) f cdv A out s H E).nox (defBody st) t ∧ t { nx := fun _ H' => Q .non H', rt := Q } (start N vs) H) : ClG P w K mg base (k + 1) x ps sp := by
  obtain ⟨f, fd, F, hm, b⟩ := D
  exact ⟨f, fd, fun_okG F S len (body f), hm, F.kp, b⟩
end
section
variable {X : Cx}
theorem pe_clG {k j : Nat} {x : Str} {ps : List Str} {sp : Sp} {e : Expr} {es : List Expr} {t : TA} {p pos : Pos} (c : ClG X.prog X.w X.K X.mg X.base k x ps sp) (hr : Room j X.A) (gd : X.A.guards = some []) (hk : k ≤ j) (hg : Gl X x) (ha : PA X (e :: es) t)
    (hdb : (x == ("__debug__" : Str)) = false := by decide) (he : starEach (e :: es) X.env = (false, eval e X.env) :: starEach es X.env := by rfl) (hpl : (backTo pos (starEach es X.env)).any (·.1) = false := by rfl) :
    PE X (.Call (.Name x p) (e :: es) [] pos) (tCall sp [] E0 t) := by
  obtain ⟨f, fd, F, hm, kp, b⟩ := c
  refine ⟨fun pins s σ H Q I h => wpAny_Call_Name_kw (ld_glob I hg hm ?_ hdb)⟩
  refine PySem.W.callWith_K (h₀ := X.base) I.ok.mod.kin kp (thn (ha.run pos pins s σ H _ I h) fun us s1 ⟨vs, H1, I1, r, q⟩ => ⟨I1.kIn, ?_⟩) he hpl
  have q : sp (vs ++ []) H1 Q E0 := q
  rw [List.append_nil] at q
  have hl : (us ++ []).length = ps.length := by
    rw [List.append_nil, ← r.length]
    exact F.len _ _ _ _ q
  have hb := b s1 us I1.kIn hl
  rw [List.append_nil] at hb
  refine wpAny_call (codeAny_mono (F.go X.A X.stack s1 H1 ⟨us, []⟩ us vs Q E0 (hr.mono hk) gd I1.env0 hb r q) fun r s' hq => ?_)
  match r, hq with
  | .error e, hq => exact pass0 pins σ H1 s1 e s' I1 hq
  | .ok (.ret u), hq => exact I1.after hq
theorem call_repr_data (gd : X.A.guards = some []) (hu : X.A.units + 80 < cLine) : CallR X (.builtin "repr") (fun xs H Q => ∃ (a : Addr) (d : PyData), xs = [.ref a] ∧ Dp X.K H (.ref a) d ∧ d.showable = true ∧ d.hasDict = false ∧ d.depth ≤ 64 ∧ d.shown.length ≤ sizeLine ∧ Q (.str d.shown) H) := by
  intro pins s σ H xs us Q I r h
  obtain ⟨a, d, rfl, hd, hs, hn, hp, hz, q⟩ := h
  obtain ⟨u, rfl, r1⟩ := vals1 r
  cases (show u = Value.ref a from r1)
  obtain ⟨as, R⟩ := Dp.reads I d (.ref a) (.ref a) hd rfl
  exact repr_of_reads' R hs (fun z => absurd (hn.symm.trans z) (by decide)) gd (by omega) (fun _ _ e => e) (fun h' u tk hk => ⟨.str _, H, I.kept hk, ⟨_, rfl⟩, q⟩) hz
theorem call_repr_none : CallR X (.builtin "repr") (fun xs H Q => xs = [.non] ∧ Q (.str "None") H) := by
  intro pins s σ H xs us Q I r h
  obtain ⟨rfl, q⟩ := h
  obtain ⟨u, rfl, rfl⟩ := vals1 r
  exact PySem.P.repr_of_none ⟨.str _, H, I.tok _, ⟨_, rfl⟩, q⟩
end

/-! ### the law's own call -/
section
variable {P : Program} {w : World} {K : PySem.W.Frag} {mg mb : Str → Option Value} {k : Nat} {fa a : Addr} {fd : FuncData} {x : Str} {sp : Sp} {s₁ : Shared} {vs : List Value} {ns : List Int}
/-- what may be tracked at the law's entry: the script alone -/
structure Ent (K : PySem.W.Frag) (P : Program) (w : World) (s₁ : Shared) (a : Addr) (ns : List Int) (H : Hp) : Prop where
  only : Only H
  sq : SqL K H a (ns.map V.int)
  ok : HOk P w H s₁.heap
  one : ∀ b, H b ≠ none → b = a
  kn : H a ≠ none → K.lookup a = none
theorem lawG_core {H : Hp} (J : Ent K P w s₁ a ns H) (KX : K.In s₁.heap) (hns : s₁.heap.Ns mainGlobals mg) (hb : s₁.heap.Ns builtinsNs mb) (hbb : ∀ x : Str, x ≠ "__name__" → mb x = bootBuiltins x) (hlim : s₁.heap.NoLimit) (hg : s₁.gens = #[])
    (ha : s₁.heap.get? a = some { cls := .type "list", data := .seq vs.toArray }) (hr : Room k callerA) (F : ∀ base : Heap, K.In base → base.Ns mainGlobals mg → FnG P w K mg base k fa fd [x] sp) (bnd : ∀ (s : Shared) (u : Value), BindsTo s fd ⟨[u], []⟩ [(x, u)])
    (hsp : ∀ H : Hp, Only H → SqL K H a (ns.map V.int) → sp [.ref a] H (fun v _ => v = .bl true) fun _ _ _ => False) :
    codeAny (model P w) callerA (.call (.ref fa) ⟨[.ref a], []⟩) (fun r s' => r = .ok (.ret (.bool true)) ∧ OldK s₁.heap s'.heap ∧ s'.os = s₁.os ∧ AllBare s'.gens) s₁ := by
  have at0 : ∀ {b : Addr} {o : Obj}, s₁.heap.get? b = some o → (b = a → H a = none) → (hidT s₁.heap H).get? b = some o := fun {b o} e n => hidT_get e (by
    cases q : H b with
    | none => rfl
    | some u =>
      have eb : b = a := J.one b (by rw [q]; simp)
      rw [eb, n eb] at q
      cases q)
  have dct : ∀ {b : Addr} {o : Obj} {es : Array DictEntry} {ep : Nat}, s₁.heap.get? b = some o → o.data = .dict es ep → b = a → H a = none := fun {b o es ep} e d eb => by
    rw [eb, ha] at e
    cases e
    exact absurd (show Data.seq vs.toArray _ = Data.dict es ep from d) (by intro z; cases z)
  have nsB : ∀ {b : Addr} {m : Str → Option Value}, s₁.heap.Ns b m → (hidT s₁.heap H).Ns b m := fun ⟨o, es, ep, e, d, r⟩ => ⟨o, es, ep, at0 e (dct e d), d, r⟩
  have KB : K.In (hidT s₁.heap H) := fun b o e => at0 (KX b o e) fun eb => by
    cases q : H a with
    | none => rfl
    | some u =>
      have z := J.kn (by rw [q]; simp)
      rw [eb, z] at e
      cases e
  have md : Mod K mg (hidT s₁.heap H) := ⟨KB, nsB hns, ⟨mb, nsB hb, hbb⟩, let ⟨mc, h1, h2⟩ := hlim; ⟨mc, nsB h1, h2⟩⟩
  have en : Env0 P w K mg (hidT s₁.heap H) callerA [] s₁ H := ⟨rfl, md, fun b o e => of_hidT e, Nat.le_of_eq (hidT_size _ _), trivial, (fun b hb => by cases hb), J.ok, .of_eq hg⟩
  refine codeAny_mono ((F _ KB (nsB hns)).go callerA [] s₁ H ⟨[.ref a], []⟩ [.ref a] [.ref a] _ _ hr rfl en (bnd s₁ (.ref a)) (.cons rfl .nil) (hsp H J.only J.sq)) fun r s' h => ?_
  match r, h with
  | .error e, h => exact False.elim h
  | .ok (.ret u), ⟨v, H', os, bare, un, ok2, rv, q⟩ =>
    have q' : v = .bl true := q
    subst q'
    obtain rfl : u = Value.bool true := rv
    refine ⟨rfl, OldK.of_keep fun b o e => ?_, os, bare⟩
    cases q : H b with
    | none => exact un.keep b o e q (by intro z; cases z) (by simp)
    | some u =>
      rcases J.only b with z | ⟨ob, xs, z⟩
      · rw [q] at z
        cases z
      · obtain ⟨e1, _⟩ := J.ok b _ z
        obtain ⟨e2, _⟩ := ok2 b _ (un.frzs b ob _ z)
        rw [e] at e1
        cases e1
        exact e2
theorem lawG_call (KX : K.In s₁.heap) (hns : s₁.heap.Ns mainGlobals mg) (hb : s₁.heap.Ns builtinsNs mb) (hbb : ∀ x : Str, x ≠ "__name__" → mb x = bootBuiltins x) (hlim : s₁.heap.NoLimit) (hg : s₁.gens = #[])
    (ha : s₁.heap.get? a = some { cls := .type "list", data := .seq vs.toArray }) (hi : IntsAre vs ns) (hl : ns.length ≤ sizeLine) (hr : Room k callerA) (F : ∀ base : Heap, K.In base → base.Ns mainGlobals mg → FnG P w K mg base k fa fd [x] sp) (bnd : ∀ (s : Shared) (u : Value), BindsTo s fd ⟨[u], []⟩ [(x, u)])
    (hsp : ∀ H : Hp, Only H → SqL K H a (ns.map V.int) → sp [.ref a] H (fun v _ => v = .bl true) fun _ _ _ => False) :
    codeAny (model P w) callerA (.call (.ref fa) ⟨[.ref a], []⟩) (fun r s' => r = .ok (.ret (.bool true)) ∧ OldK s₁.heap s'.heap ∧ s'.os = s₁.os ∧ AllBare s'.gens) s₁ := by
  have rv := vals_ints hi
  have lv := hi.length
  cases hk : K.lookup a with
  | some o =>
    have e := KX a o hk
    rw [ha] at e
    cases e
    refine lawG_core (H := fun _ => none) ⟨fun _ => .inl rfl, .inr ⟨_, vs.toArray, _, hk, rfl, rfl, rfl, ?_, by simpa using rv⟩, (fun b u z => by cases z), (fun b z => absurd rfl z), (fun z => absurd rfl z)⟩ KX hns hb hbb hlim hg ha hr F bnd hsp
    rw [List.size_toArray, lv]
    exact hl
  | none =>
    refine lawG_core (H := fun b => if b = a then some (.frz { cls := .type "list", data := .seq vs.toArray } (.lst (ns.map V.int))) else none) ⟨fun b => ?_, .inl (.inr ⟨{ cls := .type "list", data := .seq vs.toArray }, if_pos rfl⟩), fun b u z => ?_, fun b z => ?_, fun _ => hk⟩ KX hns hb hbb hlim hg ha hr F bnd hsp
    · by_cases eb : b = a
      · exact .inr ⟨_, _, if_pos eb⟩
      · exact .inl (if_neg eb)
    · by_cases eb : b = a
      · have y := (if_pos eb).symm.trans z
        cases y
        subst eb
        exact ⟨ha, (by rw [List.length_map]; exact hl), vs, _, rv, ha⟩
      · have y := (if_neg eb).symm.trans z
        cases y
    · by_cases eb : b = a
      · exact eb
      · exact absurd (if_neg eb) z
end
theorem walk_ofG {l : PySem.W.OpenLaw} {n k : Nat} {q : Program} {loose : List Str} {XP : (Str → Option Value) → Heap → Prop} {YP : World → Heap → Prop} {d : DefRec} {K : Params → PySem.W.Frag} {sp : World → Sp} {x : Str}
    (hn : l.most = some n) (hn2 : n ≤ sizeLine) (hdf : d.params.defaults = []) (hr : Room k callerA) (hY : ∀ (w : World) (h : Heap), YP w h → (K w.params).In h)
    (F : ∀ (w : World) (mg : Str → Option Value) (fa : Addr) (h : Heap), (K w.params).In h → h.Ns mainGlobals mg → mg d.name = some (.ref fa) →
      ∃ fd : FuncData, (∀ (s : Shared) (u : Value), BindsTo s fd ⟨[u], []⟩ [(x, u)]) ∧ ∀ base : Heap, (K w.params).In base → base.Ns mainGlobals mg → FnG l.prog w (K w.params) mg base k fa fd [x] (sp w))
    (hsp : ∀ (w : World) (H : Hp) (a : Addr) (ns : List Int), ns.length ≤ n → Only H → SqL (K w.params) H a (ns.map V.int) → sp w [.ref a] H (fun v _ => v = .bl true) fun _ _ _ => False) :
    PySem.W.WalkO q loose XP YP l.row.toRowW d [] (fun f vs => PySem.call f vs) := by
  refine Att.attach_call hn hdf fun w s₀ s₁ mg mb fa o pm cd doc a vs ns G Y ho hd hcd hmg hobj hints hlen hg => ?_
  obtain ⟨fd, bnd, hF⟩ := F w mg fa _ (hY w _ Y) G.T.g hmg
  exact lawG_call (hY w _ Y) G.T.g G.T.b G.T.builtins G.T.nolimit hg hobj hints (Nat.le_trans hlen hn2) hr hF bnd fun H hO hS => hsp w H a ns hlen hO hS
end My
set_option Elab.async false
set_option linter.all false
set_option maxRecDepth 100000
set_option maxHeartbeats 4000000
/-! B3: data that stand in the heap apart from one object (the box). -/
namespace My
open PySem PySem.Spec PyProof.Rows L2
/-- the things that may change -/
abbrev Av := Addr → Prop
def BtS (S : Av) (H H' : Hp) : Prop := ∀ b o, ¬ S b → H b = some o → H' b = some o
theorem BtS.refl {S : Av} {H : Hp} : BtS S H H := fun _ _ _ h => h
theorem BtS.trans {S : Av} {H H1 H2 : Hp} (a : BtS S H H1) (b : BtS S H1 H2) : BtS S H H2 := fun c o n h => b c o n (a c o n h)
theorem BtS.mono {S S' : Av} {H H1 : Hp} (a : BtS S H H1) (h : ∀ b, S b → S' b) : BtS S' H H1 := fun c o n k => a c o (fun z => n (h c z)) k
theorem BtS.new {S : Av} {H : Hp} {p : Addr} {o : HO} (h : H p = none) : BtS S H (upd H p o) := fun c u _ e => by
  rw [upd_ne (ne_of_none e h)]
  exact e
theorem BtS.upd {S : Av} {H : Hp} {p : Addr} {o : HO} (h : S p) : BtS S H (upd H p o) := fun c u n e => by
  rw [upd_ne (fun z => n (by rw [z]; exact h))]
  exact e
/-- the box alone -/
abbrev O1 (p : Addr) : Av := fun b => b = p
abbrev O2 (p D : Addr) : Av := fun b => b = p ∨ b = D
theorem Bt.s {p : Addr} {H H' : Hp} (h : Bt p H H') : BtS (O1 p) H H' := h
theorem Bt.s2 {p D : Addr} {H H' : Hp} (h : Bt p H H') : BtS (O2 p D) H H' := fun b o n e => h b o (fun z => n (.inl z)) e
mutual
inductive At (p : Av) (H : Hp) : V → PyData → Prop
  | non : At p H .non .none
  | bl (b : Bool) : At p H (.bl b) (.bool b)
  | int (i : Int) : At p H (.int i) (.int i)
  | str (x : Str) : At p H (.str x) (.str x)
  | lst {a : Addr} {xs : List V} {ds : List PyData} : ¬ p a → H a = some (.lst xs) → AtAll p H xs ds → At p H (.ref a) (.list ds)
  | tup {a : Addr} {xs : List V} {ds : List PyData} : ¬ p a → H a = some (.tup xs) → AtAll p H xs ds → At p H (.ref a) (.tuple ds)
inductive AtAll (p : Av) (H : Hp) : List V → List PyData → Prop
  | nil : AtAll p H [] []
  | cons {v : V} {vs : List V} {d : PyData} {ds : List PyData} : At p H v d → AtAll p H vs ds → AtAll p H (v :: vs) (d :: ds)
end
mutual
theorem At.bt {p : Av} {H H' : Hp} (B : BtS p H H') : ∀ (d : PyData) (v : V), At p H v d → At p H' v d
  | .none, _, h => by cases h; exact .non
  | .bool _, _, h => by cases h; exact .bl _
  | .int _, _, h => by cases h; exact .int _
  | .str _, _, h => by cases h; exact .str _
  | .list ds, _, h => by
    cases h with
    | lst n e k => exact .lst n (B _ _ n e) (AtAll.bt B ds _ k)
  | .tuple ds, _, h => by
    cases h with
    | tup n e k => exact .tup n (B _ _ n e) (AtAll.bt B ds _ k)
  | .dict _, _, h => by cases h
theorem AtAll.bt {p : Av} {H H' : Hp} (B : BtS p H H') : ∀ (ds : List PyData) (vs : List V), AtAll p H vs ds → AtAll p H' vs ds
  | [], _, h => by cases h; exact .nil
  | d :: ds, _, h => by
    cases h with
    | cons h1 h2 => exact .cons (At.bt B d _ h1) (AtAll.bt B ds _ h2)
end
mutual
theorem At.dp {p : Av} {H : Hp} {K : PySem.W.Frag} : ∀ (d : PyData) (v : V), At p H v d → Dp K H v d
  | .none, _, h => by cases h; exact .non
  | .bool _, _, h => by cases h; exact .bl _
  | .int _, _, h => by cases h; exact .int _
  | .str _, _, h => by cases h; exact .str _
  | .list ds, _, h => by
    cases h with
    | lst n e k => exact .lst (.inl (.inl e)) (AtAll.dp ds _ k)
  | .tuple ds, _, h => by
    cases h with
    | tup n e k => exact .tup (.inl (.inl e)) (AtAll.dp ds _ k)
  | .dict _, _, h => by cases h
theorem AtAll.dp {p : Av} {H : Hp} {K : PySem.W.Frag} : ∀ (ds : List PyData) (vs : List V), AtAll p H vs ds → DpAll K H vs ds
  | [], _, h => by cases h; exact .nil
  | d :: ds, _, h => by
    cases h with
    | cons h1 h2 => exact .cons (At.dp d _ h1) (AtAll.dp ds _ h2)
end
theorem AtAll.len {p : Av} {H : Hp} : ∀ {ds : List PyData} {vs : List V}, AtAll p H vs ds → vs.length = ds.length
  | [], _, h => by cases h; rfl
  | d :: ds, _, h => by
    cases h with
    | cons h1 h2 =>
      rw [List.length_cons, List.length_cons, AtAll.len h2]
theorem AtAll.get {p : Av} {H : Hp} : ∀ {ds : List PyData} {vs : List V} {i : Nat} {v : V}, AtAll p H vs ds → vs[i]? = some v → ∃ d, ds[i]? = some d ∧ At p H v d
  | [], _, i, v, h, e => by
    cases h
    simp at e
  | d :: ds, _, i, v, h, e => by
    cases h with
    | cons h1 h2 =>
      cases i with
      | zero =>
        cases (Option.some.inj e)
        exact ⟨d, rfl, h1⟩
      | succ i => exact AtAll.get (i := i) h2 e
theorem AtAll.app {p : Av} {H : Hp} : ∀ {ds es : List PyData} {vs us : List V}, AtAll p H vs ds → AtAll p H us es → AtAll p H (vs ++ us) (ds ++ es)
  | [], _, _, _, h, k => by
    cases h
    exact k
  | d :: ds, _, _, _, h, k => by
    cases h with
    | cons h1 h2 => exact .cons h1 (AtAll.app h2 k)
theorem AtAll.ints {p : Av} {H : Hp} : ∀ ns : List Int, AtAll p H (ns.map V.int) (ns.map PyData.int)
  | [] => .nil
  | n :: r => .cons (.int n) (AtAll.ints r)
theorem AtAll.strs {p : Av} {H : Hp} : ∀ ns : List (List Nat), AtAll p H (ns.map fun l => .str (SX.S l)) (ns.map fun l => .str (SX.S l))
  | [] => .nil
  | n :: r => .cons (.str _) (AtAll.strs r)
theorem AtAll.rep {p : Av} {H : Hp} {v : V} {d : PyData} (h : At p H v d) : ∀ n : Nat, AtAll p H (List.replicate n v) (List.replicate n d)
  | 0 => .nil
  | n + 1 => .cons h (AtAll.rep h n)
mutual
theorem At.weak {p q : Av} {H : Hp} (W : ∀ b, q b → p b) : ∀ (d : PyData) (v : V), At p H v d → At q H v d
  | .none, _, h => by cases h; exact .non
  | .bool _, _, h => by cases h; exact .bl _
  | .int _, _, h => by cases h; exact .int _
  | .str _, _, h => by cases h; exact .str _
  | .list ds, _, h => by
    cases h with
    | lst n e k => exact .lst (fun z => n (W _ z)) e (AtAll.weak W ds _ k)
  | .tuple ds, _, h => by
    cases h with
    | tup n e k => exact .tup (fun z => n (W _ z)) e (AtAll.weak W ds _ k)
  | .dict _, _, h => by cases h
theorem AtAll.weak {p q : Av} {H : Hp} (W : ∀ b, q b → p b) : ∀ (ds : List PyData) (vs : List V), AtAll p H vs ds → AtAll q H vs ds
  | [], _, h => by cases h; exact .nil
  | d :: ds, _, h => by
    cases h with
    | cons h1 h2 => exact .cons (At.weak W d _ h1) (AtAll.weak W ds _ h2)
end
/-- a row of whole numbers -/
def rowD (ns : List Int) : PyData := .list (ns.map .int)
end My
namespace My
open PySem PySem.Spec PyProof.Rows L2
/-- a comprehension that draws: its new list at D holds xs so far -/
structure LcD (p : Addr) (n : Nat) (H : Hp) (D : Addr) (xs : List V) (H' : Hp) : Prop where
  at_ : H' D = some (.lst xs)
  dr : Dr p n H H'
  ne : D ≠ p
  fr : H D = none
theorem LcD.start {p : Addr} {n : Nat} {H : Hp} {D : Addr} (h : Box n H p) (hD : H D = none) : LcD p n H D [] (upd H D (.lst [])) := ⟨upd_same, (Dr.refl h).new hD, (h.ne hD).symm, hD⟩
theorem LcD.keep {p : Addr} {n m : Nat} {H H1 H2 : Hp} {D : Addr} {xs : List V} (l : LcD p n H D xs H1) (d : Dr p m H1 H2) : LcD p m H D xs H2 := ⟨d.bt _ _ l.ne l.at_, l.dr.trans d, l.ne, l.fr⟩
theorem LcD.step {p : Addr} {n : Nat} {H H1 : Hp} {D : Addr} {xs : List V} (l : LcD p n H D xs H1) (y : V) : LcD p n H D (xs ++ [y]) (upd H1 D (.lst (xs ++ [y]))) := by
  refine ⟨upd_same, ⟨?_, fun b o hb ho => ?_⟩, l.ne, l.fr⟩
  · obtain ⟨i, j, k, e, r⟩ := l.dr.box
    exact ⟨i, j, k, by rw [upd_ne l.ne.symm]; exact e, r⟩
  · rw [upd_ne (ne_of_none ho l.fr)]
    exact l.dr.bt b o hb ho
theorem LcD.mono {p : Addr} {n m : Nat} {H H' : Hp} {D : Addr} {xs : List V} (l : LcD p n H D xs H') (h : n ≤ m) : LcD p m H D xs H' := ⟨l.at_, l.dr.mono h, l.ne, l.fr⟩
/-- the heap may have grown ahead of a comprehension -/
theorem LcD.from {p : Addr} {n m : Nat} {H0 H H' : Hp} {D : Addr} {xs : List V} (l : LcD p n H D xs H') (d : Dr p m H0 H) : Dr p n H0 H' := d.trans l.dr
theorem sz1000 {n : Nat} (h : n ≤ 1000) : n < sizeLine := Nat.lt_of_le_of_lt h (by decide)
/-- an item of a written list of whole numbers -/
theorem ix_int {ns : List Int} {i : Int} (h0 : 0 ≤ i) (h1 : i < ns.length) : ∃ z, atI (ns.map V.int) i = some (.int z) ∧ z ∈ ns := by
  obtain ⟨v, hv, hm⟩ := ix_some (ns.map V.int) h0 (by rw [List.length_map]; exact h1)
  obtain ⟨z, hz, rfl⟩ := List.mem_map.mp hm
  exact ⟨z, hv, hz⟩
section
variable {X : Cx}
/-- xs[::e], e one or less one -/
def tStepL (K : PySem.W.Frag) (te : TE) (ts : TO) : TE := fun σ H Q => te σ H fun x H1 => ts σ H1 fun o H2 => ∃ (a : Addr) (xs : List V) (z : Int), o = some z ∧ x = .ref a ∧ SqL K H2 a xs ∧ (z = 1 ∨ z = -1) ∧ ∀ p, H2 p = none → Q (.ref p) (upd H2 p (.lst (if z = 1 then xs else xs.reverse)))
theorem pick_one (its : Array Value) : slicePick its none none (some 1) = slicePick its none none none := rfl
theorem pe_stepL {e st : Expr} {te : TE} {ts : TO} {p2 pos : Pos} (he : PE X e te) (hs : PO X (some st) ts) : PE X (.Subscript e (.Slice none none (some st) p2) pos) (tStepL X.K te ts) := by
  refine ⟨fun pins s σ H Q I h => ?_⟩
  refine Subscript_ (thn (he.run pins s σ H _ I h) fun v s1 ⟨x, H1, I1, r1, q1⟩ => ?_)
  refine wpAny_Slice (thn (po_none.run pins s1 σ H1 (fun o H2 => o = none ∧ H2 = H1) I1 ⟨rfl, rfl⟩) fun vl s2 ⟨lo, H2, I2, pl, elo, e2⟩ => ?_)
  subst elo e2
  refine thn (po_none.run pins s2 σ H2 (fun o H3 => o = none ∧ H3 = H2) I2 ⟨rfl, rfl⟩) fun vu s3 ⟨hi, H3, I3, pu, ehi, e3⟩ => ?_
  subst ehi e3
  refine thn (hs.run pins s3 σ H3 _ I3 q1) fun vs s4 ⟨o, H4, I4, ps, a, xs, z, eo, ex, hx, hz, q⟩ => ?_
  subst eo ex
  cases r1
  have J : Inv X pins σ H4 { s4 with heap := s4.heap.push { cls := .type "slice", data := .fields #[vl, vu, vs] } } := I4.kept (t' := s4.toks) fun b ob k => Heap.get?_push_of_some _ k
  obtain ⟨its, r, ht, sz⟩ := J.list hx
  have hlen := r.length
  show wpAny (model X.prog X.w) X.A (subscriptTail e (.Slice none none (some st) p2) (.ref a) (.ref s4.heap.objs.size)) (EP X pins σ Q) X.xe { s4 with heap := s4.heap.push { cls := .type "slice", data := .fields #[vl, vu, vs] } }
  refine tail_any (ops := [.ref a, .ref s4.heap.objs.size]) ht.isList.typeIs (PySem.slot_list_getitem.lookup) ?_ (by with_unfolding_all rfl)
  refine wpAny_getItem_list_slice ht.isList (Heap.IsSliceOf.new _ vl vu vs) pl pu ps (by rcases hz with rfl | rfl <;> decide) ?_ (by rw [List.size_toArray]; omega)
  have fin : ∀ (ys : List V) (us : List Value), Vals ys us → ys.length = xs.length → (if z = 1 then xs else xs.reverse) = ys → slicePick its.toArray none none (some z) = us.toArray → EP X pins σ Q (.ref (s4.heap.push { cls := .type "slice", data := .fields #[vl, vu, vs] }).objs.size)
      { s4 with heap := (s4.heap.push { cls := .type "slice", data := .fields #[vl, vu, vs] }).push { cls := .type "list", data := .seq (slicePick its.toArray none none (some z)) } } := fun ys us rv el ey es => by
    rw [ey] at q
    rw [es]
    refine ⟨.ref _, _, J.laid (t' := s4.toks) (o := .lst ys) (fun b ob k => Heap.get?_push_of_some _ k) (Nat.le_refl _) ?_, rfl, q _ (J.hok.fresh (Nat.le_refl _))⟩
    exact ⟨by rw [el]; exact sz, _, 0, rv, Heap.get?_push_size _ rfl⟩
  rcases hz with rfl | rfl
  · refine fin xs its r rfl (if_pos rfl) ?_
    rw [pick_one, slicePick_cut]
    show ((its.drop (HT.sIx its.length 0 none)).take (HT.sIx its.length its.length none - HT.sIx its.length 0 none)).toArray = its.toArray
    rw [HT.sIx_none, HT.sIx_none, List.drop_zero, Nat.sub_zero, List.take_length]
  · refine fin xs.reverse its.reverse r.reverse (List.length_reverse ..) (if_neg (by decide)) ?_
    rw [PySem.W.krv_pick]
end
end My
namespace My
open PySem PySem.Spec PyProof.Rows L2
/-! ### rules whose reading names the written part: in a comprehension's block it is the def's -/
section
variable {X : Cx} {K : PySem.W.Frag}
theorem ix_listK (h : X.K = K) : IxR X (rIxL K) := h ▸ ix_list
theorem ix_tupK (h : X.K = K) : IxR X (rIxT K) := h ▸ ix_tup
theorem op_in_seqK (h : X.K = K) : OpR X (compareOp .In) (rIn K false) := h ▸ op_in_seq
theorem op_notIn_seqK (h : X.K = K) : OpR X (compareOp .NotIn) (rIn K true) := h ▸ op_notIn_seq
theorem op_eqDK (h : X.K = K) (hu : X.A.units + 64 < cLine) : OpR X (compareOp .Eq) (rEqD K) := h ▸ op_eqD hu
theorem op_neDK (h : X.K = K) (hu : X.A.units + 64 < cLine) : OpR X (compareOp .NotEq) (rNeD K) := h ▸ op_neD hu
theorem sl_listK (h : X.K = K) : SlR X (rSlL K) := h ▸ sl_list
theorem call_lenK (h : X.K = K) : CallR X (.builtin "len") (fun xs H Q => ∃ x n, xs = [x] ∧ LenV K x H n ∧ Q (.int n) H) := h ▸ call_len
theorem call_isbK (h : X.K = K) : CallR X (.builtin "isinstance") (fun xs H Q => rIsi K xs H Q ∨ ∃ (a C : Addr) (fs : List (Str × V)) (c : V) (u : Value) (b : Bool), xs = [.ref a, c] ∧ Exn H a C fs ∧ ExI K C ∧ ClsV c u ∧ PySem.W.kitOne K (.ref C) u = some b ∧ Q (.bl b) H) := h ▸ call_isb
theorem cr_sumK (h : X.K = K) (hc : X.calm = true) : CallR X (.builtin "sum") (rSum K) := h ▸ cr_sum hc
theorem cr_allK (h : X.K = K) (hc : X.calm = true) : CallR X (.builtin "all") (rAll K) := h ▸ cr_all hc
theorem call_list_ofK (h : X.K = K) : CallR X (.type "list") (fun xs H Q => ∃ p ys, xs = [.ref p] ∧ (SqL K H p ys ∨ SqT K H p ys) ∧ ∀ l, H l = none → Q (.ref l) (upd H l (.lst ys))) := h ▸ call_list_of
theorem call_tuple_ofK (h : X.K = K) : CallR X (.type "tuple") (fun xs H Q => ∃ p ys, xs = [.ref p] ∧ ((SqL K H p ys ∧ ∀ l, H l = none → Q (.ref l) (upd H l (.tup ys))) ∨ (SqT K H p ys ∧ Q (.ref p) H))) := h ▸ call_tuple_of
theorem pe_stepLK {e st : Expr} {te : TE} {ts : TO} {p2 pos : Pos} (h : X.K = K) (he : PE X e te) (hs : PO X (some st) ts) : PE X (.Subscript e (.Slice none none (some st) p2) pos) (tStepL K te ts) := h ▸ pe_stepL he hs
end
end My
namespace My
open PySem PySem.Spec PyProof.Rows L2
theorem upd_old {H : Hp} {p a : Addr} {o x : HO} (h : H p = none) (e : H a = some x) : upd H p o a = some x := same_new h _ _ e
abbrev Plus (S : Av) (D : Addr) : Av := fun b => S b ∨ b = D
/-- a comprehension whose items are data -/
structure LcA (S : Av) (p : Addr) (n : Nat) (H : Hp) (D : Addr) (xs : List V) (ds : List PyData) (H' : Hp) : Prop where
  l : LcD p n H D xs H'
  a : AtAll (Plus S D) H' xs ds
theorem LcA.start {S : Av} {p : Addr} {n : Nat} {H : Hp} {D : Addr} (h : Box n H p) (hD : H D = none) : LcA S p n H D [] [] (upd H D (.lst [])) := ⟨LcD.start h hD, .nil⟩
theorem LcA.step {S : Av} {p : Addr} {n m : Nat} {H H1 H2 : Hp} {D : Addr} {xs : List V} {ds : List PyData} {y : V} {d : PyData} (c : LcA S p n H D xs ds H1) (hS : S p) (k : Dr p m H1 H2) (hy : At (Plus S D) H2 y d) :
    LcA S p m H D (xs ++ [y]) (ds ++ [d]) (upd H2 D (.lst (xs ++ [y]))) := by
  have W : BtS (Plus S D) H1 H2 := k.bt.s.mono fun b z => .inl (z ▸ hS)
  have U : BtS (Plus S D) H2 (upd H2 D (.lst (xs ++ [y]))) := BtS.upd (.inr rfl)
  exact ⟨(c.l.keep k).step y, AtAll.bt U _ _ ((AtAll.bt W _ _ c.a).app (.cons hy .nil))⟩
theorem LcA.done {S : Av} {p : Addr} {n : Nat} {H H' : Hp} {D : Addr} {xs : List V} {ds : List PyData} (c : LcA S p n H D xs ds H') (hD : ¬ S D) : At S H' (.ref D) (.list ds) := .lst hD c.l.at_ (AtAll.weak (fun _ z => .inl z) _ _ c.a)
theorem LcA.mono {S : Av} {p : Addr} {n m : Nat} {H H' : Hp} {D : Addr} {xs : List V} {ds : List PyData} (c : LcA S p n H D xs ds H') (h : n ≤ m) : LcA S p m H D xs ds H' := ⟨c.l.mono h, c.a⟩
theorem LcA.len {S : Av} {p : Addr} {n : Nat} {H H' : Hp} {D : Addr} {xs : List V} {ds : List PyData} (c : LcA S p n H D xs ds H') : xs.length = ds.length := c.a.len
theorem At.ofrow {S : Av} {H : Hp} {a : Addr} {ns : List Int} (h : ¬ S a) (e : H a = some (.lst (ns.map V.int))) : At S H (.ref a) (rowD ns) := .lst h e (AtAll.ints ns)
end My
set_option Elab.async false
set_option linter.all false
set_option maxRecDepth 100000
set_option maxHeartbeats 4000000
/-! B4: enumerate(xs, start=k) over a list or a tuple; the sum of a tuple of whole numbers. -/
namespace My
open PySem PySem.Spec PyProof.Rows L2
/-- a list (false) or a tuple (true) -/
def Sq (K : PySem.W.Frag) (H : Hp) : Bool → Addr → List V → Prop
  | false, a, xs => SqL K H a xs
  | true, a, xs => SqT K H a xs
/-- enumerate from c over what stands at a -/
def IteC (K : PySem.W.Frag) (b : Bool) (a : Addr) (c : Int) : It :=
  ⟨fun i H => ∃ (xs : List V) (x : V), Sq K H b a xs ∧ xs[i]? = some x, fun i H v H' => ∃ T x, v = .ref T ∧ H T = none ∧ H' = upd H T (.tup [.int (c + (i : Int)), x]) ∧ ∀ xs, Sq K H b a xs → xs[i]? = some x, fun i H => ∃ xs : List V, Sq K H b a xs ∧ xs.length = i⟩
/-- its iterator stands at turn i -/
def SqIt (h : Heap) : Bool → Addr → Addr → Nat → Prop
  | false, it, a, i => h.IsListIter it a i
  | true, it, a, i => h.IsTupleIter it a i
def SqIs (h : Heap) : Bool → Addr → Array Value → Prop
  | false, a, its => h.IsList a its
  | true, a, its => h.IsTuple a its
section
variable {prog : Program} {w : World} {A : Around} {X : Cx} {pins : List (Addr × Obj)} {σ : L2.St} {H : Hp} {s : Shared}
theorem sq_draws (hh : A.handled = none) {b : Bool} {it a : Addr} (hne : a ≠ it) (its : Array Value) : Draws prog w A it [it, a] its.size (fun i v => its[i]? = some v) (fun i h => SqIt h b it a i ∧ SqIs h b a its) :=
  match b with
  | false => Draws.list hh it a hne its
  | true => Draws.tuple hh it a hne its
theorem sq_read {b : Bool} {a : Addr} {xs : List V} (I : Inv X pins σ H s) (h : Sq X.K H b a xs) : ∃ its : List Value, Vals xs its ∧ SqIs s.heap b a its.toArray := by
  cases b with
  | false =>
    obtain ⟨its, rv, p, hz⟩ := I.list h
    exact ⟨its, rv, p.isList⟩
  | true =>
    obtain ⟨its, rv, p, hz⟩ := I.tuple h
    exact ⟨its, rv, p⟩
theorem sq_inj {b : Bool} {a : Addr} {xs ys : List V} (I : Inv X pins σ H s) (h : Sq X.K H b a xs) (k : Sq X.K H b a ys) : xs = ys := by
  cases b with
  | false => exact I.list_inj h k
  | true => exact I.tuple_inj h k
theorem sqit_obj {h : Heap} {b : Bool} {it a : Addr} {i : Nat} (st : SqIt h b it a i) : ∃ o, h.get? it = some o ∧ (∀ v, o.data ≠ .cell v) ∧ ∀ its, SqIs h b a its → a ≠ it := by
  cases b with
  | false =>
    obtain ⟨o, ho, hc, hd⟩ := st
    refine ⟨o, ho, (fun v q => by rw [hd] at q; cases q), fun its hi e => ?_⟩
    obtain ⟨o2, h2, c2, _⟩ := hi
    rw [e, ho] at h2
    cases h2
    rw [hc] at c2
    exact absurd (Value.type.inj c2) (by decide)
  | true =>
    obtain ⟨o, ho, hc, hd⟩ := st
    refine ⟨o, ho, (fun v q => by rw [hd] at q; cases q), fun its hi e => ?_⟩
    obtain ⟨o2, h2, c2, _⟩ := hi
    rw [e, ho] at h2
    cases h2
    rw [hc] at c2
    exact absurd (Value.type.inj c2) (by decide)
theorem sqis_ne {h : Heap} {b : Bool} {a e it : Addr} {its : Array Value} {c : Int} {old : Value} (hi : SqIs h b a its) (he : IsEnum h e it c old) : e ≠ a := by
  intro z
  cases b with
  | false =>
    obtain ⟨o2, h2, c2, _⟩ := hi
    have he' := he
    rw [z] at he'
    have q := Option.some.inj (h2.symm.trans he')
    rw [q] at c2
    exact absurd (Value.type.inj c2) (by decide)
  | true =>
    obtain ⟨o2, h2, c2, _⟩ := hi
    have he' := he
    rw [z] at he'
    have q := Option.some.inj (h2.symm.trans he')
    rw [q] at c2
    exact absurd (Value.type.inj c2) (by decide)
theorem sqit_keep {h h' : Heap} {b : Bool} {it a : Addr} {i : Nat} (st : SqIt h b it a i) (k : ∀ o, h.get? it = some o → h'.get? it = some o) : SqIt h' b it a i := by
  cases b with
  | false => exact st.at k
  | true => exact st.at k
end
theorem turn_enumC {P : Program} {w : World} {K : PySem.W.Frag} {elts : List Expr} {kk : Nat} {tpos : Pos} (b : Bool) (c : Int) (a e it : Addr) :
    Turn P w K (.Tuple elts kk tpos) (IteC K b a c) [e, it] e (fun i h => (∃ old, IsEnum h e it (c + (i : Int)) old) ∧ SqIt h b it a i ∧ e ≠ it) where
  mem := by simp
  obj := fun i h st y hy => by
    obtain ⟨⟨old, he⟩, hs, _⟩ := st
    obtain ⟨o, ho, hc, _⟩ := sqit_obj hs
    rcases (show y = e ∨ y = it by simpa using hy) with z | z
    · rw [z]
      exact ⟨_, he, fun v q => nomatch q⟩
    · rw [z]
      exact ⟨o, ho, hc⟩
  keep := fun i h h' st k => let ⟨⟨old, he⟩, hi, hne⟩ := st; ⟨⟨old, k e (by simp) _ he⟩, sqit_keep hi fun o q => k it (by simp) o q, hne⟩
  item := by
    intro X hP hw hK hcalm i pins s σ H E I hf st hg
    subst hP hw hK
    obtain ⟨⟨old, he⟩, hit, hne⟩ := st
    obtain ⟨xs, x, hq, hx⟩ := hg
    obtain ⟨its, rv, p⟩ := sq_read I hq
    obtain ⟨u, hu, ru⟩ := rv.get hx
    obtain ⟨oi, hoi, _, hapart⟩ := sqit_obj hit
    have nai := hapart _ p
    have nea := sqis_ne p he
    have hlt : i < its.toArray.size := by
      rw [List.size_toArray]
      exact (List.getElem?_eq_some_iff.mp hu).1
    have hel : e < s.heap.objs.size := Heap.lt_size he
    have hil : it < s.heap.objs.size := Heap.lt_size hoi
    have hh : X.A.in1.handled = none := I.ok.hd hcalm
    refine wpAny_pyNext_enum_itemC (sq_draws hh nai its.toArray) he ⟨hit, p⟩ hlt hne (by simp [hne, nea]) fun u' h' tk hP ho hst hT hsz hk => ?_
    obtain ⟨hit', p'⟩ := hst
    have eu : u' = u := by
      have q1 : its[i]? = some u' := by simpa using hP
      exact Option.some.inj (q1.symm.trans hu)
    subst eu
    refine ⟨_, rfl, wpAny_letOwnedTupleGo_enum (s := { s with heap := h', toks := tk + 1 }) ho fun h'' he' sb => ?_⟩
    have hT2 : h''.get? s.heap.objs.size = some { cls := .type "tuple", data := .seq #[.int (c + (i : Int)) tk, u'] } := (sb.2 _ (Nat.ne_of_gt hel)).trans hT
    have new : ObjOk X.prog X.w (upd H s.heap.objs.size (.tup [.int (c + (i : Int)), x])) h'' s.heap.objs.size (.tup [.int (c + (i : Int)), x]) :=
      ⟨(by show 2 ≤ sizeLine; decide), [.int (c + (i : Int)) tk, u'], .cons ⟨_, rfl⟩ (.cons ru .nil), ⟨_, hT2, rfl, _, rfl⟩⟩
    have I1 : Inv X pins σ (upd H s.heap.objs.size (.tup [.int (c + (i : Int)), x])) { s with heap := h'', toks := tk + 1 } :=
      I.turnedNew (ch := [e, it]) (fun y ob hy q => (sb.2 y (fun z => hy (by simp [z]))).trans (hk y ob (fun z => hy (by simp [z])) (fun z => hy (by simp [z])) q)) hf (Nat.le_refl _) new
    refine ⟨.ref s.heap.objs.size, _, I1, rfl, ⟨_, x, rfl, I.hok.fresh (Nat.le_refl _), rfl, fun ys hy => by rw [sq_inj I hy hq]; exact hx⟩, ⟨⟨u', ?_⟩, sqit_keep hit' fun o q => (sb.2 it (Ne.symm hne)).trans q, hne⟩, fun y hy => ?_⟩
    · rw [show c + ((i + 1 : Nat) : Int) = c + (i : Int) + 1 by omega]
      exact he'
    · have hb' : y < s.heap.objs.size := by
        rcases (show y = e ∨ y = it by simpa using hy) with z | z
        · rw [z]
          exact hel
        · rw [z]
          exact hil
      rw [upd_ne (Nat.ne_of_lt hb')]
      exact (hf y hy).1
  done := by
    intro X hP hw hK hcalm i pins s σ H E I hf st hg
    subst hP hw hK
    obtain ⟨⟨old, he⟩, hit, hne⟩ := st
    obtain ⟨xs, hq, hx⟩ := hg
    obtain ⟨its, rv, p⟩ := sq_read I hq
    obtain ⟨oi, hoi, _, hapart⟩ := sqit_obj hit
    obtain ⟨f0, f1, f2, f3, f4, f5⟩ := hf it (by simp)
    have hl := rv.length
    have hh : X.A.in1.handled = none := I.ok.hd hcalm
    have e1 : i = its.toArray.size := by
      rw [List.size_toArray]
      omega
    subst e1
    exact wpAny_pyNext_enum_endD (sq_draws hh (hapart _ p) its.toArray) he ⟨hit, p⟩ fun h' eb => ⟨rfl, I.turned (t' := s.toks) (fun y o hy q => eb y o hy q) f0 f1 f3 f4 f5⟩
  self := fun A i s Q E st h => let ⟨⟨_, he⟩, _⟩ := st; wpAny_pyIter_enum he h
section
variable {M : Model} {A : Around} {E : Value → Shared → Prop} {s : Shared} {env : Env}
theorem callWith_typeKw {pos : Pos} {T : String} {e : Expr} {rest : List Expr} {kws : List Keyword} {Q : Value → Shared → Prop}
    (h : wpAny M A (spliced (backTo pos (starEach (e :: rest) env))) (fun vs s₁ => wpAny M A (evalAll ((backToKw pos (keywordEach kws env)).map (·.2))) (fun ws s₂ => wpAny M A (call (.type T) vs (((backToKw pos (keywordEach kws env)).filterMap (·.1)).zip ws)) Q E s₂) E s₁) E s)
    (he : backTo pos (starEach (e :: rest) env) = (false, eval e env) :: backTo pos (starEach rest env)) (hp : (backTo pos (starEach (e :: rest) env)).any (·.1) = false) (ha : (backToKw pos (keywordEach kws env)).all (·.1.isSome) = true) (hk : (backToKw pos (keywordEach kws env)).any (·.1.isNone) = false) :
    wpAny M A (callWith pos (.type T) [] (backTo pos (starEach (e :: rest) env)) (backToKw pos (keywordEach kws env))) Q E s := by
  have h1 : wpAny M A (evalArgs (.type T) true (backTo pos (starEach (e :: rest) env)) (backToKw pos (keywordEach kws env))) (fun a s₁ => wpAny M A (call (.type T) ([] ++ a.pos) a.kw) Q E s₁) E s := by
    rw [he] at h ⊢
    exact evalArgs_kwB ha h
  unfold callWith
  refine wpAny_bind (wpAny_holding (wpAny_mono h1 (fun a s1 k1 => wpAny_bind (wpAny_standAt ?_)) fun _ _ x => x))
  simp only [hp, hk, Bool.or_false]
  exact wpAny_bind (wpAny_pure (wpAny_bind (wpAny_mono k1 (fun r s2 k2 => wpAny_bind (wpAny_holding (wpAny_point (wpAny_pure k2)))) fun _ _ x => x)))
end
/-- what begins at a list, at a tuple -/
def sqBegin (b : Bool) (a : Addr) : Obj := match b with
  | false => { cls := .type "list_iterator", data := .fields #[.ref a, .int 0 0] }
  | true => { cls := .type "tuple_iterator", data := .fields #[.ref a, .int 0 0] }
theorem sq_begins (b : Bool) (a : Addr) (its : Array Value) : Begins (.ref a) (sqBegin b a) fun h => SqIs h b a its := match b with
  | false => begins_list a its
  | true => begins_tuple a its
def iEnumC (K : PySem.W.Frag) (b : Bool) (ta tk : TA) : TI := fun σ H R => ta σ H fun vs H1 => ∃ a, vs = [.ref a] ∧ tk σ H1 fun ws H2 => ∃ (c : Int) (xs : List V), ws = [.int c] ∧ -(2 ^ 63) ≤ c ∧ c < 2 ^ 63 ∧ Sq K H2 b a xs ∧ R (IteC K b a c) H2
theorem pi_enumC (b : Bool) {X : Cx} {e k : Expr} {ta tk : TA} {p pos tpos kp : Pos} {elts : List Expr} {kk : Nat} (hg : Gl X "enumerate") (hm : X.mg "enumerate" = none) (ha : PA X [e] ta) (hk : PK X [⟨some "start", k, kp⟩] tk)
    (he : backTo pos (starEach [e] X.env) = (false, eval e X.env) :: backTo pos (starEach [] X.env) := by rfl) (hpl : (backTo pos (starEach [e] X.env)).any (·.1) = false := by rfl)
    (hall : (backToKw pos (keywordEach [⟨some "start", k, kp⟩] X.env)).all (·.1.isSome) = true := by rfl) (hnone : (backToKw pos (keywordEach [⟨some "start", k, kp⟩] X.env)).any (·.1.isNone) = false := by rfl) (hks : (backToKw pos (keywordEach [⟨some "start", k, kp⟩] X.env)).filterMap (·.1) = (["start"] : List Str) := by rfl) :
    PI X (.Tuple elts kk tpos) (.Call (.Name "enumerate" p) [e] [⟨some "start", k, kp⟩] pos) (iEnumC X.K b ta tk) := by
  refine ⟨fun pins s σ H R I h => ?_⟩
  refine wpAny_Call_Name_kw (ld_blt I hg hm boot_enumerate ?_)
  refine callWith_typeKw (thn (ha.run pos pins s σ H _ I h) fun us s1 ⟨vs, H1, I1, r1, a, ev, q1⟩ => thn (hk.run pos pins s1 σ H1 _ I1 q1) fun ws s2 ⟨zs, H2, I2, r2, c, xs, ez, c0, c1, hq, q⟩ => ?_) he hpl hall hnone
  rw [hks]
  subst ev ez
  cases r1 with
  | cons ra rr =>
    cases rr
    cases ra
    cases r2 with
    | cons rc rr =>
      cases rr
      obtain ⟨tk', rfl⟩ := rc
      obtain ⟨its, rv, p'⟩ := sq_read I2 hq
      refine enum_begins_start (sq_begins b a its.toArray) p' c0 c1 fun h' hE hB hsz hkeep => wpAny_pyIter_enum hE ?_
      have I3 : Inv X pins σ H2 { s2 with heap := h' } := I2.kept (t' := s2.toks) hkeep
      have st0 : SqIt h' b s2.heap.objs.size a 0 := by
        cases b with
        | false => exact ⟨_, hB, rfl, rfl⟩
        | true => exact ⟨_, hB, rfl, rfl⟩
      refine ⟨s2.heap.objs.size + 1, [s2.heap.objs.size + 1, s2.heap.objs.size], _, _, H2, rfl, I3, turn_enumC b c a (s2.heap.objs.size + 1) s2.heap.objs.size, ⟨⟨.none, by rw [show c + ((0 : Nat) : Int) = c by omega]; exact hE⟩, st0, Nat.succ_ne_self _⟩, fun y hy => ?_, q⟩
      have hle : s2.heap.objs.size ≤ y := by
        rcases (show y = s2.heap.objs.size + 1 ∨ y = s2.heap.objs.size by simpa using hy) with z | z
        · rw [z]
          exact Nat.le_add_right _ _
        · rw [z]
          exact Nat.le_refl _
      exact I2.fpOk hle (I2.hok.fresh hle)
theorem walk_enumC {K : PySem.W.Frag} {b : Bool} {a : Addr} {c : Int} {xs : List V} : Walk (IteC K b a c) xs.length (fun H => Sq K H b a xs) (YPair (fun i => some (.int (c + (i : Int)))) (fun i => xs[i]?)) := by
  refine ⟨fun i H hi q => ⟨xs, xs[i], q, by simp [hi]⟩, fun H q => ⟨xs, q, rfl⟩, fun i H v H' _ q y => ?_⟩
  obtain ⟨T, x, h1, h2, h3, h4⟩ := y
  exact ⟨T, _, x, h1, h2, h3, rfl, h4 xs q⟩
section
variable {X : Cx}
/-- sum(t), t a tuple of whole numbers -/
def rSumT (K : PySem.W.Frag) : List V → Hp → VK → Prop := fun vs H Q => ∃ (a : Addr) (ns : List Int), vs = [V.ref a] ∧ SqT K H a (ns.map V.int) ∧ Q (.int ns.sum) H
theorem cr_sumT (hc : X.calm = true) : CallR X (.builtin "sum") (rSumT X.K) := by
  intro pins s σ H vs us Q I r h
  obtain ⟨a, ns, rfl, ht, q⟩ := h
  obtain ⟨u, rfl, r1⟩ := vals1 r
  cases (show u = Value.ref a from r1)
  obtain ⟨its, rv, p, hz⟩ := I.tuple ht
  have hi := intsAre_of rv
  obtain ⟨xs, hx⟩ := hi.allInts.items
  have hn : numsOf its.toArray.toList = ns := by rw [show its.toArray.toList = its from rfl, hi.numsOf]
  have p' : s.heap.IsTuple a its.toArray := p
  rw [hx] at p' hn
  rw [nums_intItems] at hn
  refine PySem.W.ktm_sumG (I.ok.hd hc) p' fun h' tk t' hk => ?_
  have e : preSum (numAt xs) xs.size = ns.sum := by
    rw [preSum_eq, List.take_of_length_le (by simp), hn]
  rw [e]
  exact ⟨.int ns.sum, H, I.kept hk, ⟨_, rfl⟩, q⟩
end
end My
set_option Elab.async false
set_option linter.all false
set_option maxRecDepth 100000
set_option maxHeartbeats 4000000
/-! B5: rows that are lists or tuples; things that are asked about, instances among them. -/
namespace My
open PySem PySem.Spec PyProof.Rows L2
abbrev Occ (S : Av) (H : Hp) : Prop := ∀ b, S b → H b ≠ none
theorem Occ.same {S : Av} {H H' : Hp} (h : Occ S H) (s : Same H H') : Occ S H' := fun b z e => by
  cases q : H b with
  | none => exact h b z q
  | some o =>
    have := s b o q
    rw [e] at this
    cases this
theorem Occ.free {S : Av} {H : Hp} {q : Addr} (h : Occ S H) (e : H q = none) : ¬ S q := fun z => h q z e
theorem Same.btS {S : Av} {H H' : Hp} (s : Same H H') : BtS S H H' := fun b o _ e => s b o e
/-- xs stand at a, a list or a tuple -/
def Rw (H : Hp) (a : Addr) (xs : List V) : Prop := H a = some (.lst xs) ∨ H a = some (.tup xs)
theorem Rw.sq {K : PySem.W.Frag} {H : Hp} {a : Addr} {xs : List V} (h : Rw H a xs) : ∃ b, Sq K H b a xs := h.elim (fun e => ⟨false, .inl (.inl e)⟩) fun e => ⟨true, .inl (.inl e)⟩
theorem Rw.same {H H' : Hp} {a : Addr} {xs : List V} (h : Rw H a xs) (s : Same H H') : Rw H' a xs := h.elim (fun e => .inl (s _ _ e)) fun e => .inr (s _ _ e)
theorem Sq.same {K : PySem.W.Frag} {H H' : Hp} {b : Bool} {a : Addr} {xs : List V} (h : Sq K H b a xs) (s : Same H H') : Sq K H' b a xs := by
  cases b with
  | false => exact s.seq h
  | true =>
    rcases h with (h | ⟨o, h⟩) | h
    · exact .inl (.inl (s _ _ h))
    · exact .inl (.inr ⟨o, s _ _ h⟩)
    · exact .inr h
/-- a row of data, a list or a tuple -/
def RwA (S : Av) (H : Hp) (v : V) (xs : List V) (ds : List PyData) : Prop := ∃ a, v = .ref a ∧ ¬ S a ∧ Rw H a xs ∧ AtAll S H xs ds
theorem RwA.same {S : Av} {H H' : Hp} {v : V} {xs : List V} {ds : List PyData} (h : RwA S H v xs ds) (s : Same H H') : RwA S H' v xs ds := by
  obtain ⟨a, e, n, r, k⟩ := h
  exact ⟨a, e, n, r.same s, AtAll.bt (Same.btS s) _ _ k⟩
theorem At.same {S : Av} {H H' : Hp} {v : V} {d : PyData} (h : At S H v d) (s : Same H H') : At S H' v d := At.bt (Same.btS s) _ _ h
theorem AtAll.same {S : Av} {H H' : Hp} {v : List V} {d : List PyData} (h : AtAll S H v d) (s : Same H H') : AtAll S H' v d := AtAll.bt (Same.btS s) _ _ h
def Itb (K : PySem.W.Frag) (b : Bool) (a : Addr) : It := match b with
  | false => Itl K a
  | true => Itt K a
theorem walk_row {K : PySem.W.Frag} {b : Bool} {a : Addr} {xs : List V} : Walk (Itb K b a) xs.length (fun H => Sq K H b a xs) (YAt xs) := match b with
  | false => walk_list
  | true => walk_tup
def iRow (K : PySem.W.Frag) (te : TE) : TI := fun σ H R => te σ H fun x H1 => ∃ (a : Addr) (b : Bool) (xs : List V), x = .ref a ∧ Sq K H1 b a xs ∧ R (Itb K b a) H1
section
variable {X : Cx}
theorem pi_row {tg l : Expr} {tl : TE} (hl : PE X l tl) : PI X tg l (iRow X.K tl) := by
  refine ⟨fun pins s σ H R I h => thn (hl.run pins s σ H _ I h) fun v s1 ⟨x, H1, I1, r1, a, b, xs, e, hq, q⟩ => ?_⟩
  subst e
  cases r1
  have fin : ∀ y ∈ [s1.heap.objs.size], FpOk X pins H1 y := fun y hy => by
    rw [List.mem_singleton.mp hy]
    exact I1.fpOk (Nat.le_refl _) (I1.hok.fresh (Nat.le_refl _))
  cases b with
  | false =>
    obtain ⟨its, rv, p, hz⟩ := I1.list hq
    exact wpAny_pyIter_list p.isList ⟨s1.heap.objs.size, [s1.heap.objs.size], _, _, H1, rfl, I1.kept (t' := s1.toks) fun b o k => Heap.get?_push_of_some _ k, turn_list a _, ⟨_, Heap.get?_push_size _ rfl, rfl, rfl⟩, fin, q⟩
  | true =>
    obtain ⟨its, rv, p, hz⟩ := I1.tuple hq
    exact wpAny_pyIter_tuple (show s1.heap.IsTuple a its.toArray from p) ⟨s1.heap.objs.size, [s1.heap.objs.size], _, _, H1, rfl, I1.kept (t' := s1.toks) fun b o k => Heap.get?_push_of_some _ k, turn_tuple a _, ⟨_, Heap.get?_push_size _ rfl, rfl, rfl⟩, fin, q⟩
end
/-- the length of a row, by len -/
theorem Sq.lenV {K : PySem.W.Frag} {H : Hp} {b : Bool} {a : Addr} {xs : List V} (h : Sq K H b a xs) : LenV K (.ref a) H xs.length := match b, h with
  | false, h => .inl ⟨xs, h, rfl⟩
  | true, h => .inr ⟨xs, h, rfl⟩
/-- isinstance of a row, (list, tuple) -/
theorem row_kit {K : PySem.W.Frag} {H : Hp} {a : Addr} {xs : List V} (h : Rw H a xs) : ∃ t, TyX K H (.ref a) t ∧ PySem.W.kitAny K t [.type "list", .type "tuple"] = some true := by
  rcases h with h | h
  · exact ⟨.type "list", .base (.lst h), kitAny_cons (kit_ty (b := "list") (r := true) (by decide +kernel)) (fun z => nomatch z) (fun _ => rfl)⟩
  · exact ⟨.type "tuple", .base (.tup h), kitAny_cons (kit_ty (b := "list") (r := false) (by decide +kernel)) (fun _ => kitAny_cons (kit_ty (b := "tuple") (r := true) (by decide +kernel)) (fun z => nomatch z) (fun _ => rfl)) (fun z => nomatch z)⟩
theorem two_ty : Paired ClsV [.ty "list", .ty "tuple"] [.type "list", .type "tuple"] := .cons (.ty _) (.cons (.ty _) .nil)
/-- tuple(x) of a row: a tuple of the same items, the row itself or a new one -/
theorem row_tuple {K : PySem.W.Frag} {S : Av} {H : Hp} {a : Addr} {xs : List V} {ds : List PyData} (o : Occ S H) (n : ¬ S a) (h : Rw H a xs) (k : AtAll S H xs ds) {Q : VK} (q : ∀ v H', Same H H' → At S H' v (.tuple ds) → Q v H') :
    ∃ p ys, [V.ref a] = [.ref p] ∧ ((SqL K H p ys ∧ ∀ l, H l = none → Q (.ref l) (upd H l (.tup ys))) ∨ (SqT K H p ys ∧ Q (.ref p) H)) := by
  rcases h with h | h
  · exact ⟨a, xs, rfl, .inl ⟨.inl (.inl h), fun l hl => q _ _ (same_new hl) (.tup (o.free hl) upd_same (AtAll.same k (same_new hl)))⟩⟩
  · exact ⟨a, xs, rfl, .inr ⟨.inl (.inl h), q _ _ (Same.refl H) (.tup n h k)⟩⟩
end My
set_option Elab.async false
set_option linter.all false
set_option maxRecDepth 100000
set_option maxHeartbeats 4000000
/-! B6: things that are asked about; whole numbers and names among them. -/
namespace My
open PySem PySem.Spec PyProof.Rows L2
/-- an own class whose things can be asked about -/
structure OwnK (K : PySem.W.Frag) (C : Addr) : Prop where
  cl : Cls K C
  ha : PySem.W.findIn K (.ref C) "__class__" = some (some (.builtin "object.__class__"))
  hn : PySem.W.specialIn K (.builtin "object.__class__") "__get__" = some (some (.builtin "getset_descriptor.__get__"))
  htk : PySem.W.takesIn K (.builtin "object.__class__") = some true
  hm : PySem.W.mroIn K C (.type "object") = some true
  nI : PySem.W.kitOne K (.ref C) (.type "int") = some false
  nB : PySem.W.kitOne K (.ref C) (.type "bool") = some false
  nS : PySem.W.kitOne K (.ref C) (.type "str") = some false
/-- a thing that is asked about, as it stands in the heap -/
inductive Th (K : PySem.W.Frag) (H : Hp) : V → Prop where
  | non : Th K H .non
  | bl (b : Bool) : Th K H (.bl b)
  | int (i : Int) : Th K H (.int i)
  | str (l : List Nat) (h : l.length ≤ 1000) (a : ∀ c ∈ l, c < 128) : Th K H (.str (SX.S l))
  | lst {a : Addr} {xs : List V} (e : H a = some (.lst xs)) : Th K H (.ref a)
  | tup {a : Addr} {xs : List V} (e : H a = some (.tup xs)) : Th K H (.ref a)
  | dct {a : Addr} {xs : List (Key × V)} (e : H a = some (.dK xs)) : Th K H (.ref a)
  | exc {a C : Addr} {fs : List (Str × V)} (e : Exn H a C fs) (i : ExI K C) (n1 : PySem.W.kitOne K (.ref C) (.type "int") = some false) (n2 : PySem.W.kitOne K (.ref C) (.type "bool") = some false) (n3 : PySem.W.kitOne K (.ref C) (.type "str") = some false) : Th K H (.ref a)
  | ins {a C dx : Addr} {fs : List (Str × V)} (e : H a = some (.ins C dx fs)) (k : OwnK K C) : Th K H (.ref a)
theorem Th.same {K : PySem.W.Frag} {H H' : Hp} {x : V} (h : Th K H x) (s : Same H H') : Th K H' x := by
  cases h with
  | non => exact .non
  | bl b => exact .bl b
  | int i => exact .int i
  | str l h a => exact .str l h a
  | lst e => exact .lst (s _ _ e)
  | tup e => exact .tup (s _ _ e)
  | dct e => exact .dct (s _ _ e)
  | exc e i a b c => exact .exc (e.same s) i a b c
  | ins e k => exact .ins (s _ _ e) k
def vInt : V → Bool
  | .int _ => true
  | .bl _ => true
  | _ => false
def vBl : V → Bool
  | .bl _ => true
  | _ => false
def vStr : V → Bool
  | .str _ => true
  | _ => false
def RB (K : PySem.W.Frag) : List V → Hp → VK → Prop := fun xs H Q => rIsi K xs H Q ∨ ∃ (a C : Addr) (fs : List (Str × V)) (c : V) (u : Value) (b : Bool), xs = [.ref a, c] ∧ Exn H a C fs ∧ ExI K C ∧ ClsV c u ∧ PySem.W.kitOne K (.ref C) u = some b ∧ Q (.bl b) H
theorem isi_b {K : PySem.W.Frag} {H : Hp} {x : V} {T t : String} {b : Bool} (h : TyOf K H x (.type t)) (e : kitB t T = some b) {Q : VK} (q : Q (.bl b) H) : RB K [x, .ty T] H Q :=
  .inl ⟨x, .ty T, _, _, b, rfl, .ty T, .base h, kit_ty e, q⟩
theorem Th.int? {K : PySem.W.Frag} {H : Hp} {x : V} (h : Th K H x) {Q : VK} (q : Q (.bl (vInt x)) H) : RB K [x, .ty "int"] H Q := by
  cases h with
  | non => exact isi_b (b := false) .non (by decide +kernel) q
  | bl b => exact isi_b (b := true) (.bl b) (by decide +kernel) q
  | int i => exact isi_b (b := true) (.int i) (by decide +kernel) q
  | str l h a => exact isi_b (b := false) (.str _) (by decide +kernel) q
  | lst e => exact isi_b (b := false) (.lst e) (by decide +kernel) q
  | tup e => exact isi_b (b := false) (.tup e) (by decide +kernel) q
  | dct e => exact isi_b (b := false) (.dK e) (by decide +kernel) q
  | exc e i a b c => exact .inr ⟨_, _, _, _, _, _, rfl, e, i, .ty _, a, q⟩
  | ins e k => exact .inl ⟨_, _, _, _, false, rfl, .ty _, .base (.ins e k.cl k.ha k.hn k.htk k.hm), k.nI, q⟩
theorem Th.bl? {K : PySem.W.Frag} {H : Hp} {x : V} (h : Th K H x) {Q : VK} (q : Q (.bl (vBl x)) H) : RB K [x, .ty "bool"] H Q := by
  cases h with
  | non => exact isi_b (b := false) .non (by decide +kernel) q
  | bl b => exact isi_b (b := true) (.bl b) (by decide +kernel) q
  | int i => exact isi_b (b := false) (.int i) (by decide +kernel) q
  | str l h a => exact isi_b (b := false) (.str _) (by decide +kernel) q
  | lst e => exact isi_b (b := false) (.lst e) (by decide +kernel) q
  | tup e => exact isi_b (b := false) (.tup e) (by decide +kernel) q
  | dct e => exact isi_b (b := false) (.dK e) (by decide +kernel) q
  | exc e i a b c => exact .inr ⟨_, _, _, _, _, _, rfl, e, i, .ty _, b, q⟩
  | ins e k => exact .inl ⟨_, _, _, _, false, rfl, .ty _, .base (.ins e k.cl k.ha k.hn k.htk k.hm), k.nB, q⟩
theorem Th.str? {K : PySem.W.Frag} {H : Hp} {x : V} (h : Th K H x) {Q : VK} (q : Q (.bl (vStr x)) H) : RB K [x, .ty "str"] H Q := by
  cases h with
  | non => exact isi_b (b := false) .non (by decide +kernel) q
  | bl b => exact isi_b (b := false) (.bl b) (by decide +kernel) q
  | int i => exact isi_b (b := false) (.int i) (by decide +kernel) q
  | str l h a => exact isi_b (b := true) (.str _) (by decide +kernel) q
  | lst e => exact isi_b (b := false) (.lst e) (by decide +kernel) q
  | tup e => exact isi_b (b := false) (.tup e) (by decide +kernel) q
  | dct e => exact isi_b (b := false) (.dK e) (by decide +kernel) q
  | exc e i a b c => exact .inr ⟨_, _, _, _, _, _, rfl, e, i, .ty _, c, q⟩
  | ins e k => exact .inl ⟨_, _, _, _, false, rfl, .ty _, .base (.ins e k.cl k.ha k.hn k.htk k.hm), k.nS, q⟩
def letters26 : List Nat := (Str.cps "abcdefghijklmnopqrstuvwxyz").toList
def whole (x : V) (lo hi : Int) : Bool := match x with
  | .int i => decide (lo ≤ i) && decide (i ≤ hi)
  | _ => false

def nameL (l : List Nat) : Bool := decide (1 ≤ l.length) && decide (l.length ≤ 6) && l.all fun c => decide (c ∈ letters26)
def nameV : V → Bool
  | .str z => nameL z.cps.toList
  | _ => false
def sp_whole (K : PySem.W.Frag) : Sp := fun vs H Q _ => ∃ (x : V) (lo hi : Int), vs = [x, .int lo, .int hi] ∧ Th K H x ∧ Q (.bl (whole x lo hi)) H
def sp_name (K : PySem.W.Frag) : Sp := fun vs H Q _ => ∃ x : V, vs = [x] ∧ Th K H x ∧ ∀ H', Same H H' → Q (.bl (nameV x)) H'
def sp_made (K : PySem.W.Frag) : Sp := fun vs H Q _ => ∃ x : V, vs = [x, .str "abcdefghijklmnopqrstuvwxyz", .int 6] ∧ Th K H x ∧ ∀ H', Same H H' → Q (.bl (nameV x)) H'
theorem same_new2 {H : Hp} {p : Addr} {o u : HO} (h : H p = none) : Same H (upd (upd H p o) p u) := fun b x e => by
  have n := ne_of_none e h
  rw [upd_ne n, upd_ne n]
  exact e
section
variable {K : PySem.W.Frag}
theorem Th.str_of {H : Hp} {x : V} (h : Th K H x) (e : vStr x = true) : ∃ l : List Nat, x = .str (SX.S l) ∧ l.length ≤ 1000 ∧ ∀ c ∈ l, c < 128 := by
  cases h with
  | str l h a => exact ⟨l, rfl, h, a⟩
  | _ => exact absurd e Bool.false_ne_true
theorem nameV_no {x : V} (e : ¬ vStr x = true) : nameV x = false := by
  cases x with
  | str z => exact absurd rfl e
  | _ => rfl
theorem nameV_S (l : List Nat) : nameV (.str (SX.S l)) = nameL l := rfl
end
end My
set_option Elab.async false
set_option linter.all false
set_option maxRecDepth 100000
set_option maxHeartbeats 4000000
namespace My
open PySem PySem.Spec PyProof.Rows L2
def topS (i : Nat) : Stmt := PySem.Challenge.pw_bookplaces_k29_forged_rows.main.body.getD i (.Pass ⟨0, 0, 0, 0⟩)
abbrev s__wall : Stmt := topS 0
abbrev N__wall : List Str := ["k"]
theorem sc__wall : FnScope N__wall ["k"] (defScope s__wall) := ⟨rfl, rfl, rfl, by decide +kernel, rfl, by decide +kernel, by decide +kernel⟩
abbrev s_PlaceError___init__ : Stmt := inClass (topS 2) 0
abbrev N_PlaceError___init__ : List Str := ["self", "text"]
theorem sc_PlaceError___init__ : FnScope N_PlaceError___init__ ["self", "text"] (defScope s_PlaceError___init__) := ⟨rfl, rfl, rfl, by decide +kernel, rfl, by decide +kernel, by decide +kernel⟩
abbrev s_LostError___init__ : Stmt := inClass (topS 3) 0
abbrev N_LostError___init__ : List Str := ["self", "text"]
theorem sc_LostError___init__ : FnScope N_LostError___init__ ["self", "text"] (defScope s_LostError___init__) := ⟨rfl, rfl, rfl, by decide +kernel, rfl, by decide +kernel, by decide +kernel⟩
abbrev s_NoNumber___init__ : Stmt := inClass (topS 4) 0
abbrev N_NoNumber___init__ : List Str := ["self", "found"]
theorem sc_NoNumber___init__ : FnScope N_NoNumber___init__ ["self", "found"] (defScope s_NoNumber___init__) := ⟨rfl, rfl, rfl, by decide +kernel, rfl, by decide +kernel, by decide +kernel⟩
abbrev s_NoName___init__ : Stmt := inClass (topS 5) 0
abbrev N_NoName___init__ : List Str := ["self", "found"]
theorem sc_NoName___init__ : FnScope N_NoName___init__ ["self", "found"] (defScope s_NoName___init__) := ⟨rfl, rfl, rfl, by decide +kernel, rfl, by decide +kernel, by decide +kernel⟩
abbrev s_Doubled___init__ : Stmt := inClass (topS 6) 0
abbrev N_Doubled___init__ : List Str := ["self", "found"]
theorem sc_Doubled___init__ : FnScope N_Doubled___init__ ["self", "found"] (defScope s_Doubled___init__) := ⟨rfl, rfl, rfl, by decide +kernel, rfl, by decide +kernel, by decide +kernel⟩
abbrev s_NoEdition___init__ : Stmt := inClass (topS 7) 0
abbrev N_NoEdition___init__ : List Str := ["self", "found"]
theorem sc_NoEdition___init__ : FnScope N_NoEdition___init__ ["self", "found"] (defScope s_NoEdition___init__) := ⟨rfl, rfl, rfl, by decide +kernel, rfl, by decide +kernel, by decide +kernel⟩
abbrev s_TooMany___init__ : Stmt := inClass (topS 8) 0
abbrev N_TooMany___init__ : List Str := ["self", "found"]
theorem sc_TooMany___init__ : FnScope N_TooMany___init__ ["self", "found"] (defScope s_TooMany___init__) := ⟨rfl, rfl, rfl, by decide +kernel, rfl, by decide +kernel, by decide +kernel⟩
abbrev s_NoLines___init__ : Stmt := inClass (topS 9) 0
abbrev N_NoLines___init__ : List Str := ["self", "found"]
theorem sc_NoLines___init__ : FnScope N_NoLines___init__ ["self", "found"] (defScope s_NoLines___init__) := ⟨rfl, rfl, rfl, by decide +kernel, rfl, by decide +kernel, by decide +kernel⟩
abbrev s_NoPlaces___init__ : Stmt := inClass (topS 10) 0
abbrev N_NoPlaces___init__ : List Str := ["self", "found"]
theorem sc_NoPlaces___init__ : FnScope N_NoPlaces___init__ ["self", "found"] (defScope s_NoPlaces___init__) := ⟨rfl, rfl, rfl, by decide +kernel, rfl, by decide +kernel, by decide +kernel⟩
abbrev s_NoSpot___init__ : Stmt := inClass (topS 11) 0
abbrev N_NoSpot___init__ : List Str := ["self", "found"]
theorem sc_NoSpot___init__ : FnScope N_NoSpot___init__ ["self", "found"] (defScope s_NoSpot___init__) := ⟨rfl, rfl, rfl, by decide +kernel, rfl, by decide +kernel, by decide +kernel⟩
abbrev s_NoBook___init__ : Stmt := inClass (topS 12) 0
abbrev N_NoBook___init__ : List Str := ["self", "found"]
theorem sc_NoBook___init__ : FnScope N_NoBook___init__ ["self", "found"] (defScope s_NoBook___init__) := ⟨rfl, rfl, rfl, by decide +kernel, rfl, by decide +kernel, by decide +kernel⟩
abbrev s_NoChapter___init__ : Stmt := inClass (topS 13) 0
abbrev N_NoChapter___init__ : List Str := ["self", "found"]
theorem sc_NoChapter___init__ : FnScope N_NoChapter___init__ ["self", "found"] (defScope s_NoChapter___init__) := ⟨rfl, rfl, rfl, by decide +kernel, rfl, by decide +kernel, by decide +kernel⟩
abbrev s_NoVerse___init__ : Stmt := inClass (topS 14) 0
abbrev N_NoVerse___init__ : List Str := ["self", "found"]
theorem sc_NoVerse___init__ : FnScope N_NoVerse___init__ ["self", "found"] (defScope s_NoVerse___init__) := ⟨rfl, rfl, rfl, by decide +kernel, rfl, by decide +kernel, by decide +kernel⟩
abbrev s_NoPart___init__ : Stmt := inClass (topS 15) 0
abbrev N_NoPart___init__ : List Str := ["self", "found"]
theorem sc_NoPart___init__ : FnScope N_NoPart___init__ ["self", "found"] (defScope s_NoPart___init__) := ⟨rfl, rfl, rfl, by decide +kernel, rfl, by decide +kernel, by decide +kernel⟩
abbrev s_is_number : Stmt := topS 19
abbrev N_is_number : List Str := ["thing"]
theorem sc_is_number : FnScope N_is_number ["thing"] (defScope s_is_number) := ⟨rfl, rfl, rfl, by decide +kernel, rfl, by decide +kernel, by decide +kernel⟩
abbrev s_is_whole : Stmt := topS 20
abbrev N_is_whole : List Str := ["thing", "low", "high"]
theorem sc_is_whole : FnScope N_is_whole ["thing", "low", "high"] (defScope s_is_whole) := ⟨rfl, rfl, rfl, by decide +kernel, rfl, by decide +kernel, by decide +kernel⟩
abbrev s_is_name : Stmt := topS 21
abbrev N_is_name : List Str := ["thing"]
theorem sc_is_name : FnScope N_is_name ["thing"] (defScope s_is_name) := ⟨rfl, rfl, rfl, by decide +kernel, rfl, by decide +kernel, by decide +kernel⟩
abbrev s_is_made_of : Stmt := topS 22
abbrev N_is_made_of : List Str := ["thing", "signs", "most", "sign"]
theorem sc_is_made_of : FnScope N_is_made_of ["thing", "signs", "most"] (defScope s_is_made_of) := ⟨rfl, rfl, rfl, by decide +kernel, rfl, by decide +kernel, by decide +kernel⟩
abbrev s_is_tuple : Stmt := topS 23
abbrev N_is_tuple : List Str := ["thing", "fewest", "most"]
theorem sc_is_tuple : FnScope N_is_tuple ["thing", "fewest", "most"] (defScope s_is_tuple) := ⟨rfl, rfl, rfl, by decide +kernel, rfl, by decide +kernel, by decide +kernel⟩
abbrev s_is_row : Stmt := topS 24
abbrev N_is_row : List Str := ["thing", "fewest", "most"]
theorem sc_is_row : FnScope N_is_row ["thing", "fewest", "most"] (defScope s_is_row) := ⟨rfl, rfl, rfl, by decide +kernel, rfl, by decide +kernel, by decide +kernel⟩
abbrev s_Edition___init__ : Stmt := inClass (topS 34) 0
abbrev N_Edition___init__ : List Str := ["self", "books", "lines", "name", "chapters", "number", "line"]
theorem sc_Edition___init__ : FnScope N_Edition___init__ ["self", "books", "lines"] (defScope s_Edition___init__) := ⟨rfl, rfl, rfl, by decide +kernel, rfl, by decide +kernel, by decide +kernel⟩
abbrev s_Edition_names : Stmt := inClass (topS 34) 1
abbrev N_Edition_names : List Str := ["self"]
theorem sc_Edition_names : FnScope N_Edition_names ["self"] (defScope s_Edition_names) := ⟨rfl, rfl, rfl, by decide +kernel, rfl, by decide +kernel, by decide +kernel⟩
abbrev s_Edition_size : Stmt := inClass (topS 34) 2
abbrev N_Edition_size : List Str := ["self"]
theorem sc_Edition_size : FnScope N_Edition_size ["self"] (defScope s_Edition_size) := ⟨rfl, rfl, rfl, by decide +kernel, rfl, by decide +kernel, by decide +kernel⟩
abbrev s_Edition_lines : Stmt := inClass (topS 34) 3
abbrev N_Edition_lines : List Str := ["self"]
theorem sc_Edition_lines : FnScope N_Edition_lines ["self"] (defScope s_Edition_lines) := ⟨rfl, rfl, rfl, by decide +kernel, rfl, by decide +kernel, by decide +kernel⟩
abbrev s_Edition_chapters : Stmt := inClass (topS 34) 4
abbrev N_Edition_chapters : List Str := ["self", "name"]
theorem sc_Edition_chapters : FnScope N_Edition_chapters ["self", "name"] (defScope s_Edition_chapters) := ⟨rfl, rfl, rfl, by decide +kernel, rfl, by decide +kernel, by decide +kernel⟩
abbrev s_Edition_verses : Stmt := inClass (topS 34) 5
abbrev N_Edition_verses : List Str := ["self", "name", "chapter"]
theorem sc_Edition_verses : FnScope N_Edition_verses ["self", "name", "chapter"] (defScope s_Edition_verses) := ⟨rfl, rfl, rfl, by decide +kernel, rfl, by decide +kernel, by decide +kernel⟩
abbrev s_Edition_parts : Stmt := inClass (topS 34) 6
abbrev N_Edition_parts : List Str := ["self", "name", "chapter", "verse", "verses"]
theorem sc_Edition_parts : FnScope N_Edition_parts ["self", "name", "chapter", "verse"] (defScope s_Edition_parts) := ⟨rfl, rfl, rfl, by decide +kernel, rfl, by decide +kernel, by decide +kernel⟩
abbrev s_Edition_line_at : Stmt := inClass (topS 34) 7
abbrev N_Edition_line_at : List Str := ["self", "number"]
theorem sc_Edition_line_at : FnScope N_Edition_line_at ["self", "number"] (defScope s_Edition_line_at) := ⟨rfl, rfl, rfl, by decide +kernel, rfl, by decide +kernel, by decide +kernel⟩
abbrev s_Edition_part_of : Stmt := inClass (topS 34) 8
abbrev N_Edition_part_of : List Str := ["self", "thing"]
theorem sc_Edition_part_of : FnScope N_Edition_part_of ["self", "thing"] (defScope s_Edition_part_of) := ⟨rfl, rfl, rfl, by decide +kernel, rfl, by decide +kernel, by decide +kernel⟩
abbrev s_Edition_told : Stmt := inClass (topS 34) 9
abbrev N_Edition_told : List Str := ["self"]
theorem sc_Edition_told : FnScope N_Edition_told ["self"] (defScope s_Edition_told) := ⟨rfl, rfl, rfl, by decide +kernel, rfl, by decide +kernel, by decide +kernel⟩
abbrev s_Edition_same : Stmt := inClass (topS 34) 10
abbrev N_Edition_same : List Str := ["self", "thing"]
theorem sc_Edition_same : FnScope N_Edition_same ["self", "thing"] (defScope s_Edition_same) := ⟨rfl, rfl, rfl, by decide +kernel, rfl, by decide +kernel, by decide +kernel⟩
abbrev s_Edition_stretch : Stmt := inClass (topS 34) 11
abbrev N_Edition_stretch : List Str := ["self", "spot"]
theorem sc_Edition_stretch : FnScope N_Edition_stretch ["self", "spot"] (defScope s_Edition_stretch) := ⟨rfl, rfl, rfl, by decide +kernel, rfl, by decide +kernel, by decide +kernel⟩
abbrev s_Edition_number : Stmt := inClass (topS 34) 12
abbrev N_Edition_number : List Str := ["self", "spot", "first", "_"]
theorem sc_Edition_number : FnScope N_Edition_number ["self", "spot"] (defScope s_Edition_number) := ⟨rfl, rfl, rfl, by decide +kernel, rfl, by decide +kernel, by decide +kernel⟩
abbrev s_Edition_place : Stmt := inClass (topS 34) 13
abbrev N_Edition_place : List Str := ["self", "number"]
theorem sc_Edition_place : FnScope N_Edition_place ["self", "number"] (defScope s_Edition_place) := ⟨rfl, rfl, rfl, by decide +kernel, rfl, by decide +kernel, by decide +kernel⟩
abbrev s_Edition_verse_of : Stmt := inClass (topS 34) 14
abbrev N_Edition_verse_of : List Str := ["self", "number"]
theorem sc_Edition_verse_of : FnScope N_Edition_verse_of ["self", "number"] (defScope s_Edition_verse_of) := ⟨rfl, rfl, rfl, by decide +kernel, rfl, by decide +kernel, by decide +kernel⟩
abbrev s_Edition_begins : Stmt := inClass (topS 34) 15
abbrev N_Edition_begins : List Str := ["self", "number"]
theorem sc_Edition_begins : FnScope N_Edition_begins ["self", "number"] (defScope s_Edition_begins) := ⟨rfl, rfl, rfl, by decide +kernel, rfl, by decide +kernel, by decide +kernel⟩
abbrev s_Edition_ends : Stmt := inClass (topS 34) 16
abbrev N_Edition_ends : List Str := ["self", "number", "spot"]
theorem sc_Edition_ends : FnScope N_Edition_ends ["self", "number"] (defScope s_Edition_ends) := ⟨rfl, rfl, rfl, by decide +kernel, rfl, by decide +kernel, by decide +kernel⟩
abbrev s_Edition__book : Stmt := inClass (topS 34) 17
abbrev N_Edition__book : List Str := ["self", "name"]
theorem sc_Edition__book : FnScope N_Edition__book ["self", "name"] (defScope s_Edition__book) := ⟨rfl, rfl, rfl, by decide +kernel, rfl, by decide +kernel, by decide +kernel⟩
abbrev s_Edition__chapter : Stmt := inClass (topS 34) 18
abbrev N_Edition__chapter : List Str := ["self", "name", "chapter", "chapters"]
theorem sc_Edition__chapter : FnScope N_Edition__chapter ["self", "name", "chapter"] (defScope s_Edition__chapter) := ⟨rfl, rfl, rfl, by decide +kernel, rfl, by decide +kernel, by decide +kernel⟩
abbrev s_Edition__spots_around : Stmt := inClass (topS 34) 19
abbrev N_Edition__spots_around : List Str := ["self", "number", "place", "many"]
theorem sc_Edition__spots_around : FnScope N_Edition__spots_around ["self", "number"] (defScope s_Edition__spots_around) := ⟨rfl, rfl, rfl, by decide +kernel, rfl, by decide +kernel, by decide +kernel⟩
abbrev s_Edition__check_number : Stmt := inClass (topS 34) 20
abbrev N_Edition__check_number : List Str := ["self", "number"]
theorem sc_Edition__check_number : FnScope N_Edition__check_number ["self", "number"] (defScope s_Edition__check_number) := ⟨rfl, rfl, rfl, by decide +kernel, rfl, by decide +kernel, by decide +kernel⟩
abbrev s_Edition__check_spot : Stmt := inClass (topS 34) 21
abbrev N_Edition__check_spot : List Str := ["self", "spot", "many"]
theorem sc_Edition__check_spot : FnScope N_Edition__check_spot ["self", "spot"] (defScope s_Edition__check_spot) := ⟨rfl, rfl, rfl, by decide +kernel, rfl, by decide +kernel, by decide +kernel⟩
abbrev s_check_edition : Stmt := topS 35
abbrev N_check_edition : List Str := ["thing"]
theorem sc_check_edition : FnScope N_check_edition ["thing"] (defScope s_check_edition) := ⟨rfl, rfl, rfl, by decide +kernel, rfl, by decide +kernel, by decide +kernel⟩
abbrev s_kept_books : Stmt := topS 36
abbrev N_kept_books : List Str := ["books", "kept", "book", "names", "name", "chapters"]
theorem sc_kept_books : FnScope N_kept_books ["books"] (defScope s_kept_books) := ⟨rfl, rfl, rfl, by decide +kernel, rfl, by decide +kernel, by decide +kernel⟩
abbrev s_kept_book : Stmt := topS 37
abbrev N_kept_book : List Str := ["book", "names", "name", "chapters", "chapter"]
theorem sc_kept_book : FnScope N_kept_book ["book", "names"] (defScope s_kept_book) := ⟨rfl, rfl, rfl, by decide +kernel, rfl, by decide +kernel, by decide +kernel⟩
abbrev s_kept_chapter : Stmt := topS 38
abbrev N_kept_chapter : List Str := ["chapter", "parts"]
theorem sc_kept_chapter : FnScope N_kept_chapter ["chapter"] (defScope s_kept_chapter) := ⟨rfl, rfl, rfl, by decide +kernel, rfl, by decide +kernel, by decide +kernel⟩
abbrev s_check_counts : Stmt := topS 39
abbrev N_check_counts : List Str := ["books", "counts", "parts", "name", "chapters", "chapter"]
theorem sc_check_counts : FnScope N_check_counts ["books"] (defScope s_check_counts) := ⟨rfl, rfl, rfl, by decide +kernel, rfl, by decide +kernel, by decide +kernel⟩
abbrev s_kept_lines : Stmt := topS 40
abbrev N_kept_lines : List Str := ["lines", "size", "taken", "pair", "line"]
theorem sc_kept_lines : FnScope N_kept_lines ["lines", "size"] (defScope s_kept_lines) := ⟨rfl, rfl, rfl, by decide +kernel, rfl, by decide +kernel, by decide +kernel⟩
abbrev s_lines_of_pair : Stmt := topS 41
abbrev N_lines_of_pair : List Str := ["pair", "first", "many"]
theorem sc_lines_of_pair : FnScope N_lines_of_pair ["pair"] (defScope s_lines_of_pair) := ⟨rfl, rfl, rfl, by decide +kernel, rfl, by decide +kernel, by decide +kernel⟩
abbrev s_fewest_pairs : Stmt := topS 42
abbrev N_fewest_pairs : List Str := ["lines", "pairs", "line", "first", "many"]
theorem sc_fewest_pairs : FnScope N_fewest_pairs ["lines"] (defScope s_fewest_pairs) := ⟨rfl, rfl, rfl, by decide +kernel, rfl, by decide +kernel, by decide +kernel⟩
abbrev s_places_in : Stmt := topS 43
abbrev N_places_in : List Str := ["books", "places", "name", "chapters", "chapter", "verses", "verse", "parts", "part"]
theorem sc_places_in : FnScope N_places_in ["books"] (defScope s_places_in) := ⟨rfl, rfl, rfl, by decide +kernel, rfl, by decide +kernel, by decide +kernel⟩
abbrev s_stretches_of : Stmt := topS 44
abbrev N_stretches_of : List Str := ["places", "stretches", "number", "place", "many", "spot", "first"]
theorem sc_stretches_of : FnScope N_stretches_of ["places"] (defScope s_stretches_of) := ⟨rfl, rfl, rfl, by decide +kernel, rfl, by decide +kernel, by decide +kernel⟩
abbrev s_Places___init__ : Stmt := inClass (topS 47) 0
abbrev N_Places___init__ : List Str := ["self", "edition", "pairs", "number"]
theorem sc_Places___init__ : FnScope N_Places___init__ ["self", "edition", "pairs"] (defScope s_Places___init__) := ⟨rfl, rfl, rfl, by decide +kernel, rfl, by decide +kernel, by decide +kernel⟩
abbrev s_Places_edition : Stmt := inClass (topS 47) 1
abbrev N_Places_edition : List Str := ["self"]
theorem sc_Places_edition : FnScope N_Places_edition ["self"] (defScope s_Places_edition) := ⟨rfl, rfl, rfl, by decide +kernel, rfl, by decide +kernel, by decide +kernel⟩
abbrev s_Places_runs : Stmt := inClass (topS 47) 2
abbrev N_Places_runs : List Str := ["self"]
theorem sc_Places_runs : FnScope N_Places_runs ["self"] (defScope s_Places_runs) := ⟨rfl, rfl, rfl, by decide +kernel, rfl, by decide +kernel, by decide +kernel⟩
abbrev s_Places_numbers : Stmt := inClass (topS 47) 3
abbrev N_Places_numbers : List Str := ["self"]
theorem sc_Places_numbers : FnScope N_Places_numbers ["self"] (defScope s_Places_numbers) := ⟨rfl, rfl, rfl, by decide +kernel, rfl, by decide +kernel, by decide +kernel⟩
abbrev s_Places_has : Stmt := inClass (topS 47) 4
abbrev N_Places_has : List Str := ["self", "number"]
theorem sc_Places_has : FnScope N_Places_has ["self", "number"] (defScope s_Places_has) := ⟨rfl, rfl, rfl, by decide +kernel, rfl, by decide +kernel, by decide +kernel⟩
abbrev s_Places_spots : Stmt := inClass (topS 47) 5
abbrev N_Places_spots : List Str := ["self", "number"]
theorem sc_Places_spots : FnScope N_Places_spots ["self"] (defScope s_Places_spots) := ⟨rfl, rfl, rfl, by decide +kernel, rfl, by decide +kernel, by decide +kernel⟩
abbrev s_Places_whole : Stmt := inClass (topS 47) 6
abbrev N_Places_whole : List Str := ["self", "spot", "first", "last", "low", "high"]
theorem sc_Places_whole : FnScope N_Places_whole ["self", "spot"] (defScope s_Places_whole) := ⟨rfl, rfl, rfl, by decide +kernel, rfl, by decide +kernel, by decide +kernel⟩
abbrev s_Places_kth : Stmt := inClass (topS 47) 7
abbrev N_Places_kth : List Str := ["self", "k"]
theorem sc_Places_kth : FnScope N_Places_kth ["self", "k"] (defScope s_Places_kth) := ⟨rfl, rfl, rfl, by decide +kernel, rfl, by decide +kernel, by decide +kernel⟩
abbrev s_Places_rank : Stmt := inClass (topS 47) 8
abbrev N_Places_rank : List Str := ["self", "number"]
theorem sc_Places_rank : FnScope N_Places_rank ["self", "number"] (defScope s_Places_rank) := ⟨rfl, rfl, rfl, by decide +kernel, rfl, by decide +kernel, by decide +kernel⟩
abbrev s_Places_joined : Stmt := inClass (topS 47) 9
abbrev N_Places_joined : List Str := ["self", "other"]
theorem sc_Places_joined : FnScope N_Places_joined ["self", "other"] (defScope s_Places_joined) := ⟨rfl, rfl, rfl, by decide +kernel, rfl, by decide +kernel, by decide +kernel⟩
abbrev s_Places_met : Stmt := inClass (topS 47) 10
abbrev N_Places_met : List Str := ["self", "other"]
theorem sc_Places_met : FnScope N_Places_met ["self", "other"] (defScope s_Places_met) := ⟨rfl, rfl, rfl, by decide +kernel, rfl, by decide +kernel, by decide +kernel⟩
abbrev s_Places_without : Stmt := inClass (topS 47) 11
abbrev N_Places_without : List Str := ["self", "other", "number"]
theorem sc_Places_without : FnScope N_Places_without ["self", "other"] (defScope s_Places_without) := ⟨rfl, rfl, rfl, by decide +kernel, rfl, by decide +kernel, by decide +kernel⟩
abbrev s_Places_apart : Stmt := inClass (topS 47) 12
abbrev N_Places_apart : List Str := ["self", "other"]
theorem sc_Places_apart : FnScope N_Places_apart ["self", "other"] (defScope s_Places_apart) := ⟨rfl, rfl, rfl, by decide +kernel, rfl, by decide +kernel, by decide +kernel⟩
abbrev s_Places_rest : Stmt := inClass (topS 47) 13
abbrev N_Places_rest : List Str := ["self"]
theorem sc_Places_rest : FnScope N_Places_rest ["self"] (defScope s_Places_rest) := ⟨rfl, rfl, rfl, by decide +kernel, rfl, by decide +kernel, by decide +kernel⟩
abbrev s_Places_within : Stmt := inClass (topS 47) 14
abbrev N_Places_within : List Str := ["self", "other", "number"]
theorem sc_Places_within : FnScope N_Places_within ["self", "other"] (defScope s_Places_within) := ⟨rfl, rfl, rfl, by decide +kernel, rfl, by decide +kernel, by decide +kernel⟩
abbrev s_Places___len__ : Stmt := inClass (topS 47) 15
abbrev N_Places___len__ : List Str := ["self"]
theorem sc_Places___len__ : FnScope N_Places___len__ ["self"] (defScope s_Places___len__) := ⟨rfl, rfl, rfl, by decide +kernel, rfl, by decide +kernel, by decide +kernel⟩
abbrev s_Places___eq__ : Stmt := inClass (topS 47) 16
abbrev N_Places___eq__ : List Str := ["self", "other"]
theorem sc_Places___eq__ : FnScope N_Places___eq__ ["self", "other"] (defScope s_Places___eq__) := ⟨rfl, rfl, rfl, by decide +kernel, rfl, by decide +kernel, by decide +kernel⟩
abbrev s_Places___str__ : Stmt := inClass (topS 47) 17
abbrev N_Places___str__ : List Str := ["self"]
theorem sc_Places___str__ : FnScope N_Places___str__ ["self"] (defScope s_Places___str__) := ⟨rfl, rfl, rfl, by decide +kernel, rfl, by decide +kernel, by decide +kernel⟩
abbrev s_Places___repr__ : Stmt := inClass (topS 47) 18
abbrev N_Places___repr__ : List Str := ["self"]
theorem sc_Places___repr__ : FnScope N_Places___repr__ ["self"] (defScope s_Places___repr__) := ⟨rfl, rfl, rfl, by decide +kernel, rfl, by decide +kernel, by decide +kernel⟩
abbrev s_Places__check_other : Stmt := inClass (topS 47) 19
abbrev N_Places__check_other : List Str := ["self", "other"]
theorem sc_Places__check_other : FnScope N_Places__check_other ["self", "other"] (defScope s_Places__check_other) := ⟨rfl, rfl, rfl, by decide +kernel, rfl, by decide +kernel, by decide +kernel⟩
abbrev s_all_of : Stmt := topS 48
abbrev N_all_of : List Str := ["edition"]
theorem sc_all_of : FnScope N_all_of ["edition"] (defScope s_all_of) := ⟨rfl, rfl, rfl, by decide +kernel, rfl, by decide +kernel, by decide +kernel⟩
abbrev s_spot_places : Stmt := topS 49
abbrev N_spot_places : List Str := ["edition", "spot"]
theorem sc_spot_places : FnScope N_spot_places ["edition", "spot"] (defScope s_spot_places) := ⟨rfl, rfl, rfl, by decide +kernel, rfl, by decide +kernel, by decide +kernel⟩
abbrev s_places_of_numbers : Stmt := topS 50
abbrev N_places_of_numbers : List Str := ["edition", "numbers", "number"]
theorem sc_places_of_numbers : FnScope N_places_of_numbers ["edition", "numbers"] (defScope s_places_of_numbers) := ⟨rfl, rfl, rfl, by decide +kernel, rfl, by decide +kernel, by decide +kernel⟩
abbrev s_places_of_stretches : Stmt := topS 51
abbrev N_places_of_stretches : List Str := ["edition", "stretches"]
theorem sc_places_of_stretches : FnScope N_places_of_stretches ["edition", "stretches"] (defScope s_places_of_stretches) := ⟨rfl, rfl, rfl, by decide +kernel, rfl, by decide +kernel, by decide +kernel⟩
abbrev s_is_places_of : Stmt := topS 52
abbrev N_is_places_of : List Str := ["edition", "thing"]
theorem sc_is_places_of : FnScope N_is_places_of ["edition", "thing"] (defScope s_is_places_of) := ⟨rfl, rfl, rfl, by decide +kernel, rfl, by decide +kernel, by decide +kernel⟩
abbrev s_kept_pairs : Stmt := topS 53
abbrev N_kept_pairs : List Str := ["pairs", "size", "pair"]
theorem sc_kept_pairs : FnScope N_kept_pairs ["pairs", "size"] (defScope s_kept_pairs) := ⟨rfl, rfl, rfl, by decide +kernel, rfl, by decide +kernel, by decide +kernel⟩
abbrev s_is_stretch : Stmt := topS 54
abbrev N_is_stretch : List Str := ["thing", "size"]
theorem sc_is_stretch : FnScope N_is_stretch ["thing", "size"] (defScope s_is_stretch) := ⟨rfl, rfl, rfl, by decide +kernel, rfl, by decide +kernel, by decide +kernel⟩
abbrev s_numbers_in : Stmt := topS 55
abbrev N_numbers_in : List Str := ["stretches", "numbers", "first", "last", "unfound"]
theorem sc_numbers_in : FnScope N_numbers_in ["stretches"] (defScope s_numbers_in) := ⟨rfl, rfl, rfl, by decide +kernel, rfl, by decide +kernel, by decide +kernel⟩
abbrev s_runs_of : Stmt := topS 56
abbrev N_runs_of : List Str := ["numbers", "runs", "number", "first", "_"]
theorem sc_runs_of : FnScope N_runs_of ["numbers"] (defScope s_runs_of) := ⟨rfl, rfl, rfl, by decide +kernel, rfl, by decide +kernel, by decide +kernel⟩
abbrev s_runs_text : Stmt := topS 57
abbrev N_runs_text : List Str := ["runs", "first", "last"]
theorem sc_runs_text : FnScope N_runs_text ["runs"] (defScope s_runs_text) := ⟨rfl, rfl, rfl, by decide +kernel, rfl, by decide +kernel, by decide +kernel⟩
abbrev s_stretch_text : Stmt := topS 58
abbrev N_stretch_text : List Str := ["first", "last"]
theorem sc_stretch_text : FnScope N_stretch_text ["first", "last"] (defScope s_stretch_text) := ⟨rfl, rfl, rfl, by decide +kernel, rfl, by decide +kernel, by decide +kernel⟩
abbrev s_Leading___init__ : Stmt := inClass (topS 60) 0
abbrev N_Leading___init__ : List Str := ["self", "one", "other"]
theorem sc_Leading___init__ : FnScope N_Leading___init__ ["self", "one", "other"] (defScope s_Leading___init__) := ⟨rfl, rfl, rfl, by decide +kernel, rfl, by decide +kernel, by decide +kernel⟩
abbrev s_Leading_editions : Stmt := inClass (topS 60) 1
abbrev N_Leading_editions : List Str := ["self"]
theorem sc_Leading_editions : FnScope N_Leading_editions ["self"] (defScope s_Leading_editions) := ⟨rfl, rfl, rfl, by decide +kernel, rfl, by decide +kernel, by decide +kernel⟩
abbrev s_Leading_goes_to : Stmt := inClass (topS 60) 2
abbrev N_Leading_goes_to : List Str := ["self", "number"]
theorem sc_Leading_goes_to : FnScope N_Leading_goes_to ["self", "number"] (defScope s_Leading_goes_to) := ⟨rfl, rfl, rfl, by decide +kernel, rfl, by decide +kernel, by decide +kernel⟩
abbrev s_Leading_comes_from : Stmt := inClass (topS 60) 3
abbrev N_Leading_comes_from : List Str := ["self", "number"]
theorem sc_Leading_comes_from : FnScope N_Leading_comes_from ["self", "number"] (defScope s_Leading_comes_from) := ⟨rfl, rfl, rfl, by decide +kernel, rfl, by decide +kernel, by decide +kernel⟩
abbrev s_Leading_rows : Stmt := inClass (topS 60) 4
abbrev N_Leading_rows : List Str := ["self"]
theorem sc_Leading_rows : FnScope N_Leading_rows ["self"] (defScope s_Leading_rows) := ⟨rfl, rfl, rfl, by decide +kernel, rfl, by decide +kernel, by decide +kernel⟩
abbrev s_Leading_over : Stmt := inClass (topS 60) 5
abbrev N_Leading_over : List Str := ["self", "places"]
theorem sc_Leading_over : FnScope N_Leading_over ["self", "places"] (defScope s_Leading_over) := ⟨rfl, rfl, rfl, by decide +kernel, rfl, by decide +kernel, by decide +kernel⟩
abbrev s_Leading_back : Stmt := inClass (topS 60) 6
abbrev N_Leading_back : List Str := ["self", "places"]
theorem sc_Leading_back : FnScope N_Leading_back ["self", "places"] (defScope s_Leading_back) := ⟨rfl, rfl, rfl, by decide +kernel, rfl, by decide +kernel, by decide +kernel⟩
abbrev s_Leading_lacking : Stmt := inClass (topS 60) 7
abbrev N_Leading_lacking : List Str := ["self"]
theorem sc_Leading_lacking : FnScope N_Leading_lacking ["self"] (defScope s_Leading_lacking) := ⟨rfl, rfl, rfl, by decide +kernel, rfl, by decide +kernel, by decide +kernel⟩
abbrev s_Leading_lacking_back : Stmt := inClass (topS 60) 8
abbrev N_Leading_lacking_back : List Str := ["self"]
theorem sc_Leading_lacking_back : FnScope N_Leading_lacking_back ["self"] (defScope s_Leading_lacking_back) := ⟨rfl, rfl, rfl, by decide +kernel, rfl, by decide +kernel, by decide +kernel⟩
abbrev s_Leading_verse : Stmt := inClass (topS 60) 9
abbrev N_Leading_verse : List Str := ["self", "name", "chapter", "verse", "many", "found", "spots", "first", "last"]
theorem sc_Leading_verse : FnScope N_Leading_verse ["self", "name", "chapter", "verse"] (defScope s_Leading_verse) := ⟨rfl, rfl, rfl, by decide +kernel, rfl, by decide +kernel, by decide +kernel⟩
abbrev s_Leading_verses : Stmt := inClass (topS 60) 10
abbrev N_Leading_verses : List Str := ["self", "verses", "spot", "kind", "spots"]
theorem sc_Leading_verses : FnScope N_Leading_verses ["self"] (defScope s_Leading_verses) := ⟨rfl, rfl, rfl, by decide +kernel, rfl, by decide +kernel, by decide +kernel⟩
abbrev s_Leading_turned : Stmt := inClass (topS 60) 11
abbrev N_Leading_turned : List Str := ["self"]
theorem sc_Leading_turned : FnScope N_Leading_turned ["self"] (defScope s_Leading_turned) := ⟨rfl, rfl, rfl, by decide +kernel, rfl, by decide +kernel, by decide +kernel⟩
abbrev s_Leading___len__ : Stmt := inClass (topS 60) 12
abbrev N_Leading___len__ : List Str := ["self"]
theorem sc_Leading___len__ : FnScope N_Leading___len__ ["self"] (defScope s_Leading___len__) := ⟨rfl, rfl, rfl, by decide +kernel, rfl, by decide +kernel, by decide +kernel⟩
abbrev s_Leading___eq__ : Stmt := inClass (topS 60) 13
abbrev N_Leading___eq__ : List Str := ["self", "thing"]
theorem sc_Leading___eq__ : FnScope N_Leading___eq__ ["self", "thing"] (defScope s_Leading___eq__) := ⟨rfl, rfl, rfl, by decide +kernel, rfl, by decide +kernel, by decide +kernel⟩
abbrev s_Leading___str__ : Stmt := inClass (topS 60) 14
abbrev N_Leading___str__ : List Str := ["self", "row"]
theorem sc_Leading___str__ : FnScope N_Leading___str__ ["self"] (defScope s_Leading___str__) := ⟨rfl, rfl, rfl, by decide +kernel, rfl, by decide +kernel, by decide +kernel⟩
abbrev s_shows_rows : Stmt := topS 61
abbrev N_shows_rows : List Str := ["one", "other", "thing", "rows", "row", "number"]
theorem sc_shows_rows : FnScope N_shows_rows ["one", "other", "thing"] (defScope s_shows_rows) := ⟨rfl, rfl, rfl, by decide +kernel, rfl, by decide +kernel, by decide +kernel⟩
abbrev s_same_editions : Stmt := topS 62
abbrev N_same_editions : List Str := ["some", "others"]
theorem sc_same_editions : FnScope N_same_editions ["some", "others"] (defScope s_same_editions) := ⟨rfl, rfl, rfl, by decide +kernel, rfl, by decide +kernel, by decide +kernel⟩
abbrev s_parts_with_lines : Stmt := topS 63
abbrev N_parts_with_lines : List Str := ["edition", "lines", "line"]
theorem sc_parts_with_lines : FnScope N_parts_with_lines ["edition", "lines"] (defScope s_parts_with_lines) := ⟨rfl, rfl, rfl, by decide +kernel, rfl, by decide +kernel, by decide +kernel⟩
abbrev s_places_led : Stmt := topS 64
abbrev N_places_led : List Str := ["edition", "goals", "other", "places", "led", "number", "goal"]
theorem sc_places_led : FnScope N_places_led ["edition", "goals", "other", "places"] (defScope s_places_led) := ⟨rfl, rfl, rfl, by decide +kernel, rfl, by decide +kernel, by decide +kernel⟩
abbrev s_places_lost : Stmt := topS 65
abbrev N_places_lost : List Str := ["edition", "goals", "number", "goal"]
theorem sc_places_lost : FnScope N_places_lost ["edition", "goals"] (defScope s_places_lost) := ⟨rfl, rfl, rfl, by decide +kernel, rfl, by decide +kernel, by decide +kernel⟩
abbrev s_rows_of : Stmt := topS 66
abbrev N_rows_of : List Str := ["goals", "rows", "number", "goal", "first", "at", "many"]
theorem sc_rows_of : FnScope N_rows_of ["goals"] (defScope s_rows_of) := ⟨rfl, rfl, rfl, by decide +kernel, rfl, by decide +kernel, by decide +kernel⟩
abbrev s_goes_on : Stmt := topS 67
abbrev N_goes_on : List Str := ["row", "goal", "_", "at", "many"]
theorem sc_goes_on : FnScope N_goes_on ["row", "goal"] (defScope s_goes_on) := ⟨rfl, rfl, rfl, by decide +kernel, rfl, by decide +kernel, by decide +kernel⟩
abbrev s_row_text : Stmt := topS 68
abbrev N_row_text : List Str := ["row", "first", "at", "many", "goal"]
theorem sc_row_text : FnScope N_row_text ["row"] (defScope s_row_text) := ⟨rfl, rfl, rfl, by decide +kernel, rfl, by decide +kernel, by decide +kernel⟩
abbrev s_kind_of : Stmt := topS 69
abbrev N_kind_of : List Str := ["many", "found", "there"]
theorem sc_kind_of : FnScope N_kind_of ["many", "found", "there"] (defScope s_kind_of) := ⟨rfl, rfl, rfl, by decide +kernel, rfl, by decide +kernel, by decide +kernel⟩
abbrev s__law_cell_at : Stmt := topS 71
abbrev N__law_cell_at : List Str := ["script", "k"]
theorem sc__law_cell_at : FnScope N__law_cell_at ["script", "k"] (defScope s__law_cell_at) := ⟨rfl, rfl, rfl, by decide +kernel, rfl, by decide +kernel, by decide +kernel⟩
abbrev s__law_row : Stmt := topS 72
abbrev N__law_row : List Str := ["cell", "many", "salt", "row", "rest", "k", "mixed"]
theorem sc__law_row : FnScope N__law_row ["cell", "many", "salt"] (defScope s__law_row) := ⟨rfl, rfl, rfl, by decide +kernel, rfl, by decide +kernel, by decide +kernel⟩
abbrev s__law_names : Stmt := topS 73
abbrev N__law_names : List Str := ["row", "many", "letters", "stem", "at", "step", "names", "k", "long", "letter", "number"]
theorem sc__law_names : FnScope N__law_names ["row", "many"] (defScope s__law_names) := ⟨rfl, rfl, rfl, by decide +kernel, rfl, by decide +kernel, by decide +kernel⟩
abbrev s__law_books : Stmt := topS 74
abbrev N__law_books : List Str := ["cell", "salt", "row", "names", "many", "books", "k", "chapters", "j", "number", "size", "v"]
theorem sc__law_books : FnScope N__law_books ["cell", "salt"] (defScope s__law_books) := ⟨rfl, rfl, rfl, by decide +kernel, rfl, by decide +kernel, by decide +kernel⟩
abbrev s__law_copy : Stmt := topS 75
abbrev N__law_copy : List Str := ["books", "chapter", "name", "chapters"]
theorem sc__law_copy : FnScope N__law_copy ["books"] (defScope s__law_copy) := ⟨rfl, rfl, rfl, by decide +kernel, rfl, by decide +kernel, by decide +kernel⟩
abbrev s__law_spots : Stmt := topS 76
abbrev N__law_spots : List Str := ["books", "spots", "name", "chapters", "c", "v", "p"]
theorem sc__law_spots : FnScope N__law_spots ["books"] (defScope s__law_spots) := ⟨rfl, rfl, rfl, by decide +kernel, rfl, by decide +kernel, by decide +kernel⟩
abbrev s__law_threads : Stmt := topS 77
abbrev N__law_threads : List Str := ["row", "size", "span", "low", "way", "threads", "taken", "number", "first", "many", "thread", "n", "k"]
theorem sc__law_threads : FnScope N__law_threads ["row", "size", "span", "low", "way"] (defScope s__law_threads) := ⟨rfl, rfl, rfl, by decide +kernel, rfl, by decide +kernel, by decide +kernel⟩
abbrev s__law_edition : Stmt := topS 78
abbrev N__law_edition : List Str := ["books", "threads", "way", "spans", "thread"]
theorem sc__law_edition : FnScope N__law_edition ["books", "threads", "way"] (defScope s__law_edition) := ⟨rfl, rfl, rfl, by decide +kernel, rfl, by decide +kernel, by decide +kernel⟩
abbrev s__law_two : Stmt := topS 79
abbrev N__law_two : List Str := ["script", "books", "others", "way", "size", "many", "span", "low", "first", "second"]
theorem sc__law_two : FnScope N__law_two ["script"] (defScope s__law_two) := ⟨rfl, rfl, rfl, by decide +kernel, rfl, by decide +kernel, by decide +kernel⟩
abbrev s__law_goes : Stmt := topS 80
abbrev N__law_goes : List Str := ["first", "second", "at", "n", "thread"]
theorem sc__law_goes : FnScope N__law_goes ["first", "second"] (defScope s__law_goes) := ⟨rfl, rfl, rfl, by decide +kernel, rfl, by decide +kernel, by decide +kernel⟩
abbrev s__law_rows : Stmt := topS 81
abbrev N__law_rows : List Str := ["goes", "rows", "n", "at", "first", "start", "many", "none"]
theorem sc__law_rows : FnScope N__law_rows ["goes"] (defScope s__law_rows) := ⟨rfl, rfl, rfl, by decide +kernel, rfl, by decide +kernel, by decide +kernel⟩
abbrev s__law_alike : Stmt := topS 82
abbrev N__law_alike : List Str := ["found", "due", "k"]
theorem sc__law_alike : FnScope N__law_alike ["found", "due"] (defScope s__law_alike) := ⟨rfl, rfl, rfl, by decide +kernel, rfl, by decide +kernel, by decide +kernel⟩
abbrev s__law_turned_row : Stmt := topS 83
abbrev N__law_turned_row : List Str := ["row", "cell", "at", "way", "found"]
theorem sc__law_turned_row : FnScope N__law_turned_row ["row", "cell"] (defScope s__law_turned_row) := ⟨rfl, rfl, rfl, by decide +kernel, rfl, by decide +kernel, by decide +kernel⟩
abbrev s__law_forged : Stmt := topS 84
abbrev N__law_forged : List Str := ["due", "cell", "rows", "at", "more", "way", "first", "start", "many", "upto", "behind", "other"]
theorem sc__law_forged : FnScope N__law_forged ["due", "cell"] (defScope s__law_forged) := ⟨rfl, rfl, rfl, by decide +kernel, rfl, by decide +kernel, by decide +kernel⟩
abbrev s__law_refused : Stmt := topS 85
abbrev N__law_refused : List Str := ["one", "other", "thing", "e"]
theorem sc__law_refused : FnScope N__law_refused ["one", "other", "thing"] (defScope s__law_refused) := ⟨rfl, rfl, rfl, by decide +kernel, rfl, by decide +kernel, by decide +kernel⟩
abbrev s_law : Stmt := topS 86
abbrev N_law : List Str := ["script", "books", "first", "others", "second", "turn", "one", "other", "due", "cell", "handed", "kept", "behind", "thing"]
theorem sc_law : FnScope N_law ["script"] (defScope s_law) := ⟨rfl, rfl, rfl, by decide +kernel, rfl, by decide +kernel, by decide +kernel⟩
/-- what the top leaves: names that are not its own, constants -/
structure Txt (K : PySem.W.Frag) (mg : Str → Option Value) : Prop where
  b_LookupError : mg "LookupError" = none
  b_ValueError : mg "ValueError" = none
  b_abs : mg "abs" = none
  b_all : mg "all" = none
  b_any : mg "any" = none
  b_bool : mg "bool" = none
  b_enumerate : mg "enumerate" = none
  b_int : mg "int" = none
  b_isinstance : mg "isinstance" = none
  b_len : mg "len" = none
  b_list : mg "list" = none
  b_max : mg "max" = none
  b_range : mg "range" = none
  b_sorted : mg "sorted" = none
  b_str : mg "str" = none
  b_sum : mg "sum" = none
  b_tuple : mg "tuple" = none
  g_LAST_LINE : ∃ u, mg "LAST_LINE" = some u ∧ RelV (.int 9999) u
  g_LONGEST_NAME : ∃ u, mg "LONGEST_NAME" = some u ∧ RelV (.int 6) u
  g_MOST_BOOKS : ∃ u, mg "MOST_BOOKS" = some u ∧ RelV (.int 6) u
  g_MOST_BOOK_CHAPTERS : ∃ u, mg "MOST_BOOK_CHAPTERS" = some u ∧ RelV (.int 12) u
  g_MOST_CHAPTERS : ∃ u, mg "MOST_CHAPTERS" = some u ∧ RelV (.int 40) u
  g_MOST_PAIRS_editions : ∃ u, mg "MOST_PAIRS_editions" = some u ∧ RelV (.int 400) u
  g_MOST_PAIRS_places : ∃ u, mg "MOST_PAIRS_places" = some u ∧ RelV (.int 400) u
  g_MOST_PARTS : ∃ u, mg "MOST_PARTS" = some u ∧ RelV (.int 400) u
  g_MOST_VERSES : ∃ u, mg "MOST_VERSES" = some u ∧ RelV (.int 30) u
  g_MOST_VERSE_PARTS : ∃ u, mg "MOST_VERSE_PARTS" = some u ∧ RelV (.int 4) u
  g_SMALL_LETTERS : ∃ u, mg "SMALL_LETTERS" = some u ∧ RelV (.str "abcdefghijklmnopqrstuvwxyz") u
end My
set_option Elab.async false
set_option linter.all false
set_option maxRecDepth 100000
set_option maxHeartbeats 4000000
/-! B7: new lists of data that are made without any draw; rows of rows. -/
namespace My
open PySem PySem.Spec PyProof.Rows L2
theorem Occ.plus {S : Av} {H : Hp} {D : Addr} {o : HO} (h : Occ S H) (e : H D = some o) : Occ (Plus S D) H := fun b z => z.elim (h b) fun q => by
  rw [q, e]
  exact fun z => nomatch z
theorem Same.fresh {H H' : Hp} {D : Addr} (s : Same H H') (h : H' D = none) : H D = none := by
  cases e : H D with
  | none => rfl
  | some o =>
    have := s D o e
    rw [h] at this
    cases this
/-- a new list at D holds the data ds so far -/
structure LcS (S : Av) (H : Hp) (D : Addr) (xs : List V) (ds : List PyData) (H' : Hp) : Prop where
  fr : H D = none
  s : Same H H'
  at_ : H' D = some (.lst xs)
  a : AtAll (Plus S D) H' xs ds
theorem LcS.start {S : Av} {H : Hp} {D : Addr} (hD : H D = none) : LcS S H D [] [] (upd H D (.lst [])) := ⟨hD, same_new hD, upd_same, .nil⟩
theorem LcS.keep {S : Av} {H H1 H2 : Hp} {D : Addr} {xs : List V} {ds : List PyData} (c : LcS S H D xs ds H1) (k : Same H1 H2) : LcS S H D xs ds H2 := ⟨c.fr, c.s.trans k, k _ _ c.at_, AtAll.same c.a k⟩
theorem LcS.step {S : Av} {H H1 : Hp} {D : Addr} {xs : List V} {ds : List PyData} {y : V} {d : PyData} (c : LcS S H D xs ds H1) (hy : At (Plus S D) H1 y d) : LcS S H D (xs ++ [y]) (ds ++ [d]) (upd H1 D (.lst (xs ++ [y]))) := by
  have U : BtS (Plus S D) H1 (upd H1 D (.lst (xs ++ [y]))) := BtS.upd (.inr rfl)
  refine ⟨c.fr, fun b o e => ?_, upd_same, AtAll.bt U _ _ (c.a.app (.cons hy .nil))⟩
  rw [upd_ne (ne_of_none e c.fr)]
  exact c.s b o e
theorem LcS.occ {S : Av} {H H1 : Hp} {D : Addr} {xs : List V} {ds : List PyData} (c : LcS S H D xs ds H1) (o : Occ S H) : Occ (Plus S D) H1 := (o.same c.s).plus c.at_
theorem LcS.done {S : Av} {H H1 : Hp} {D : Addr} {xs : List V} {ds : List PyData} (c : LcS S H D xs ds H1) : AtAll S H1 xs ds := AtAll.weak (fun _ z => .inl z) _ _ c.a
theorem LcS.len {S : Av} {H H1 : Hp} {D : Addr} {xs : List V} {ds : List PyData} (c : LcS S H D xs ds H1) : xs.length = ds.length := c.a.len
/-- a chapter handed in: a row of whole numbers -/
def ChIn (S : Av) (H : Hp) (v : V) (c : List Int) : Prop := ∃ a, v = .ref a ∧ ¬ S a ∧ Rw H a (c.map V.int)
theorem ChIn.same {S : Av} {H H' : Hp} {v : V} {c : List Int} (h : ChIn S H v c) (s : Same H H') : ChIn S H' v c := by
  obtain ⟨a, e, n, r⟩ := h
  exact ⟨a, e, n, r.same s⟩
theorem ChIn.plus {S : Av} {H : Hp} {v : V} {c : List Int} {D : Addr} (h : ChIn S H v c) (f : ∀ xs, H D ≠ some (.lst xs) ∨ True) (g : H D = none) : ChIn (Plus S D) H v c := by
  obtain ⟨a, e, n, r⟩ := h
  refine ⟨a, e, fun z => z.elim n fun q => ?_, r⟩
  rcases r with r | r
  · rw [q, g] at r
    cases r
  · rw [q, g] at r
    cases r
/-- all chapters of a book handed in -/
def ChsIn (S : Av) (H : Hp) (xs : List V) (C : List (List Int)) : Prop := xs.length = C.length ∧ ∀ (i : Nat) (x : V) (c : List Int), xs[i]? = some x → C[i]? = some c → ChIn S H x c
theorem ChsIn.same {S : Av} {H H' : Hp} {xs : List V} {C : List (List Int)} (h : ChsIn S H xs C) (s : Same H H') : ChsIn S H' xs C := ⟨h.1, fun i x c e f => (h.2 i x c e f).same s⟩
/-- a book handed in -/
def BkIn (S : Av) (H : Hp) (v : V) (nm : List Nat) (C : List (List Int)) : Prop := ∃ a c xs, v = .ref a ∧ H a = some (.tup [.str (SX.S nm), .ref c]) ∧ Rw H c xs ∧ ChsIn S H xs C
theorem BkIn.same {S : Av} {H H' : Hp} {v : V} {nm : List Nat} {C : List (List Int)} (h : BkIn S H v nm C) (s : Same H H') : BkIn S H' v nm C := by
  obtain ⟨a, c, xs, e, f, r, k⟩ := h
  exact ⟨a, c, xs, e, s _ _ f, r.same s, k.same s⟩
def chD (c : List Int) : PyData := .tuple (c.map .int)
def chsD (C : List (List Int)) : PyData := .tuple (C.map chD)
def bkD (b : List Nat × List (List Int)) : PyData := .tuple [.str (SX.S b.1), chsD b.2]
def bksD (B : List (List Nat × List (List Int))) : PyData := .tuple (B.map bkD)
theorem ChIn.plusN {S : Av} {H : Hp} {v : V} {c : List Int} {D : Addr} (h : ChIn S H v c) (g : H D = none) : ChIn (Plus S D) H v c := h.plus (fun _ => .inr trivial) g
theorem ChsIn.plusN {S : Av} {H : Hp} {xs : List V} {C : List (List Int)} {D : Addr} (h : ChsIn S H xs C) (g : H D = none) : ChsIn (Plus S D) H xs C := ⟨h.1, fun i x c e f => (h.2 i x c e f).plusN g⟩
theorem BkIn.plusN {S : Av} {H : Hp} {v : V} {nm : List Nat} {C : List (List Int)} {D : Addr} (h : BkIn S H v nm C) (g : H D = none) : BkIn (Plus S D) H v nm C := by
  obtain ⟨a, c, xs, e, f, r, k⟩ := h
  exact ⟨a, c, xs, e, f, r, k.plusN g⟩
end My
namespace My
open PySem PySem.Spec PyProof.Rows L2
theorem AtAll.ints_inv {S : Av} {H : Hp} : ∀ (ns : List Int) (vs : List V), AtAll S H vs (ns.map .int) → vs = ns.map .int
  | [], _, h => by
    cases h
    rfl
  | n :: r, _, h => by
    cases h with
    | cons h1 h2 =>
      cases h1
      rw [AtAll.ints_inv r _ h2]
      rfl
theorem At.ch {S : Av} {H : Hp} {v : V} {c : List Int} (h : At S H v (chD c)) : ∃ a, v = .ref a ∧ ¬ S a ∧ H a = some (.tup (c.map V.int)) := by
  cases h with
  | tup n e k => exact ⟨_, rfl, n, by rw [e, AtAll.ints_inv _ _ k]⟩
theorem At.bk {S : Av} {H : Hp} {v : V} {b : List Nat × List (List Int)} (h : At S H v (bkD b)) : ∃ a c zs, v = .ref a ∧ ¬ S a ∧ H a = some (.tup [.str (SX.S b.1), .ref c]) ∧ ¬ S c ∧ H c = some (.tup zs) ∧ AtAll S H zs (b.2.map chD) := by
  cases h with
  | tup n e k =>
    cases k with
    | cons h1 k2 =>
      cases k2 with
      | cons h2 k3 =>
        cases k3
        cases h1
        cases h2 with
        | tup n2 e2 k4 => exact ⟨_, _, _, rfl, n, e, n2, e2, k4⟩
/-- the i-th of data that is told by a map -/
theorem AtAll.at_ {α : Type} {S : Av} {H : Hp} {xs : List V} {B : List α} {f : α → PyData} (h : AtAll S H xs (B.map f)) {i : Nat} {x : V} (e : xs[i]? = some x) : ∃ b, B[i]? = some b ∧ At S H x (f b) := by
  obtain ⟨d, h1, h2⟩ := AtAll.get h e
  rw [List.getElem?_map] at h1
  cases q : B[i]? with
  | none =>
    rw [q] at h1
    cases h1
  | some b =>
    rw [q] at h1
    cases h1
    exact ⟨b, rfl, h2⟩
end My
namespace My
open PySem PySem.Spec PyProof.Rows L2
theorem LcS.put {S : Av} {H H1 : Hp} {D : Addr} {xs ys : List V} {ds es : List PyData} (c : LcS S H D xs ds H1) (hy : AtAll (Plus S D) H1 ys es) : LcS S H D ys es (upd H1 D (.lst ys)) := by
  have U : BtS (Plus S D) H1 (upd H1 D (.lst ys)) := BtS.upd (.inr rfl)
  refine ⟨c.fr, fun b o e => ?_, upd_same, AtAll.bt U _ _ hy⟩
  rw [upd_ne (ne_of_none e c.fr)]
  exact c.s b o e
end My
set_option Elab.async false
set_option linter.all false
set_option maxRecDepth 100000
set_option maxHeartbeats 4000000
/-! B8: a comprehension of two for. -/
namespace My
open PySem PySem.Spec PyProof.Rows L2
/-- the inner walk of one turn of the outer one -/
def Turn1 (J1 : It) (g1 : TG) (tt1 : TT) (te : TE) (σ2 : L2.St) (vs1 : List Nat) (D : Addr) (Nx : Hp → Prop) (H4 : Hp) : Prop := ∃ W1 : Nat → Nat → Hp → Prop, (∃ m, W1 0 m H4) ∧ ∀ j k H, W1 j k H →
  (J1.stop j H ∧ Nx H) ∨ (J1.go j H ∧ ∃ Nx1 : Hp → Prop, (∀ H', Nx1 H' → ∃ k', k' < k ∧ W1 (j + 1) k' H') ∧ ∀ x H', J1.yld j H x H' → g1 x (wipe σ2 vs1) H' fun σ3 H5 => wipe σ3 vs1 = wipe σ2 vs1 ∧ tt1 σ3 H5 fun b H6 =>
    if b = true then te σ3 H6 fun y H7 => ∃ acc, H7 D = some (.lst acc) ∧ acc.length < sizeLine ∧ Nx1 (upd H7 D (.lst (acc ++ [y]))) else Nx1 H6)
theorem turn1_it {J1 : It} {n : Nat} {G : Hp → Prop} {Y : Nat → Hp → V → Hp → Prop} (w : Walk J1 n G Y) {g1 : TG} {tt1 : TT} {te : TE} {σ2 : L2.St} {vs1 : List Nat} {D : Addr} {Nx : Hp → Prop} {H4 : Hp} (Pi : Nat → Hp → Prop) (h0 : Pi 0 H4) (hG : ∀ i H, i ≤ n → Pi i H → G H)
    (hs : ∀ j x H H', j < n → Pi j H → Y j H x H' → g1 x (wipe σ2 vs1) H' fun σ3 H5 => wipe σ3 vs1 = wipe σ2 vs1 ∧ tt1 σ3 H5 fun b H6 =>
      if b = true then te σ3 H6 fun y H7 => ∃ acc, H7 D = some (.lst acc) ∧ acc.length < sizeLine ∧ Pi (j + 1) (upd H7 D (.lst (acc ++ [y]))) else Pi (j + 1) H6) (hd : ∀ H, Pi n H → Nx H) : Turn1 J1 g1 tt1 te σ2 vs1 D Nx H4 := by
  refine ⟨fun i m H => m = n - i ∧ i ≤ n ∧ Pi i H, ⟨n, by simp, Nat.zero_le _, h0⟩, ?_⟩
  rintro i m H ⟨rfl, hi, p⟩
  have q := hG i H hi p
  by_cases hlt : i < n
  · exact .inr ⟨w.goes i H hlt q, Pi (i + 1), fun H' p' => ⟨n - (i + 1), by omega, rfl, hlt, p'⟩, fun x H' y => hs i x H H' hlt p (w.yields i H x H' hlt q y)⟩
  · have e : i = n := by omega
    subst e
    exact .inl ⟨w.stops H q, hd H p⟩
theorem lc2_it {J : It} {n : Nat} {G : Hp → Prop} {Y : Nat → Hp → V → Hp → Prop} (w : Walk J n G Y) {wi1 : TI} {g g1 : TG} {tt tt1 : TT} {te : TE} {vs vs1 : List Nat} {σ : L2.St} {H1 : Hp} {D : Addr} {Qd : Hp → Prop} (Pv : Nat → Hp → Prop) (h0 : Pv 0 (upd H1 D (.lst []))) (hG : ∀ i H, i ≤ n → Pv i H → G H)
    (hs : ∀ i x H H', i < n → Pv i H → Y i H x H' → g x (wipe σ vs) H' fun σ2 H2 => wipe σ2 vs = wipe σ vs ∧ tt σ2 H2 fun b H3 => if b = true then wi1 σ2 H3 fun J1 H4 => Turn1 J1 g1 tt1 te σ2 vs1 D (Pv (i + 1)) H4 else Pv (i + 1) H3) (hd : ∀ H, Pv n H → Qd H) :
    ∃ W : Nat → Nat → Hp → Prop, (∃ m, W 0 m (upd H1 D (.lst []))) ∧ ∀ i m H, W i m H →
      (J.stop i H ∧ Qd H) ∨ (J.go i H ∧ ∃ Nx : Hp → Prop, (∀ H', Nx H' → ∃ m', m' < m ∧ W (i + 1) m' H') ∧ ∀ x H', J.yld i H x H' → g x (wipe σ vs) H' fun σ2 H2 => wipe σ2 vs = wipe σ vs ∧ tt σ2 H2 fun b H3 =>
        if b = true then wi1 σ2 H3 fun J1 H4 => Turn1 J1 g1 tt1 te σ2 vs1 D Nx H4 else Nx H3) := by
  refine ⟨fun i m H => m = n - i ∧ i ≤ n ∧ Pv i H, ⟨n, by simp, Nat.zero_le _, h0⟩, ?_⟩
  rintro i m H ⟨rfl, hi, p⟩
  have q := hG i H hi p
  by_cases hlt : i < n
  · exact .inr ⟨w.goes i H hlt q, Pv (i + 1), fun H' p' => ⟨n - (i + 1), by omega, rfl, hlt, p'⟩, fun x H' y => hs i x H H' hlt p (w.yields i H x H' hlt q y)⟩
  · have e : i = n := by omega
    subst e
    exact .inl ⟨w.stops H q, hd H p⟩
end My
namespace My
open PySem PySem.Spec PyProof.Rows L2
section
variable {X : Cx} {K : PySem.W.Frag}
theorem pg_tupK {es : List Expr} {k : Nat} {pos : Pos} {t : TGs} {n : Nat} (e : X.K = K) (hc : X.calm = true) (h : PGs X es t)
    (hn : (assignEach es X.env).length = n := by rfl) (hst : (assignEach es X.env).findIdx? (·.1) = none := by rfl) : PG X (.Tuple es k pos) (gTup K n t) := e ▸ pg_tup hc h hn hst
theorem cr_sumTK (h : X.K = K) (hc : X.calm = true) : CallR X (.builtin "sum") (rSumT K) := h ▸ cr_sumT hc
theorem pi_tupK {tg l : Expr} {tl : TE} (h : X.K = K) (hl : PE X l tl) : PI X tg l (iTup K tl) := h ▸ pi_tup hl
theorem pi_listK {tg l : Expr} {tl : TE} (h : X.K = K) (hl : PE X l tl) : PI X tg l (iList K tl) := h ▸ pi_list hl
end
end My
set_option Elab.async false
set_option linter.all false
set_option maxRecDepth 100000
set_option maxHeartbeats 4000000
/-! B9: dict comprehensions over any walk. -/
namespace My
open PySem PySem.Spec PyProof.Rows L2
theorem dc_it {J : It} {n : Nat} {G : Hp → Prop} {Y : Nat → Hp → V → Hp → Prop} (w : Walk J n G Y) {g : TG} {tt : TT} {tk tv : TE} {vs : List Nat} {σ : L2.St} {H1 : Hp} {D : Addr} {Qd : Hp → Prop} (Pv : Nat → Hp → Prop) (h0 : Pv 0 (upd H1 D (.dK []))) (hG : ∀ i H, i ≤ n → Pv i H → G H)
    (hs : ∀ i x H H', i < n → Pv i H → Y i H x H' → g x (wipe σ vs) H' fun σ2 H2 => wipe σ2 vs = wipe σ vs ∧ tt σ2 H2 fun b H3 =>
      if b = true then tk σ2 H3 fun y H4 => tv σ2 H4 fun z H5 => ∃ kvs k, y = kV k ∧ H5 D = some (.dK kvs) ∧ kvs.length < sizeLine ∧ Pv (i + 1) (upd H5 D (.dK (putK kvs k z))) else Pv (i + 1) H3) (hd : ∀ H, Pv n H → Qd H) :
    ∃ W : Nat → Nat → Hp → Prop, (∃ m, W 0 m (upd H1 D (.dK []))) ∧ ∀ i m H, W i m H →
      (J.stop i H ∧ Qd H) ∨ (J.go i H ∧ ∃ Nx : Hp → Prop, (∀ H', Nx H' → ∃ m', m' < m ∧ W (i + 1) m' H') ∧ ∀ x H', J.yld i H x H' → g x (wipe σ vs) H' fun σ2 H2 => wipe σ2 vs = wipe σ vs ∧ tt σ2 H2 fun b H3 =>
        if b = true then tk σ2 H3 fun y H4 => tv σ2 H4 fun z H5 => ∃ kvs k, y = kV k ∧ H5 D = some (.dK kvs) ∧ kvs.length < sizeLine ∧ Nx (upd H5 D (.dK (putK kvs k z))) else Nx H3) := by
  refine ⟨fun i m H => m = n - i ∧ i ≤ n ∧ Pv i H, ⟨n, by simp, Nat.zero_le _, h0⟩, ?_⟩
  rintro i m H ⟨rfl, hi, p⟩
  have q := hG i H hi p
  by_cases hlt : i < n
  · exact .inr ⟨w.goes i H hlt q, Pv (i + 1), fun H' p' => ⟨n - (i + 1), by omega, rfl, hlt, p'⟩, fun x H' y => hs i x H H' hlt p (w.yields i H x H' hlt q y)⟩
  · have e : i = n := by omega
    subst e
    exact .inl ⟨w.stops H q, hd H p⟩
theorem Occ.upd {S : Av} {H : Hp} {a : Addr} {o : HO} (h : Occ S H) : Occ S (upd H a o) := fun b z e => by
  by_cases q : b = a
  · rw [q, upd_same] at e
    cases e
  · rw [upd_ne q] at e
    exact h b z e
theorem val_no {κ : Type} [DecidableEq κ] {kvs : List (κ × V)} {k : κ} (h : k ∉ kvs.map (·.1)) : valV kvs k = none := by
  unfold valV
  have e : kvs.find? (fun kv => decide (kv.1 = k)) = none := by
    rw [List.find?_eq_none]
    intro kv hk hd
    exact h (List.mem_map.mpr ⟨kv, hk, of_decide_eq_true hd⟩)
  rw [e]
  rfl
theorem nodup_take_not {α : Type} {l : List α} (h : l.Nodup) {i : Nat} {x : α} (e : l[i]? = some x) : x ∉ l.take i := fun z => by
  obtain ⟨j, hj, q⟩ := List.mem_iff_getElem.mp z
  rw [List.length_take] at hj
  rw [List.getElem_take] at q
  have hi : i < l.length := (List.getElem?_eq_some_iff.mp e).1
  have h2 : l[j]? = some x := by rw [List.getElem?_eq_getElem (by omega), q]
  have := (List.getElem?_inj (i := j) (by omega) h).mp (h2.trans e.symm)
  omega
end My
namespace My
open PySem PySem.Spec PyProof.Rows L2
mutual
theorem At.more {p q : Av} {H : Hp} (W : ∀ b, H b ≠ none → q b → p b) : ∀ (d : PyData) (v : V), At p H v d → At q H v d
  | .none, _, h => by cases h; exact .non
  | .bool _, _, h => by cases h; exact .bl _
  | .int _, _, h => by cases h; exact .int _
  | .str _, _, h => by cases h; exact .str _
  | .list ds, _, h => by
    cases h with
    | lst n e k => exact .lst (fun z => n (W _ (by rw [e]; exact fun z => nomatch z) z)) e (AtAll.more W ds _ k)
  | .tuple ds, _, h => by
    cases h with
    | tup n e k => exact .tup (fun z => n (W _ (by rw [e]; exact fun z => nomatch z) z)) e (AtAll.more W ds _ k)
  | .dict _, _, h => by cases h
theorem AtAll.more {p q : Av} {H : Hp} (W : ∀ b, H b ≠ none → q b → p b) : ∀ (ds : List PyData) (vs : List V), AtAll p H vs ds → AtAll q H vs ds
  | [], _, h => by cases h; exact .nil
  | d :: ds, _, h => by
    cases h with
    | cons h1 h2 => exact .cons (At.more W d _ h1) (AtAll.more W ds _ h2)
end
theorem At.plusN {S : Av} {H : Hp} {v : V} {d : PyData} {D : Addr} (h : At S H v d) (g : H D = none) : At (Plus S D) H v d := At.more (fun b n z => z.elim id fun q => absurd (q ▸ g) n) _ _ h
theorem AtAll.plusN {S : Av} {H : Hp} {v : List V} {d : List PyData} {D : Addr} (h : AtAll S H v d) (g : H D = none) : AtAll (Plus S D) H v d := AtAll.more (fun b n z => z.elim id fun q => absurd (q ▸ g) n) _ _ h
end My
set_option Elab.async false
set_option linter.all false
set_option maxRecDepth 100000
set_option maxHeartbeats 4000000
/-! B10: a def with defaults, all arguments given. -/
namespace My
open PySem PySem.Spec PyProof.Rows L2
section
variable {P : Program} {w : World} {K : PySem.W.Frag} {mg : Str → Option Value} {base : Heap}
theorem funD_ok0 {x qual : Str} {st : Stmt} {dvs : List V} {kws : List (Str × V)} {f : Addr} {fd : FuncData} {N ps : List Str} {k : Nat} {sp : Sp} (F : FunD K x qual (defArgs st) (defBody st) (defScope st) dvs kws f fd) (S : FnScope N ps (defScope st)) (len : ∀ vs H Q E, sp vs H Q E → vs.length = ps.length)
    (hbody : ∀ (cdv : Value) (A : Around) (outer : List Env) (s : Shared) (H : Hp) (vs : List V) (Q : VK) (E : XK), Room k (A.deeper (envOfC qual (defScope st) s.heap.objs.size f cdv)) → sp vs H Q E →
      ∃ t, PSs (cxOf CX0 P w K mg base N qual (defScope st) f cdv A outer s H E).nox (defBody st) t ∧ t { nx := fun _ H' => Q .non H', rt := Q } (start N vs) H) : FnOk P w K mg base CX0 (k + 1) f fd ps sp := by
  refine F.ok S len fun cdv A outer s H vs Q E hr hsp => ?_
  obtain ⟨t, h, q⟩ := hbody cdv A outer s H vs Q E hr hsp
  exact ⟨t, h.nox, q⟩
theorem bindsD_all {fd : FuncData} {ps : List Str} {T : Addr} {o : Obj} {its : Array Value} {n : Nat} (lT : K.lookup T = some o) (oT : o.data = .seq its n)
    (h : ∀ us : List Value, us.length = ps.length → ∃ k : Option (Array Value) → Sem (List (Str × Value)), bindArgs fd ⟨us, []⟩ = seqItems? (.ref T) >>= k ∧ k (some its) = pure (ps.zip us)) : Binds K fd ps [] := by
  intro s us X hl
  rw [List.append_nil] at hl ⊢
  obtain ⟨k, e1, e2⟩ := h us hl
  refine BindsTo.of_looks fun M => ?_
  rw [e1]
  exact looks_items X lT oT (PySem.W.Looks.of_pure e2)
end
end My
namespace My
open PySem PySem.Spec PyProof.Rows L2
section
variable {X : Cx} {K : PySem.W.Frag}
theorem pe_fldK {e : Expr} {f : Str} {pos : Pos} {ta : TE} (h : X.K = K) (he : PE X e ta) (hb : attributeBase e f X.env (eval e X.env) = eval e X.env) : PE X (.Attribute e f pos) (tFld K ta f) := h ▸ pe_fld he hb
end
end My
set_option Elab.async false
set_option linter.all false
set_option maxRecDepth 100000
set_option maxHeartbeats 4000000
/-! X1: own exceptions raised by what is called, and caught: several clauses, each perhaps with a name. -/
namespace My
open PySem PySem.Spec PyProof.Rows L2
/-! ### what follows may be weakened -/
def tUp (te : TE) : TE := fun σ H Q => ∃ R : VK, te σ H R ∧ ∀ v H1, R v H1 → Q v H1
theorem pe_up {X : Cx} {e : Expr} {te : TE} (h : PE X e te) : PE X e (tUp te) := ⟨fun pins s σ H Q I q => by
  obtain ⟨R, h1, h2⟩ := q
  exact thn (h.run pins s σ H R I h1) fun v s1 ⟨x, H1, I1, r1, q1⟩ => ⟨x, H1, I1, r1, h2 _ _ q1⟩⟩
/-! ### clauses -/
abbrev Cls1 := Value × Option Nat × (Addr → Value → Option Addr → TS)
def wManyA (K : PySem.W.Frag) (Wout : WX) (D : Ends) : List Cls1 → WX
  | [] => Wout
  | (c, none, ts) :: r => fun cls d σ H => ∃ b, PySem.W.exmOne K cls c = some b ∧ (b = true → ∀ a, H a = none → ts a cls d D σ H) ∧ (b = false → wManyA K Wout D r cls d σ H)
  | (c, some i, ts) :: r => fun cls d σ H => ∃ b, PySem.W.exmOne K cls c = some b ∧ (b = true → ∀ a, H a = none → ts a cls d { nx := fun σ' H' => D.nx (σ'.set i none) H', rt := D.rt, bk := fun σ' H' => D.bk (σ'.set i none) H', ct := fun σ' H' => D.ct (σ'.set i none) H' } (σ.set i (some (.ref a))) H) ∧ (b = false → wManyA K Wout D r cls d σ H)
inductive HdsA (X : Cx) : List ExceptHandler → List Cls1 → Prop
  | nil : HdsA X [] []
  | one {x : Str} {c : Value} {ts : Addr → Value → Option Addr → TS} {b₀ : Stmt} {suite : List Stmt} {np pos' : Pos} {hds : List ExceptHandler} {l : List Cls1} (hc : Names X x c)
      (hsu : ∀ (a : Addr) (oe : Obj) (cls : Value) (d : Option Addr) (pn : List (Addr × Obj)), Zc cls d oe → (∃ vs, oe.data = .fields vs) → PSs (X.suite a ((a, oe) :: pn)) (b₀ :: suite) (ts a cls d)) (r : HdsA X hds l) :
      HdsA X (.ExceptHandler (some (.Name x np)) none (b₀ :: suite) pos' :: hds) ((c, none, ts) :: l)
  | as_ {x n : Str} {i : Nat} {c : Value} {ts : Addr → Value → Option Addr → TS} {b₀ : Stmt} {suite : List Stmt} {np pos' : Pos} {hds : List ExceptHandler} {l : List Cls1} (hN : X.N.Nodup) (hi : X.N[i]? = some n) (hln : X.env.kindOf n = some .local) (hc : Names X x c)
      (hsu : ∀ (a : Addr) (oe : Obj) (cls : Value) (d : Option Addr) (pn : List (Addr × Obj)), Zc cls d oe → (∃ vs, oe.data = .fields vs) → PSs (X.suite a ((a, oe) :: pn)) (b₀ :: suite) (ts a cls d)) (r : HdsA X hds l) :
      HdsA X (.ExceptHandler (some (.Name x np)) (some n) (b₀ :: suite) pos' :: hds) ((c, some i, ts) :: l)
section
variable {X : Cx} {body : List Stmt} {h₀ : ExceptHandler} {hds : List ExceptHandler} {l : List Cls1} {pos : Pos} {tb : WX → TS} {Wout : WX}
theorem ps_try_A (hs : X.stack = X.env :: X.outer) (hf : X.env.frame = some X.env.locals) (tk : Takes X Wout)
    (hb : ∀ (W : WX) (pn : List (Addr × Obj)) (xe : Value → Shared → Prop), Takes (X.tr pn xe) W → PassesOwn (model X.prog X.w) X.A X.env xe → PSs (X.tr pn xe) body (tb W))
    (hh : HdsA X (h₀ :: hds) l) : PS X (.Try body (h₀ :: hds) [] [] pos) (fun D σ H => tb (wManyA X.K Wout D l) D σ H) := by
  refine ⟨fun pins s σ H D I h => ?_⟩
  have ok := I.ok
  have hfr : X.A.frames = some (X.env :: X.outer) := by rw [ok.frames, hs]
  refine wpAny_Try_except ?_
  refine wpAny_mono ((hb (wManyA X.K Wout D l) (X.pn ++ pins) (fun e s₁ => wpAny (model X.prog X.w) X.A (noteFrame e X.env) (fun _ s₂ => wpAny (model X.prog X.w) X.A (setFlight e none) (fun _ s₃ =>
    wpAny (model X.prog X.w) X.A (handleBy e X.env (h₀ :: hds)) (SP X pins D) X.xe s₃) X.xe s₂) X.xe s₁) (fun u s' xx => ?_) PassesOwn.looking).run [] s σ H D (I.toTry _) h) (fun f s1 hsp => ?_) (fun e s1 he => he)
  · -- the catch
    obtain ⟨a, B, sI, pins', σ', H', cls, d, rfl, J', nb, up, sky, na, os, ag, w⟩ := xx
    have J : Inv X pins σ' H' sI := J'.ofTry ok
    have sky' : Sky B (X.env :: X.outer) a (Zc cls d) X.env.locals s'.heap := by rw [← hs]; exact sky
    show wpAny (model X.prog X.w) X.A (noteFrame (.ref a) X.env) _ _ _
    refine Sky.land Zc.steady hfr hf sky' fun h3 fl3 up3 => ?_
    have J3 : Inv X pins σ' H' { s' with heap := h3 } := J.landed nb fl3.1 (up.trans up3) os ag
    obtain ⟨oe3, vs3, he3, hz3, hd3⟩ := fl3.there
    have notFr : ∀ {h : Heap} {o : Obj} {vs : Array Value}, h.FunFrames B (X.env :: X.outer) → h.get? a = some o → o.data = .fields vs → a ∉ frs (X.env :: X.outer) := fun {h o vs} ff e dd hm => by
      obtain ⟨_, o', e', hnf⟩ := ff.mem hm
      rw [e] at e'; cases e'
      exact hnf _ dd
    have nfr := notFr fl3.2.2.1 he3 hd3
    have nL : a ≠ X.env.locals := fun z => nfr (List.mem_filterMap.mpr ⟨X.env, List.mem_cons_self, by rw [hf, z]⟩)
    have nF : a ∉ X.fs := fun hm => by
      obtain ⟨e, he, q⟩ := List.mem_filterMap.mp hm
      exact nfr (List.mem_filterMap.mpr ⟨e, List.mem_cons_of_mem _ he, q⟩)
    have S3 := J3.suite he3 hd3 na nL nF
    have test : ∀ {x : Str} {c : Value} {np : Pos}, Names X x c → ∀ {Q : Value → Shared → Prop} {E : Value → Shared → Prop}, Q c { s' with heap := h3 } → wpAny (model X.prog X.w) (X.A.mark (some (.ref a))) (eval (.Name x np) X.env) Q E { s' with heap := h3 } := fun {x c np} hc {Q E} q => by
      obtain ⟨hg, hdbg, hm | ⟨hm, hv, hnn⟩⟩ := hc
      · exact ld_glob (X := X.suite a ((a, oe3) :: (X.pn ++ pins))) S3 hg hm q hdbg
      · exact ld_blt (X := X.suite a ((a, oe3) :: (X.pn ++ pins))) S3 hg hm hv q hnn hdbg
    have go : ∀ {hds' : List ExceptHandler} {l' : List Cls1}, HdsA X hds' l' → wManyA X.K Wout D l' cls d σ' H' →
        wpAny (model X.prog X.w) X.A (handleBy (.ref a) X.env hds') (SP X pins D) X.xe { s' with heap := h3 } := by
      intro hds' l' hk
      induction hk with
      | nil =>
        intro w
        refine wpAny_handleBy_nil ?_
        obtain ⟨k1, k2, k3, oe, vs, T, oT, ts', he, hz, hd, h1, hr⟩ := id fl3
        unfold PySem.passOn
        refine wpAny_bind (wpAny_field he hd h1 ?_)
        rw [if_neg (show ¬ ((Value.ref T == Value.none) = true) from by simp)]
        have fin : wpAny (model X.prog X.w) X.A (setFlight (.ref a) X.env.frame) (fun _ s4 => wpAny (model X.prog X.w) X.A (throw (.ref a) : Sem Flow) (SP X pins D) X.xe s4) X.xe { s' with heap := h3 } := by
          rw [hf]
          refine HandSPX.setFlight_upZ fl3 fun h4 hh4 up4 => wpAny_throw (tk _ _ ?_)
          exact ⟨a, B, sI, pins, σ', H', cls, d, rfl, J, nb, (up.trans up3).trans up4, .inr (.inr (by rw [hs]; exact hh4)), na, os, ag, w⟩
        first
          | exact wpAny_bind (wpAny_pure (wpAny_bind fin))
          | exact wpAny_bind fin
      | @one x c ts b₀ suite np pos' hds2 l2 hc hsu r ih =>
        intro w
        obtain ⟨b, hb1, hyes, hno⟩ := w
        refine wpAny_handleBy_cons (codeAny_handlers_test ?_) (by intro q; cases q)
        have LT : PySem.W.Looks (model X.prog X.w) h3 (typeOf (.ref a)) cls := fun A Q E s k q => wpAny_typeOf_ref (k _ _ he3) (by rw [hz3.1]; exact q)
        have LM := PySem.W.exm_one (M := model X.prog X.w) (J3.kIn) LT hb1
        refine test hc (LM.here ?_)
        cases b with
        | true =>
          refine codeAny_handlers_suite ?_
          refine HandSPX.lands_againZ fl3 fun h4 fl4 up4 => ?_
          have J4 : Inv X pins σ' H' { s' with heap := h4 } := J.landed nb fl4.1 ((up.trans up3).trans up4) os ag
          obtain ⟨oe4, vs4, he4, hz4, hd4⟩ := fl4.there
          have S4 := J4.suite he4 hd4 na nL nF
          refine wpAny_mono ((hsu a oe4 cls d (X.pn ++ pins) hz4 ⟨_, hd4⟩).run [] _ _ H' _ S4 (hyes rfl a na)) (fun f s6 hsp => ?_) (fun _ _ z => False.elim z)
          cases f with
          | next =>
            obtain ⟨σ6, H6, S6, q6⟩ := hsp
            exact ⟨_, _, S6.unsuite ok, q6⟩
          | brk =>
            obtain ⟨σ6, H6, S6, q6⟩ := hsp
            exact ⟨_, _, S6.unsuite ok, q6⟩
          | cont =>
            obtain ⟨σ6, H6, S6, q6⟩ := hsp
            exact ⟨_, _, S6.unsuite ok, q6⟩
          | ret u =>
            obtain ⟨v6, σ6, H6, S6, r6, q6⟩ := hsp
            exact ⟨_, _, _, S6.unsuite ok, r6, q6⟩
        | false => exact ih (hno rfl)
      | @as_ x n i c ts b₀ suite np pos' hds2 l2 hN hi hln hc hsu r ih =>
        intro w
        obtain ⟨b, hb1, hyes, hno⟩ := w
        have hloc : Loc X.env.scope n := .inl hln
        refine wpAny_handleBy_cons (codeAny_handlers_test ?_) (by intro q; cases q)
        have LT : PySem.W.Looks (model X.prog X.w) h3 (typeOf (.ref a)) cls := fun A Q E s k q => wpAny_typeOf_ref (k _ _ he3) (by rw [hz3.1]; exact q)
        have LM := PySem.W.exm_one (M := model X.prog X.w) (J3.kIn) LT hb1
        refine test hc (LM.here ?_)
        cases b with
        | true =>
          refine codeAny_handlers_suite_as ?_
          refine HandSPX.lands_againZ fl3 fun h4 fl4 up4 => ?_
          have J4 : Inv X pins σ' H' { s' with heap := h4 } := J.landed nb fl4.1 ((up.trans up3).trans up4) os ag
          obtain ⟨oe4, vs4, he4, hz4, hd4⟩ := fl4.there
          have S4 := J4.suite he4 hd4 na nL nF
          refine store_ok (X := X.suite a ((a, oe4) :: (X.pn ++ pins))) (v := .ref a) S4 hN hi hloc rfl (fun s5 S5 => ?_) (.inr hln)
          refine wpAny_mono ((hsu a oe4 cls d (X.pn ++ pins) hz4 ⟨_, hd4⟩).run [] s5 _ H' _ S5 (hyes rfl a na)) (fun f s6 hsp => ?_) (fun _ _ z => False.elim z)
          have end_ : ∀ {σ6 : L2.St} {H6 : Hp} {Q : Shared → Prop}, Inv (X.suite a ((a, oe4) :: (X.pn ++ pins))) [] σ6 H6 s6 → (∀ s7, Inv X pins (σ6.set i none) H6 s7 → Q s7) →
              wpAny (model X.prog X.w) X.A (do bindName X.env n .none; unbindBehindTheSuite X.env n pos') (fun _ s7 => Q s7) X.xe s6 := fun {σ6 H6 Q} S6 hq => gone_ok (S6.unsuite ok) hN hi hln hq
          cases f with
          | next =>
            obtain ⟨σ6, H6, S6, q6⟩ := hsp
            exact end_ S6 fun s7 J7 => ⟨_, _, J7, q6⟩
          | brk =>
            obtain ⟨σ6, H6, S6, q6⟩ := hsp
            exact end_ S6 fun s7 J7 => ⟨_, _, J7, q6⟩
          | cont =>
            obtain ⟨σ6, H6, S6, q6⟩ := hsp
            exact end_ S6 fun s7 J7 => ⟨_, _, J7, q6⟩
          | ret u =>
            obtain ⟨v6, σ6, H6, S6, r6, q6⟩ := hsp
            exact end_ S6 fun s7 J7 => ⟨_, _, _, J7, r6, q6⟩
        | false => exact ih (hno rfl)
    exact go hh w
  · cases f with
    | next =>
      obtain ⟨σ', H', J', q⟩ := hsp
      exact wpAny_execs_nil ⟨σ', H', J'.ofTry ok, q⟩
    | brk =>
      obtain ⟨σ', H', J', q⟩ := hsp
      exact ⟨σ', H', J'.ofTry ok, q⟩
    | cont =>
      obtain ⟨σ', H', J', q⟩ := hsp
      exact ⟨σ', H', J'.ofTry ok, q⟩
    | ret u =>
      obtain ⟨v, σ', H', J', r, q⟩ := hsp
      exact ⟨v, σ', H', J'.ofTry ok, r, q⟩
end
end My
set_option Elab.async false
set_option linter.all false
set_option maxRecDepth 100000
set_option maxHeartbeats 4000000
/-! X2: defs, methods and classes that may raise: called by a def that may raise, or in a try. -/
namespace My
open PySem PySem.Spec PyProof.Rows L2
def sp_base (K : PySem.W.Frag) : Sp := fun vs H Q _ => ∃ (a C : Addr) (x : V), vs = [.ref a, x] ∧ OexC K C ∧ H a = some (exo a C none) ∧ Q .non H
def sp_found (C : Addr) : Sp := fun vs H Q _ => ∃ (a : Addr) (x : V), vs = [.ref a, x] ∧ H a = some (exo a C none) ∧ ∀ dx, H dx = none → dx ≠ a → Q .non (upd (upd H dx (exd dx [("found", x)])) a (exo a C (some dx)))
/-- what the top leaves of an own class of errors that keeps what was found -/
structure ExC (K : PySem.W.Frag) (mg : Str → Option Value) (x : Str) (C fI : Addr) : Prop where
  T : OexC K C
  gC : mg x = some (.ref C)
  iC : PySem.W.findIn K (.ref C) "__init__" = some (some (.ref fI))
  tI : PySem.W.typeIn K (.ref fI) = some (.type "function")
  nF : PySem.W.findIn K (.ref C) "found" = some none
  X : XfC K C
def CxE (P : Program) (w : World) (K : PySem.W.Frag) (mg : Str → Option Value) (base : Heap) (x : Str) (C : Addr) : Prop := ∃ fI fd, ExC K mg x C fI ∧ FnOk P w K mg base CX0 3 fI fd ["self", "found"] (sp_found C) ∧ Binds K fd ["self", "found"] []
theorem pe_weak {X : Cx} {e : Expr} {te te' : TE} (h : PE X e te) (z : ∀ σ H Q, te' σ H Q → te σ H Q) : PE X e te' := ⟨fun pins s σ H Q I q => h.run pins s σ H Q I (z σ H Q q)⟩
/-- raise C(e) -/
def tRaise (C : Addr) (te : TE) (W : WX) : TS := fun _ σ H => te σ H fun v H1 => ∀ d H', Same H1 H' → H1 d = none → H' d = some (.xd [("found", v)]) → W (.ref C) (some d) σ H'
theorem ps_raiseF {X : Cx} {W : WX} {x : Str} {C : Addr} {j : Nat} {e : Expr} {te : TE} {p pos pos' : Pos} (hc : X.calm = true) (tk : Takes X W) (c : CxE X.prog X.w X.K X.mg X.base x C) (hr : Room j X.A) (hk : 4 ≤ j) (hg : Gl X x) (he : PE X e te)
    (hdb : (x == ("__debug__" : Str)) = false := by decide) (hse : starEach [e] X.env = (false, eval e X.env) :: starEach [] X.env := by rfl) (hpl : (backTo pos (starEach [] X.env)).any (·.1) = false := by rfl) :
    PS X (.Raise (some (.Call (.Name x p) [e] [] pos)) none pos') (tRaise C te W) := by
  obtain ⟨fI, fd, Z, F, b⟩ := c
  refine ⟨fun pins s σ H D I h => ?_⟩
  refine (ps_raise hc tk (pmk_oex Z.T Z.iC Z.tI F (hr.mono (by omega)) b .nil pass0 hg Z.gC (pa_cons (pe_up he) pa_nil hse) hdb hse hpl)).run pins s σ H D I ?_
  refine ⟨_, h, fun v H1 q => ?_⟩
  refine ⟨(by show 1 ≤ 1000; decide), fun a ha => ?_⟩
  refine ⟨a, v, rfl, upd_same, fun dx hdx ne => ⟨rfl, dx, [("found", v)], upd_same, ?_, ?_, ?_⟩⟩
  · rw [upd_ne ne, upd_same]
  · rw [upd_ne ne] at hdx
    exact hdx
  · rw [upd_ne ne] at hdx
    refine q dx _ (fun p o e => ?_) hdx upd_same
    rw [upd_ne (ne_of_none e hdx), del_ne (ne_of_none e ha), upd_ne (ne_of_none e ha), upd_ne (ne_of_none e hdx), upd_ne (ne_of_none e ha)]
    exact e
/-! ### promises -/
def ClX (P : Program) (w : World) (K : PySem.W.Frag) (mg : Str → Option Value) (base : Heap) (k : Nat) (x : Str) (ps : List Str) (sp : Sp) : Prop := ∃ f fd, FnOk P w K mg base (L2.CX P w) k f fd ps sp ∧ mg x = some (.ref f) ∧ PySem.W.keepIn K (.ref f) = true ∧ Binds K fd ps []
def MtX (P : Program) (w : World) (K : PySem.W.Frag) (mg : Str → Option Value) (base : Heap) (k : Nat) (C : Addr) (m : Str) (sp : Sp) : Prop := ∃ f fd ps, Cls K C ∧ Meth K C m f ∧ FnOk P w K mg base (L2.CX P w) k f fd ps sp ∧ Binds K fd ps []
def MkX (P : Program) (w : World) (K : PySem.W.Frag) (mg : Str → Option Value) (base : Heap) (k : Nat) (x : Str) (C : Addr) (sp : Sp) (dvs : List V) : Prop := ∃ f fd ps ds, Mk K C f ∧ FnOk P w K mg base (L2.CX P w) k f fd ps sp ∧ mg x = some (.ref C) ∧ Binds K fd ps ds ∧ Vals dvs ds
/-- a promise of a def that lets nothing out, where something might be let out -/
theorem FnOk.toX {P : Program} {w : World} {K : PySem.W.Frag} {mg : Str → Option Value} {base : Heap} {k : Nat} {f : Addr} {fd : FuncData} {ps : List Str} {sp : Sp} (F : FnOk P w K mg base CX0 k f fd ps sp) : FnOk P w K mg base (L2.CX P w) k f fd ps sp :=
  ⟨F.len, fun A outer s H args us vs Q E hr e0 b r h => codeAny_mono (F.run A outer s H args us vs Q E hr e0 b r h) fun r s' q => by
    cases r with
    | error e => exact False.elim q
    | ok fl => cases fl with
      | ret u => exact q
      | next => exact q
      | brk => exact q
      | cont => exact q⟩
/-- one of two promises -/
theorem FnOk.or {P : Program} {w : World} {K : PySem.W.Frag} {mg : Str → Option Value} {base : Heap} {CX : CXT} {k : Nat} {f : Addr} {fd : FuncData} {ps : List Str} {sp sp' : Sp} (F : FnOk P w K mg base CX k f fd ps sp) (G : FnOk P w K mg base CX k f fd ps sp') : FnOk P w K mg base CX k f fd ps (fun vs H Q E => sp vs H Q E ∨ sp' vs H Q E) :=
  ⟨fun vs H Q E h => h.elim (F.len vs H Q E) (G.len vs H Q E), fun A outer s H args us vs Q E hr e0 b r h => h.elim (F.run A outer s H args us vs Q E hr e0 b r) (G.run A outer s H args us vs Q E hr e0 b r)⟩
section
variable {P : Program} {w : World} {K : PySem.W.Frag} {mg : Str → Option Value} {base : Heap}
theorem okX_of {x : Str} {st : Stmt} {N ps : List Str} {k : Nat} {sp : Sp} (D : Df K mg x st ps) (S : FnScope N ps (defScope st)) (len : ∀ vs H Q E, sp vs H Q E → vs.length = ps.length)
    (hbody : ∀ (f : Addr) (cdv : Value) (A : Around) (outer : List Env) (s : Shared) (H : Hp) (vs : List V) (Q : VK) (E : XK), Room k (A.deeper (envOfC x (defScope st) s.heap.objs.size f cdv)) → sp vs H Q E →
      ∃ t, PSs (cxOf (L2.CX P w) P w K mg base N x (defScope st) f cdv A outer s H E) (defBody st) t ∧ t { nx := fun _ H' => Q .non H', rt := Q } (start N vs) H) : ClX P w K mg base (k + 1) x ps sp := by
  obtain ⟨f, fd, F, hm, b⟩ := D
  exact ⟨f, fd, F.okX S len (hbody f), hm, F.kp, b⟩
end
section
variable {X : Cx} {j k : Nat} {x m : Str} {C : Addr} {ps : List Str} {sp : Sp} {dvs : List V} {e o : Expr} {es : List Expr} {t : TA} {ta : TE} {p pos apos : Pos} {W : WX} {E : XK}
theorem pe_clX (c : ClX X.prog X.w X.K X.mg X.base k x ps sp) (hr : Room j X.A) (hk : k ≤ j) (hg : Gl X x) (tk : Takes X (fun cls d _ H => E cls d H)) (ha : PA X (e :: es) t)
    (hdb : (x == ("__debug__" : Str)) = false := by decide) (he : starEach (e :: es) X.env = (false, eval e X.env) :: starEach es X.env := by rfl) (hpl : (backTo pos (starEach es X.env)).any (·.1) = false := by rfl) :
    PE X (.Call (.Name x p) (e :: es) [] pos) (tCall sp [] E t) := by
  obtain ⟨f, fd, F, hm, kp, b⟩ := c
  exact pe_call F (hr.mono hk) hg hm kp b .nil (passes_call tk fun _ _ _ _ h => h) ha hdb he hpl
theorem pe_clS (c : ClX X.prog X.w X.K X.mg X.base k x ps sp) (hr : Room j X.A) (hk : k ≤ j) (hg : Gl X x) (tk : Takes X W) (ha : PA X (e :: es) t)
    (hdb : (x == ("__debug__" : Str)) = false := by decide) (he : starEach (e :: es) X.env = (false, eval e X.env) :: starEach es X.env := by rfl) (hpl : (backTo pos (starEach es X.env)).any (·.1) = false := by rfl) :
    PE X (.Call (.Name x p) (e :: es) [] pos) (tCallS sp (WE W) t) := by
  obtain ⟨f, fd, F, hm, kp, b⟩ := c
  exact pe_callS F (hr.mono hk) hg hm kp b (fun σ => passAt tk σ) ha hdb he hpl
def tMethS1 (C : Addr) (m : Str) (sp : Sp) (E : L2.St → XK) (ta : TE) (t : TA) : TE := fun σ H Q => ta σ H fun x H1 => ∃ a dx fs, x = .ref a ∧ H1 a = some (.ins C dx fs) ∧ fs.lookup m = none ∧ t σ H1 fun vs H2 => sp (x :: vs) H2 Q (E σ)
theorem pe_mtX {pl : Sem Bool} (c : MtX X.prog X.w X.K X.mg X.base k C m sp) (hr : Room j X.A) (hk : k ≤ j) (tk : Takes X (fun cls d _ H => E cls d H)) (he : PE X o ta) (ha : PA X (e :: es) t)
    (hst : starEach (e :: es) X.env = (false, eval e X.env) :: starEach es X.env := by rfl) (hpl : (backTo pos (starEach es X.env)).any (·.1) = false := by rfl)
    (ht : eval (.Call (.Attribute o m apos) (e :: es) [] pos) X.env = (do
      let ov ← eval o X.env
      standAt apos.atName
      let (f, first) ← holding [ov] (getMethod ov m pl)
      callWith pos f first (backTo pos (starEach (e :: es) X.env)) (backToKw pos (keywordEach [] X.env))) := by rfl) :
    PE X (.Call (.Attribute o m apos) (e :: es) [] pos) (tMeth C m sp [] E ta t) := by
  obtain ⟨f, fd, ps, c1, c2, F, b⟩ := c
  exact pe_meth (pl := pl) he c1 c2 F (hr.mono hk) b .nil (passes_call tk fun _ _ _ _ h => h) ha hst hpl ht
theorem pe_mtS {pl : Sem Bool} (c : MtX X.prog X.w X.K X.mg X.base k C m sp) (hr : Room j X.A) (hk : k ≤ j) (tk : Takes X W) (he : PE X o ta) (ha : PA X (e :: es) t)
    (hst : starEach (e :: es) X.env = (false, eval e X.env) :: starEach es X.env := by rfl) (hpl : (backTo pos (starEach es X.env)).any (·.1) = false := by rfl)
    (ht : eval (.Call (.Attribute o m apos) (e :: es) [] pos) X.env = (do
      let ov ← eval o X.env
      standAt apos.atName
      let (f, first) ← holding [ov] (getMethod ov m pl)
      callWith pos f first (backTo pos (starEach (e :: es) X.env)) (backToKw pos (keywordEach [] X.env))) := by rfl) :
    PE X (.Call (.Attribute o m apos) (e :: es) [] pos) (tMethS1 C m sp (WE W) ta t) := by
  obtain ⟨f, fd, ps, c1, hm, F, b⟩ := c
  refine ⟨fun pins s σ H Q I h => ?_⟩
  refine PySem.W.methodCall_KW (pl := pl) (thn (he.run pins s σ H _ I h) fun u s1 ⟨x, H1, I1, rx, a, dx, fs, ex, ea, l, q⟩ => ?_) ht
  subst ex
  obtain rfl : u = Value.ref a := rx
  refine getmeth_ok I1 ea c1 hm l ?_
  refine PySem.W.callWith_K (first := [.ref a]) (h₀ := X.base) I.ok.mod.kin hm.kp (thn (ha.run pos pins s1 σ H1 _ I1 q) fun us s2 ⟨vs, H2, I2, r, q2⟩ => ⟨I2.kIn, ?_⟩) hst hpl
  exact run_fnS (us := .ref a :: us) (vs := .ref a :: vs) F (hr.mono hk) b (passAt tk σ) I2 (.cons rfl r) q2
theorem run_makeS {CX : CXT} {f : Addr} {fd : FuncData} {ds : List Value} {E : L2.St → XK} {pins : List (Addr × Obj)} {σ : L2.St} {H : Hp} {s : Shared} {Q : VK} {us : List Value} {vs : List V} (M : Mk X.K C f) (F : FnOk X.prog X.w X.K X.mg X.base CX k f fd ps sp) (hr : Room (k + 1) X.A) (hb : Binds X.K fd ps ds) (hd : Vals dvs ds)
    (hx : PassesAt CX X σ (E σ)) (I : Inv X pins σ H s) (r : Vals vs us)
    (h : ∀ x dx, H x = none → H dx = none → dx ≠ x → sp (.ref x :: (vs ++ dvs)) (upd (upd H dx (.own x)) x (.ins C dx [])) (fun v H2 => v = .non ∧ Q (.ref x) H2) (E σ)) :
    wpAny (model X.prog X.w) X.A (call (.ref C) us) (EP X pins σ Q) X.xe s := by
  have hq := h (s.heap.objs.size + 1) s.heap.objs.size (I.hok.fresh (Nat.le_succ _)) (I.hok.fresh (Nat.le_refl _)) (Nat.ne_of_lt (Nat.lt_succ_self _))
  have I2 := Inv.made (C := C) I
  have r2 : Vals (V.ref (s.heap.objs.size + 1) :: (vs ++ dvs)) (Value.ref (s.heap.objs.size + 1) :: (us ++ ds)) := .cons rfl (r.append hd)
  have hl : (Value.ref (s.heap.objs.size + 1) :: us ++ ds).length = ps.length := by
    have e := r2.length
    rw [F.len _ _ _ _ hq] at e
    exact e.symm
  refine wpAny_call (make_map (f := f) I.kIn M.makes M.init (beq_iff_eq.mp M.fn) (codeAny_mono (F.run _ X.stack _ _ ⟨Value.ref (s.heap.objs.size + 1) :: us, []⟩ (Value.ref (s.heap.objs.size + 1) :: (us ++ ds)) _ _ (E σ) (hr.make C us [])
    (I2.env0.make C us []) (hb _ (Value.ref (s.heap.objs.size + 1) :: us) I2.kIn hl) r2 hq) fun r s' hq' => ?_))
  cases r with
  | error e => exact hx pins _ _ e s' I2 hq'
  | ok fl =>
    cases fl with
    | ret u =>
      obtain ⟨v, H', I3, rv, ev, q3⟩ := I2.after hq'
      subst ev
      exact ⟨rv, ⟨V.ref (s.heap.objs.size + 1), H', I3, rfl, q3⟩⟩
    | next => exact False.elim hq'
    | brk => exact False.elim hq'
    | cont => exact False.elim hq'
def tMakeS (C : Addr) (sp : Sp) (dvs : List V) (E : L2.St → XK) (t : TA) : TE := fun σ H Q => t σ H fun vs H1 => ∀ x dx, H1 x = none → H1 dx = none → dx ≠ x → sp (.ref x :: (vs ++ dvs)) (upd (upd H1 dx (.own x)) x (.ins C dx [])) (fun v H2 => v = .non ∧ Q (.ref x) H2) (E σ)
theorem pe_mkX (c : MkX X.prog X.w X.K X.mg X.base k x C sp dvs) (hr : Room j X.A) (hk : k + 1 ≤ j) (hg : Gl X x) (tk : Takes X (fun cls d _ H => E cls d H)) (ha : PA X (e :: es) t)
    (hdb : (x == ("__debug__" : Str)) = false := by decide) (he : starEach (e :: es) X.env = (false, eval e X.env) :: starEach es X.env := by rfl) (hpl : (backTo pos (starEach es X.env)).any (·.1) = false := by rfl) :
    PE X (.Call (.Name x p) (e :: es) [] pos) (tMake C sp dvs E t) := by
  obtain ⟨f, fd, ps, ds, M, F, hm, b, d⟩ := c
  exact pe_make M F (hr.mono hk) hg hm b d (passes_call tk fun _ _ _ _ h => h) ha hdb he hpl
theorem pe_mkS (c : MkX X.prog X.w X.K X.mg X.base k x C sp dvs) (hr : Room j X.A) (hk : k + 1 ≤ j) (hg : Gl X x) (tk : Takes X W) (ha : PA X (e :: es) t)
    (hdb : (x == ("__debug__" : Str)) = false := by decide) (he : starEach (e :: es) X.env = (false, eval e X.env) :: starEach es X.env := by rfl) (hpl : (backTo pos (starEach es X.env)).any (·.1) = false := by rfl) :
    PE X (.Call (.Name x p) (e :: es) [] pos) (tMakeS C sp dvs (WE W) t) := by
  obtain ⟨f, fd, ps, ds, M, F, hm, b, d⟩ := c
  refine ⟨fun pins s σ H Q I h => ?_⟩
  refine wpAny_Call_Name_kw (ld_glob I hg hm ?_ hdb)
  refine PySem.W.callWith_K (h₀ := X.base) I.ok.mod.kin M.kp (thn (ha.run pos pins s σ H _ I h) fun us s1 ⟨vs, H1, I1, r, q⟩ => ⟨I1.kIn, ?_⟩) he hpl
  exact run_makeS (E := WE W) M F (hr.mono hk) b d (passAt tk σ) I1 r q
end
end My
set_option Elab.async false
set_option linter.all false
set_option maxRecDepth 100000
set_option maxHeartbeats 4000000
/-! S2: C(e, .., k = v, ..); C(e) with a default left out. -/
namespace My
open PySem PySem.Spec PyProof.Rows L2
/-- C(e, .., k = v, ..), __init__ keeping sp -/
def MakN (P : Program) (w : World) (K : PySem.W.Frag) (mg : Str → Option Value) (base : Heap) (k : Nat) (x : Str) (C : Addr) (n : Nat) (ks : List Str) (gV : List V → List V → List V) (sp : Sp) : Prop := ∃ f fd ps g, Mk K C f ∧ FnOk P w K mg base CX0 k f fd ps sp ∧ mg x = some (.ref C) ∧ KBn K fd ps (n + 1) ks g gV
theorem pe_mkN {X : Cx} {k j n : Nat} {C : Addr} {ks : List Str} {sp : Sp} {x : Str} {p pos : Pos} {e : Expr} {es : List Expr} {kws : List Keyword} {t tk : TA} {gV : List V → List V → List V} (c : MakN X.prog X.w X.K X.mg X.base k x C n ks gV sp) (hr : Room j X.A) (hk : k + 1 ≤ j) (hg : Gl X x)
    (ha : PA X (e :: es) t) (hkw : PK X kws tk) (hall : (backToKw pos (keywordEach kws X.env)).all (·.1.isSome) = true := by rfl) (hks : (backToKw pos (keywordEach kws X.env)).filterMap (·.1) = ks := by rfl)
    (hdb : (x == ("__debug__" : Str)) = false := by decide) (he : starEach (e :: es) X.env = (false, eval e X.env) :: starEach es X.env := by rfl)
    (hpl : ((backTo pos (starEach (e :: es) X.env)).any (·.1) || (backToKw pos (keywordEach kws X.env)).any (·.1.isNone)) = false := by rfl) :
    PE X (.Call (.Name x p) (e :: es) kws pos) (tMakeN C n ks.length sp gV E0 t tk) := by
  obtain ⟨f, fd, ps, g, M, F, hm, hb⟩ := c
  exact pe_makeN M F (hr.mono hk) hg hm hb pass0 ha hkw hall hks hdb he hpl
/-- values and keywords behind self, all of the def's arguments -/
theorem kbn_all {K : PySem.W.Frag} {fd : FuncData} {ps : List Str} {T : Addr} {o : Obj} {its : Array Value} {n m : Nat} {ks : List Str} (lT : K.lookup T = some o) (oT : o.data = .seq its n)
    (h : ∀ us ws : List Value, us.length = m → ws.length = ks.length → ∃ k : Option (Array Value) → Sem (List (Str × Value)), bindArgs fd ⟨us, ks.zip ws⟩ = seqItems? (.ref T) >>= k ∧ k (some its) = pure (ps.zip (us ++ ws))) : KBn K fd ps m ks (fun us ws => us ++ ws) (fun vs zs => vs ++ zs) := by
  refine ⟨fun s us ws X l1 l2 => ?_, fun r1 r2 => r1.append r2⟩
  obtain ⟨k, e1, e2⟩ := h us ws l1 l2
  refine BindsTo.of_looks fun M => ?_
  rw [e1]
  exact looks_items X lT oT (PySem.W.Looks.of_pure e2)
/-- the last argument left out -/
theorem bindsD_one {K : PySem.W.Frag} {fd : FuncData} {ps : List Str} {T : Addr} {o : Obj} {its : Array Value} {n m : Nat} {dv : Value} (lp : ps.length = m + 1) (lT : K.lookup T = some o) (oT : o.data = .seq its n)
    (h : ∀ us : List Value, us.length = m → ∃ k : Option (Array Value) → Sem (List (Str × Value)), bindArgs fd ⟨us, []⟩ = seqItems? (.ref T) >>= k ∧ k (some its) = pure (ps.zip (us ++ [dv]))) : Binds K fd ps [dv] := by
  intro s us X hl
  rw [List.length_append, List.length_singleton, lp] at hl
  obtain ⟨k, e1, e2⟩ := h us (by omega)
  refine BindsTo.of_looks fun M => ?_
  rw [e1]
  exact looks_items X lT oT (PySem.W.Looks.of_pure e2)
end My
set_option Elab.async false
set_option linter.all false
set_option maxRecDepth 100000
set_option maxHeartbeats 4000000
/-! X3: what a suite asks of the error that it holds; made with a keyword in a try; the facts of a class of errors. -/
namespace My
open PySem PySem.Spec PyProof.Rows L2
/-- isinstance(e, c), e the error that the suite holds, which has its dict -/
def rIsX (K : PySem.W.Frag) (a : Addr) (cls : Value) (d : Option Addr) : List V → Hp → VK → Prop := fun xs H Q => ∃ (D : Addr) (c : V) (cv : Value) (b : Bool) (dd : Addr) (fs : List (Str × V)), xs = [.ref a, c] ∧ cls = .ref D ∧ ExI K D ∧ d = some dd ∧ H dd = some (.xd fs) ∧ ClsV c cv ∧ PySem.W.kitOne K (.ref D) cv = some b ∧ Q (.bl b) H
section
variable {X : Cx} {a : Addr} {oe : Obj} {cls : Value} {d : Option Addr} {pn : List (Addr × Obj)}
theorem suite_inst {pins : List (Addr × Obj)} {σ : L2.St} {H : Hp} {s : Shared} {D dd : Addr} {fs : List (Str × V)} (hz : Zc (.ref D) (some dd) oe) (hf : ∃ vs, oe.data = .fields vs) (I : Inv (X.suite a ((a, oe) :: pn)) pins σ H s) (e : H dd = some (.xd fs)) :
    ∃ (od : Obj) (mA : Str → Option Value), PySem.W.InstAt s.heap a oe D (some od) ∧ (∀ x, PySem.W.lookIn x od = some (mA x)) ∧ ∀ f, RelO (fs.lookup f) (mA f) := by
  obtain ⟨ha, _⟩ := I.pin (a, oe) (List.mem_append_left _ List.mem_cons_self)
  obtain ⟨vs, hd⟩ := hf
  have hx : ObjOk X.prog X.w H s.heap dd (.xd fs) := I.hok dd _ e
  obtain ⟨mA, hns, hr⟩ := hx
  obtain ⟨od, ho, hl⟩ := lookIn_ns hns
  exact ⟨od, mA, ⟨ha, hz.1, by unfold PySem.W.notCls; rw [hd] <;> rfl, by rw [hz.2]; exact ho⟩, hl, hr⟩
theorem call_isX (hz : Zc cls d oe) (hf : ∃ vs, oe.data = .fields vs) : CallR (X.suite a ((a, oe) :: pn)) (.builtin "isinstance") (rIsX X.K a cls d) := by
  intro pins s σ H xs us Q I r h
  obtain ⟨D, c, cv, b, dd, fs, rfl, rfl, T, rfl, e, k, kt, q⟩ := h
  obtain ⟨u1, u2, rfl, r1, r2⟩ := vals2 r
  have e2 := k.eq r2
  subst e2
  cases (show u1 = Value.ref a from r1)
  obtain ⟨od, mA, J, _⟩ := suite_inst hz hf I e
  exact PySem.W.kia_one (PySem.W.kitx_exc (x := a) (ox := oe) (od := some od) T.cl T.ga T.gt T.sub T.ca T.hn T.tk T.hm) I.kIn J kt (fun z => nomatch z) fun tk => ⟨.bl b, H, I.tok tk, rfl, q⟩
/-- e.f, e the error that the suite holds -/
def tXg (K : PySem.W.Frag) (a : Addr) (cls : Value) (d : Option Addr) (f : Str) (te : TE) : TE := fun σ H Q => te σ H fun x H1 => x = .ref a ∧ ∃ (C dd : Addr) (fs : List (Str × V)) (v : V), cls = .ref C ∧ XfC K C ∧ PySem.W.findIn K (.ref C) f = some none ∧ d = some dd ∧ H1 dd = some (.xd fs) ∧ fs.lookup f = some v ∧ Q v H1
theorem pe_xg {e : Expr} {te : TE} {pos : Pos} {n : Str} (hz : Zc cls d oe) (hf : ∃ vs, oe.data = .fields vs) (he : PE (X.suite a ((a, oe) :: pn)) e te) (hb : attributeBase e n X.env (eval e X.env) = eval e X.env := by rfl) :
    PE (X.suite a ((a, oe) :: pn)) (.Attribute e n pos) (tXg X.K a cls d n te) := by
  refine ⟨fun pins s σ H Q I h => ?_⟩
  refine attr_of hb (thn (he.run pins s σ H _ I h) fun u s1 ⟨x, H1, I1, rx, ex, C, dd, fs, v, ec, T, hno, ed, ea, l, q⟩ => ?_)
  subst ex
  obtain rfl : u = Value.ref a := rx
  subst ec
  subst ed
  obtain ⟨od, mA, J, hl, hr⟩ := suite_inst hz hf I1 ea
  obtain ⟨u, hu, ru⟩ := RelO.some_of (v := v) (o := mA n) (by rw [← l]; exact hr n)
  exact HandSPX.exc_get I1.kIn J T.ga T.gg T.exC (PySem.W.findObj_own T.hdC hno rfl (by rw [hl, hu])) (handed_of ru) ⟨v, H1, I1.tok _, ru, q⟩
end
/-! ### C(e, .., k = v, ..) in a try -/
def MakNX (P : Program) (w : World) (K : PySem.W.Frag) (mg : Str → Option Value) (base : Heap) (k : Nat) (x : Str) (C : Addr) (n : Nat) (ks : List Str) (gV : List V → List V → List V) (sp : Sp) : Prop := ∃ f fd ps g, Mk K C f ∧ FnOk P w K mg base (L2.CX P w) k f fd ps sp ∧ mg x = some (.ref C) ∧ KBn K fd ps (n + 1) ks g gV
def tMakeNS (C : Addr) (n m : Nat) (sp : Sp) (gV : List V → List V → List V) (E : L2.St → XK) (t tk : TA) : TE := fun σ H Q => t σ H fun vs H1 => tk σ H1 fun zs H2 => vs.length = n ∧ zs.length = m ∧
  ∀ x dx, H2 x = none → H2 dx = none → dx ≠ x → sp (gV (.ref x :: vs) zs) (upd (upd H2 dx (.own x)) x (.ins C dx [])) (fun v H3 => v = .non ∧ Q (.ref x) H3) (E σ)
theorem pe_mkNS {X : Cx} {W : WX} {k j n : Nat} {C : Addr} {ks : List Str} {sp : Sp} {x : Str} {p pos : Pos} {e : Expr} {es : List Expr} {kws : List Keyword} {t tk : TA} {gV : List V → List V → List V} (c : MakNX X.prog X.w X.K X.mg X.base k x C n ks gV sp) (hr : Room j X.A) (hk : k + 1 ≤ j) (hg : Gl X x) (tkx : Takes X W)
    (ha : PA X (e :: es) t) (hkw : PK X kws tk) (hall : (backToKw pos (keywordEach kws X.env)).all (·.1.isSome) = true := by rfl) (hks : (backToKw pos (keywordEach kws X.env)).filterMap (·.1) = ks := by rfl)
    (hdb : (x == ("__debug__" : Str)) = false := by decide) (he : starEach (e :: es) X.env = (false, eval e X.env) :: starEach es X.env := by rfl)
    (hpl : ((backTo pos (starEach (e :: es) X.env)).any (·.1) || (backToKw pos (keywordEach kws X.env)).any (·.1.isNone)) = false := by rfl) :
    PE X (.Call (.Name x p) (e :: es) kws pos) (tMakeNS C n ks.length sp gV (WE W) t tk) := by
  obtain ⟨f, fd, ps, g, M, F, hm, hb⟩ := c
  refine ⟨fun pins s σ H Q I h => ?_⟩
  refine wpAny_Call_Name_kw (ld_glob I hg hm ?_ hdb)
  refine PySem.W.callWith_KW (h₀ := X.base) I.ok.mod.kin M.kp hall (thn (ha.run pos pins s σ H _ I h) fun us s1 ⟨vs, H1, I1, r, q⟩ => ?_) hpl he
  refine thn (hkw.run pos pins s1 σ H1 _ I1 q) fun ws s2 ⟨zs, H2, I2, rz, l1, l2, q2⟩ => ⟨I2.kIn, ?_⟩
  rw [hks]
  have hq := q2 (s2.heap.objs.size + 1) s2.heap.objs.size (I2.hok.fresh (Nat.le_succ _)) (I2.hok.fresh (Nat.le_refl _)) (Nat.ne_of_lt (Nat.lt_succ_self _))
  have I3 := Inv.made (C := C) I2
  have r1 : Vals (V.ref (s2.heap.objs.size + 1) :: vs) (Value.ref (s2.heap.objs.size + 1) :: us) := .cons rfl r
  have r2 := hb.rel r1 rz
  have e1 : (Value.ref (s2.heap.objs.size + 1) :: us).length = n + 1 := r1.length.symm.trans (congrArg Nat.succ l1)
  have e2 : ws.length = ks.length := rz.length.symm.trans l2
  refine wpAny_call (make_map (f := f) I2.kIn M.makes M.init (beq_iff_eq.mp M.fn) (codeAny_mono (F.run _ X.stack _ _ ⟨Value.ref (s2.heap.objs.size + 1) :: us, ks.zip ws⟩ (g (Value.ref (s2.heap.objs.size + 1) :: us) ws) _ _ (WE W σ) ((hr.mono hk).make C us (ks.zip ws))
    (I3.env0.make C us (ks.zip ws)) (hb.to _ (Value.ref (s2.heap.objs.size + 1) :: us) ws I3.kIn e1 e2) r2 hq) fun r s' hq' => ?_))
  cases r with
  | error e => exact passAt tkx σ pins _ _ e s' I3 hq'
  | ok fl =>
    cases fl with
    | ret u =>
      obtain ⟨v, H', I4, rv, ev, q3⟩ := I3.after hq'
      subst ev
      exact ⟨rv, ⟨V.ref (s2.heap.objs.size + 1), H', I4, rfl, q3⟩⟩
    | next => exact False.elim hq'
    | brk => exact False.elim hq'
    | cont => exact False.elim hq'
/-! ### the facts of a class of errors, of ValueError's family -/
def excOb (C : Addr) : Obj → Bool
  | ⟨.type "type", _, .cls ⟨_, _, m :: bm, _, _, true, _, _, _, _, false⟩, ⟨[_, _, _, _, some (.builtin n), _]⟩⟩ => m == .ref C && (PySem.HandSPX.refsVE bm && n == "ValueError.__new__")
  | _ => false
theorem excOb_ok {C : Addr} {o : Obj} (h : excOb C o = true) : ∃ nm q N bs bm sn sub ab col dd k0 k1 k2 k3 k5, o = excClassObj nm q C N bs bm true sn sub ab col dd k0 k1 k2 k3 k5 "ValueError.__new__" ∧ PySem.HandSPX.refsVE bm = true := by
  unfold excOb at h
  split at h
  · rename_i dd nm bs m bm N q sn sub ab col k0 k1 k2 k3 n k5
    obtain ⟨h1, h2⟩ := Bool.and_eq_true_iff.mp h
    have h3 := (Bool.and_eq_true_iff.mp h2).2
    have e1 := beq_iff_eq.mp h1
    have e3 := beq_iff_eq.mp h3
    subst e1 e3
    exact ⟨_, _, _, _, _, _, _, _, _, _, _, _, _, _, _, rfl, (Bool.and_eq_true_iff.mp h2).1⟩
  · cases h
def excB (C fI : Addr) : PySem.W.Frag → Bool := fun K => ((K.lookup C).any (excOb C)) && (decide (PySem.W.findIn K (.ref C) "__setattr__" = some (some (.builtin "object.__setattr__"))) && (decide (PySem.W.typeIn K (.ref C) = some (.type "type")) && (PySem.W.keepIn K (.ref C) &&
  (decide (PySem.W.findIn K (.ref C) "__init__" = some (some (.ref fI))) && (decide (PySem.W.typeIn K (.ref fI) = some (.type "function")) && (decide (PySem.W.findIn K (.ref C) "found" = some none) && xfB K C))))))
theorem excB_ok {K : PySem.W.Frag} {mg : Str → Option Value} {x : Str} {C fI : Addr} (g : mg x = some (.ref C)) (h : excB C fI K = true) : ExC K mg x C fI := by
  obtain ⟨h1, h⟩ := Bool.and_eq_true_iff.mp h
  obtain ⟨h2, h⟩ := Bool.and_eq_true_iff.mp h
  obtain ⟨h3, h⟩ := Bool.and_eq_true_iff.mp h
  obtain ⟨h4, h⟩ := Bool.and_eq_true_iff.mp h
  obtain ⟨h5, h⟩ := Bool.and_eq_true_iff.mp h
  obtain ⟨h6, h⟩ := Bool.and_eq_true_iff.mp h
  obtain ⟨h7, h8⟩ := Bool.and_eq_true_iff.mp h
  obtain ⟨o, lo, ho⟩ := Option.any_eq_true _ _ |>.mp h1
  obtain ⟨nm, q, N, bs, bm, sn, sub, ab, col, dd, k0, k1, k2, k3, k5, rfl, hr⟩ := excOb_ok ho
  have xf := xfB_ok h8
  exact ⟨⟨⟨_, _, _, _, _, _, _, _, _, _, _, _, _, _, _, lo, hr⟩, of_decide_eq_true h2, xf.exC, of_decide_eq_true h3, h4⟩, g, of_decide_eq_true h5, of_decide_eq_true h6, of_decide_eq_true h7, xf⟩
def exiB (C : Addr) : PySem.W.Frag → Bool := fun K => (PySem.W.clsIn K C).isSome && (decide (PySem.W.findIn K (.ref C) "__class__" = some (some (.builtin "object.__class__"))) && (decide (PySem.W.specialIn K (.builtin "object.__class__") "__get__" = some (some (.builtin "getset_descriptor.__get__"))) && (decide (PySem.W.takesIn K (.builtin "object.__class__") = some true) &&
  (decide (PySem.W.mroIn K C (.type "object") = some true) && xfB K C))))
theorem exiB_ok {K : PySem.W.Frag} {C : Addr} (h : exiB C K = true) : ExI K C := by
  obtain ⟨h1, h⟩ := Bool.and_eq_true_iff.mp h
  obtain ⟨h2, h⟩ := Bool.and_eq_true_iff.mp h
  obtain ⟨h3, h⟩ := Bool.and_eq_true_iff.mp h
  obtain ⟨h4, h⟩ := Bool.and_eq_true_iff.mp h
  obtain ⟨h5, h6⟩ := Bool.and_eq_true_iff.mp h
  have xf := xfB_ok h6
  exact ⟨h1, xf.ga, xf.gg, xf.exC, of_decide_eq_true h2, of_decide_eq_true h3, of_decide_eq_true h4, of_decide_eq_true h5⟩
/-- none of the types of data is of the class C -/
def NoBi (K : PySem.W.Frag) (C : Addr) : Prop := ∀ t ∈ ["NoneType", "bool", "int", "str", "list", "tuple"], PySem.W.kitOne K (.type t) (.ref C) = some false
def noBiB (C : Addr) : PySem.W.Frag → Bool := fun K => ["NoneType", "bool", "int", "str", "list", "tuple"].all fun t => decide (PySem.W.kitOne K (.type t) (.ref C) = some false)
theorem noBiB_ok {K : PySem.W.Frag} {C : Addr} (h : noBiB C K = true) : NoBi K C := fun t ht => of_decide_eq_true (List.all_eq_true.mp h t ht)
/-- what stands at a class for its name -/
def valF (c t : Value) (m : Str) (v : Value) : PySem.W.Frag → Bool := fun K => match PySem.W.findCls K c t m with
  | some (.val u) => u == v
  | _ => false
theorem valF_ok {K : PySem.W.Frag} {c t v : Value} {m : Str} (h : valF c t m v K = true) : PySem.W.findCls K c t m = some (.val v) := by
  unfold valF at h
  split at h
  · rename_i u e
    rw [e, beq_iff_eq.mp h]
  · cases h
end My
set_option Elab.async false
set_option linter.all false
set_option maxRecDepth 100000
set_option maxHeartbeats 4000000
/-! Z1: a head by facts: what the end leans on is looked up in the heap by the kernel, and the written part stays a letter. -/
namespace My
open PySem PySem.Spec PyProof.Rows L2
abbrev Fct := PySem.W.Frag → Bool
abbrev AlM : Type := Bool × List He.FnW
def obsM (fs : List Fct) (fn : List He.DefD) (K : PySem.W.Frag) : AlM := ((fs.all fun f => f K) && fn.all fun d => d.ok K, fn.map fun d => He.fnW K d.at_)
def valM (fn : List He.DefD) : AlM := (true, fn.map He.DefD.val)
def SaysM (fs : List Fct) (fn : List He.DefD) (K : PySem.W.Frag) : Prop := obsM fs fn K = valM fn
/-- what these objects name, one step on -/
def lvM (g : Addr → Option Obj) (as : List Addr) : List Addr := as.flatMap fun a => match g a with
  | some o => He.refsD o
  | none => []
/-- what the module's names reach in n steps, step by step (no address is looked for twice) -/
def asM (g : Addr → Option Obj) : Nat → List Addr → List Addr
  | 0, as => as
  | n + 1, as => as ++ asM g n (lvM g as)
/-- and what a class is read by -/
def asR (g : Addr → Option Obj) (n : Nat) : List Addr := PySem.cStatics :: asM g n [mainGlobals]
def obsMG (n : Nat) (fs : List Fct) (fn : List He.DefD) (g : Addr → Option Obj) : AlM := obsM fs fn (He.frG g (asR g n))
def hookM0 (n : Nat) (fs : List Fct) (fn : List He.DefD) : PySem.W.Hook where
  α := AlM
  obs := fun s => obsMG n fs fn s.heap.get?
  val := fun _ => valM fn
  says := fun _ h => ∃ K : PySem.W.Frag, K.In h ∧ SaysM fs fn K
  of := fun _ _ e => ⟨_, He.frG_in, e⟩
  keeps := fun _ _ _ ⟨K, hK, c⟩ k => ⟨K, PySem.W.Frag.In.keeps hK k, c⟩
theorem obsMG_eq {n : Nat} {fs : List Fct} {fn : List He.DefD} {g : Addr → Option Obj} {s : Shared} (h : ∀ a, g a = s.heap.get? a) : obsMG n fs fn g = (hookM0 n fs fn).obs s := by
  have e : g = s.heap.get? := funext h
  rw [e] <;> rfl
section
variable {fs : List Fct} {fn : List He.DefD} {K : PySem.W.Frag}
theorem SaysM.fact (c : SaysM fs fn K) (i : Nat) {f : Fct} (h : fs[i]? = some f) : f K = true := by
  have c1 := (He.ba (show ((fs.all fun f => f K) && fn.all fun d => d.ok K) = true from congrArg (fun z : AlM => z.1) c)).1
  exact List.all_eq_true.mp c1 f (List.mem_of_getElem? h)
theorem SaysM.def_ (c : SaysM fs fn K) (i : Nat) {d : He.DefD} (h : fn[i]? = some d) : ∃ fd, FunD K d.name d.qual d.params d.body d.scope (d.dvs K) (d.kws K) (He.fAd K d.at_) fd := by
  have c2 := (He.ba (show ((fs.all fun f => f K) && fn.all fun d => d.ok K) = true from congrArg (fun z : AlM => z.1) c)).2
  have e : fn.map (fun d => He.fnW K d.at_) = fn.map He.DefD.val := congrArg (fun z : AlM => z.2) c
  have e2 : (fn.map fun d => He.fnW K d.at_)[i]? = (fn.map He.DefD.val)[i]? := by rw [e]
  rw [List.getElem?_map, List.getElem?_map, h] at e2
  exact He.DefD.funD (Option.some.inj e2) (List.all_eq_true.mp c2 d (List.mem_of_getElem? h))
end
/-- a def without defaults, as it stands -/
theorem FunD.plain {K : PySem.W.Frag} {x q : Str} {pa : Arguments} {bd : List Stmt} {sc : Scope} {f : Addr} (h : ∃ fd, FunD K x q pa bd sc [] [] f fd) :
    ∃ oc od osl kV dc pm an cd ct, K.lookup f = some ⟨oc, od, .func (PySem.W.fnOf x q pa bd sc .none kV dc pm an cd ct), osl⟩ ∧ PySem.W.codeIn K cd q = true ∧ PySem.W.keepIn K (.ref f) = true := by
  obtain ⟨fd, ⟨oc, od, dV, kV, dc, pm, an, cd, ct, osl, rfl, l, c, dv, _⟩, kp⟩ := h
  rcases dv with ⟨_, rfl⟩ | ⟨n, _⟩
  · exact ⟨oc, od, osl, kV, dc, pm, an, cd, ct, l, c, kp⟩
  · exact absurd rfl n
/-- a def whose one default is None -/
theorem FunD.oneN {K : PySem.W.Frag} {x q : Str} {pa : Arguments} {bd : List Stmt} {sc : Scope} {f : Addr} (h : ∃ fd, FunD K x q pa bd sc [.non] [] f fd) :
    ∃ oc od osl T kV dc pm an cd ct ocT dT slT nT, K.lookup f = some ⟨oc, od, .func (PySem.W.fnOf x q pa bd sc (.ref T) kV dc pm an cd ct), osl⟩ ∧ PySem.W.codeIn K cd q = true ∧ PySem.W.keepIn K (.ref f) = true ∧ K.lookup T = some ⟨ocT, dT, .seq #[Value.none] nT, slT⟩ := by
  obtain ⟨fd, ⟨oc, od, dV, kV, dc, pm, an, cd, ct, osl, rfl, l, c, dv, _⟩, kp⟩ := h
  rcases dv with ⟨e, _⟩ | ⟨_, T, ⟨o1, o2, o3, o4⟩, its, n, rfl, lT, eo, v⟩
  · cases e
  · have e2 : o3 = .seq its.toArray n := eo
    subst e2
    obtain ⟨u, rfl, ru⟩ := vals1 v
    cases (show u = Value.none from ru)
    exact ⟨oc, od, osl, T, kV, dc, pm, an, cd, ct, o1, o2, o4, n, l, c, kp, lT⟩
/-- an int that the module's name x stands for, a text -/
def intF (x : Str) (i : Int) : Fct := fun K => match PySem.W.nsIn K mainGlobals x with
  | some (some (.int j _)) => decide (j = i)
  | _ => false
def strF (x z : Str) : Fct := fun K => match PySem.W.nsIn K mainGlobals x with
  | some (some (.str y _)) => decide (y = z)
  | _ => false
theorem intF_ok {K : PySem.W.Frag} {x : Str} {i : Int} (c : intF x i K = true) : ∃ t, PySem.W.nsIn K mainGlobals x = some (some (.int i t)) := by
  unfold intF at c
  cases e : PySem.W.nsIn K mainGlobals x with
  | none =>
    rw [e] at c
    cases c
  | some o =>
    rw [e] at c
    cases o with
    | none => cases c
    | some v =>
      cases v with
      | int j t =>
        have ej : j = i := of_decide_eq_true c
        rw [ej]
        exact ⟨t, rfl⟩
      | _ => cases c
theorem strF_ok {K : PySem.W.Frag} {x z : Str} (c : strF x z K = true) : ∃ t, PySem.W.nsIn K mainGlobals x = some (some (.str z t)) := by
  unfold strF at c
  cases e : PySem.W.nsIn K mainGlobals x with
  | none =>
    rw [e] at c
    cases c
  | some o =>
    rw [e] at c
    cases o with
    | none => cases c
    | some v =>
      cases v with
      | str y t =>
        have ej : y = z := of_decide_eq_true c
        rw [ej]
        exact ⟨t, rfl⟩
      | _ => cases c
theorem walk_ofGE {l : PySem.W.OpenLaw} {n k : Nat} {q : Program} {loose : List Str} {XP : (Str → Option Value) → Heap → Prop} {YP : World → Heap → Prop} {d : DefRec} {x : Str}
    (hn : l.most = some n) (hn2 : n ≤ sizeLine) (hdf : d.params.defaults = []) (hr : Room k callerA)
    (F : ∀ (w : World) (mg : Str → Option Value) (fa : Addr) (h : Heap), YP w h → h.Ns mainGlobals mg → mg d.name = some (.ref fa) →
      ∃ (K : PySem.W.Frag) (fd : FuncData) (sp : Sp), K.In h ∧ (∀ (s : Shared) (u : Value), BindsTo s fd ⟨[u], []⟩ [(x, u)]) ∧
        (∀ (H : Hp) (a : Addr) (ns : List Int), ns.length ≤ n → Only H → SqL K H a (ns.map V.int) → sp [.ref a] H (fun v _ => v = .bl true) fun _ _ _ => False) ∧
        ∀ base : Heap, K.In base → base.Ns mainGlobals mg → FnG l.prog w K mg base k fa fd [x] sp) :
    PySem.W.WalkO q loose XP YP l.row.toRowW d [] (fun f vs => PySem.call f vs) := by
  refine Att.attach_call hn hdf fun w s₀ s₁ mg mb fa o pm cd doc a vs ns G Y ho hd hcd hmg hobj hints hlen hg => ?_
  obtain ⟨K, fd, sp, KX, hb, hsp, hF⟩ := F w mg fa _ Y G.T.g hmg
  exact lawG_call KX G.T.g G.T.b G.T.builtins G.T.nolimit hg hobj hints (Nat.le_trans hlen hn2) hr hF hb (fun H hO hS => hsp H a ns hlen hO hS)
/-! ### the same in parts: each part's run is a theorem of its own -/
def obsLG (n : Nat) (ps : List (List Fct × List He.DefD)) (g : Addr → Option Obj) : List AlM := ps.map fun p => obsMG n p.1 p.2 g
def hookL (n : Nat) (ps : List (List Fct × List He.DefD)) : PySem.W.Hook where
  α := List AlM
  obs := fun s => obsLG n ps s.heap.get?
  val := fun _ => ps.map fun (p : List Fct × List He.DefD) => valM p.2
  says := fun _ h => ∃ K : PySem.W.Frag, K.In h ∧ ∀ p ∈ ps, SaysM p.1 p.2 K
  of := fun _ s e => ⟨He.frG s.heap.get? (asR s.heap.get? n), He.frG_in, fun p hp => List.map_inj_left.mp (show (ps.map fun p => obsMG n p.1 p.2 s.heap.get?) = ps.map fun p => valM p.2 from e) p hp⟩
  keeps := fun _ _ _ ⟨K, hK, c⟩ k => ⟨K, PySem.W.Frag.In.keeps hK k, c⟩
theorem obsLG_eq {n : Nat} {ps : List (List Fct × List He.DefD)} {g : Addr → Option Obj} {s : Shared} (h : ∀ a, g a = s.heap.get? a) : obsLG n ps g = (hookL n ps).obs s := by
  have e : g = s.heap.get? := funext h
  rw [e] <;> rfl
open PySem.W PySem.Calls in
theorem run_parts {r : OpenRow} {q : Program} {M n : Nat} {loose : List Str} {w : World} {ps : List (List Fct × List He.DefD)}
    (hA : ∀ os : OsState, (HandSHeadRun.endF (HandSHeadRun.stepQ (HandSHeadRun.denQ HandSHeadRun.tabQ) r.prog w) M r.prog w os).map (fun s => HandSHeadRun.looksF r.prog (boot_heap w.params) s.abs) = some true)
    (hB : ∀ os : OsState, (HandSHeadRun.endF (HandSHeadRun.stepQ (HandSHeadRun.denQ HandSHeadRun.tabQ) r.prog w) M r.prog w os).map (fun s => HandSHeadRun.seenQ q loose (importedModules r.prog.main.body) (fun s => xlAt q [] s && recOk r.toRowW.records s) s.abs) = some (openGood q loose))
    (hC : ∀ p ∈ ps, ∀ os : OsState, (HandSHeadRun.endF (HandSHeadRun.stepQ (HandSHeadRun.denQ HandSHeadRun.tabQ) r.prog w) M r.prog w os).map (fun s => obsMG n p.1 p.2 (HandSHeadRun.getT s)) = some (valM p.2)) :
    HandSHeadRun.RunEq r q (hookL n ps) (fun s => obsLG n ps (HandSHeadRun.getT s)) M loose w := by
  intro os
  obtain ⟨s, hs, a⟩ := Option.map_eq_some_iff.mp (hA os)
  have b := hB os
  rw [hs] at b ⊢
  have b := Option.some.inj b
  show some _ = some _
  refine congrArg some (Prod.ext a (Prod.ext b ?_))
  show ps.map (fun p => obsMG n p.1 p.2 (HandSHeadRun.getT s)) = ps.map fun p => valM p.2
  refine List.map_inj_left.mpr fun p hp => ?_
  have c := hC p hp os
  rw [hs] at c
  exact Option.some.inj c
end My
set_option Elab.async false
set_option linter.all false
set_option maxRecDepth 100000
set_option maxHeartbeats 4000000
namespace My
open PySem PySem.Spec PyProof.Rows L2
def looseM_0 : List Str := ["_wall",
  "PlaceError",
  "LostError",
  "NoNumber",
  "NoName",
  "Doubled",
  "NoEdition",
  "TooMany",
  "NoLines",
  "NoPlaces",
  "NoSpot",
  "NoBook",
  "NoChapter",
  "NoVerse",
  "NoPart",
  "SMALL_LETTERS",
  "LONGEST_NAME",
  "is_number",
  "is_whole",
  "is_name",
  "is_made_of",
  "is_tuple",
  "is_row",
  "MOST_BOOKS",
  "MOST_BOOK_CHAPTERS",
  "MOST_VERSES",
  "MOST_VERSE_PARTS",
  "MOST_CHAPTERS",
  "MOST_PARTS",
  "MOST_PAIRS_editions"]
def looseM_1 : List Str := ["LAST_LINE",
  "Edition",
  "check_edition",
  "kept_books",
  "kept_book",
  "kept_chapter",
  "check_counts",
  "kept_lines",
  "lines_of_pair",
  "fewest_pairs",
  "places_in",
  "stretches_of",
  "MOST_PAIRS_places",
  "Places",
  "all_of",
  "spot_places",
  "places_of_numbers",
  "places_of_stretches",
  "is_places_of",
  "kept_pairs",
  "is_stretch",
  "numbers_in",
  "runs_of",
  "runs_text",
  "stretch_text",
  "Leading",
  "shows_rows",
  "same_editions",
  "parts_with_lines",
  "places_led"]
def looseM_2 : List Str := ["places_lost",
  "rows_of",
  "goes_on",
  "row_text",
  "kind_of",
  "_law_cell_at",
  "_law_row",
  "_law_names",
  "_law_books",
  "_law_copy",
  "_law_spots",
  "_law_threads",
  "_law_edition",
  "_law_two",
  "_law_goes",
  "_law_rows",
  "_law_alike",
  "_law_turned_row",
  "_law_forged",
  "_law_refused"]
def looseM : List Str := looseM_0 ++ looseM_1 ++ looseM_2
def fnM_0 : He.DefD := ⟨("_wall", none), "_wall", "_wall", defArgs s__wall, defBody s__wall, defScope s__wall, [], []⟩
def fnM_1 : He.DefD := ⟨("is_number", none), "is_number", "is_number", defArgs s_is_number, defBody s_is_number, defScope s_is_number, [], []⟩
def fnM_2 : He.DefD := ⟨("is_whole", none), "is_whole", "is_whole", defArgs s_is_whole, defBody s_is_whole, defScope s_is_whole, [], []⟩
def fnM_3 : He.DefD := ⟨("is_name", none), "is_name", "is_name", defArgs s_is_name, defBody s_is_name, defScope s_is_name, [], []⟩
def fnM_4 : He.DefD := ⟨("is_made_of", none), "is_made_of", "is_made_of", defArgs s_is_made_of, defBody s_is_made_of, defScope s_is_made_of, [], []⟩
def fnM_5 : He.DefD := ⟨("is_tuple", none), "is_tuple", "is_tuple", defArgs s_is_tuple, defBody s_is_tuple, defScope s_is_tuple, [], []⟩
def fnM_6 : He.DefD := ⟨("is_row", none), "is_row", "is_row", defArgs s_is_row, defBody s_is_row, defScope s_is_row, [], []⟩
def fnM_7 : He.DefD := ⟨("check_edition", none), "check_edition", "check_edition", defArgs s_check_edition, defBody s_check_edition, defScope s_check_edition, [], []⟩
def fnM_8 : He.DefD := ⟨("kept_books", none), "kept_books", "kept_books", defArgs s_kept_books, defBody s_kept_books, defScope s_kept_books, [], []⟩
def fnM_9 : He.DefD := ⟨("kept_book", none), "kept_book", "kept_book", defArgs s_kept_book, defBody s_kept_book, defScope s_kept_book, [], []⟩
def fnM_10 : He.DefD := ⟨("kept_chapter", none), "kept_chapter", "kept_chapter", defArgs s_kept_chapter, defBody s_kept_chapter, defScope s_kept_chapter, [], []⟩
def fnM_11 : He.DefD := ⟨("check_counts", none), "check_counts", "check_counts", defArgs s_check_counts, defBody s_check_counts, defScope s_check_counts, [], []⟩
def fnM_12 : He.DefD := ⟨("kept_lines", none), "kept_lines", "kept_lines", defArgs s_kept_lines, defBody s_kept_lines, defScope s_kept_lines, [], []⟩
def fnM_13 : He.DefD := ⟨("lines_of_pair", none), "lines_of_pair", "lines_of_pair", defArgs s_lines_of_pair, defBody s_lines_of_pair, defScope s_lines_of_pair, [], []⟩
def fnM_14 : He.DefD := ⟨("fewest_pairs", none), "fewest_pairs", "fewest_pairs", defArgs s_fewest_pairs, defBody s_fewest_pairs, defScope s_fewest_pairs, [], []⟩
def fnM_15 : He.DefD := ⟨("places_in", none), "places_in", "places_in", defArgs s_places_in, defBody s_places_in, defScope s_places_in, [], []⟩
def fnM_16 : He.DefD := ⟨("stretches_of", none), "stretches_of", "stretches_of", defArgs s_stretches_of, defBody s_stretches_of, defScope s_stretches_of, [], []⟩
def fnM_17 : He.DefD := ⟨("all_of", none), "all_of", "all_of", defArgs s_all_of, defBody s_all_of, defScope s_all_of, [], []⟩
def fnM_18 : He.DefD := ⟨("spot_places", none), "spot_places", "spot_places", defArgs s_spot_places, defBody s_spot_places, defScope s_spot_places, [], []⟩
def fnM_19 : He.DefD := ⟨("places_of_numbers", none), "places_of_numbers", "places_of_numbers", defArgs s_places_of_numbers, defBody s_places_of_numbers, defScope s_places_of_numbers, [], []⟩
def fnM_20 : He.DefD := ⟨("places_of_stretches", none), "places_of_stretches", "places_of_stretches", defArgs s_places_of_stretches, defBody s_places_of_stretches, defScope s_places_of_stretches, [], []⟩
def fnM_21 : He.DefD := ⟨("is_places_of", none), "is_places_of", "is_places_of", defArgs s_is_places_of, defBody s_is_places_of, defScope s_is_places_of, [], []⟩
def fnM_22 : He.DefD := ⟨("kept_pairs", none), "kept_pairs", "kept_pairs", defArgs s_kept_pairs, defBody s_kept_pairs, defScope s_kept_pairs, [], []⟩
def fnM_23 : He.DefD := ⟨("is_stretch", none), "is_stretch", "is_stretch", defArgs s_is_stretch, defBody s_is_stretch, defScope s_is_stretch, [], []⟩
def fnM_24 : He.DefD := ⟨("numbers_in", none), "numbers_in", "numbers_in", defArgs s_numbers_in, defBody s_numbers_in, defScope s_numbers_in, [], []⟩
def fnM_25 : He.DefD := ⟨("runs_of", none), "runs_of", "runs_of", defArgs s_runs_of, defBody s_runs_of, defScope s_runs_of, [], []⟩
def fnM_26 : He.DefD := ⟨("runs_text", none), "runs_text", "runs_text", defArgs s_runs_text, defBody s_runs_text, defScope s_runs_text, [], []⟩
def fnM_27 : He.DefD := ⟨("stretch_text", none), "stretch_text", "stretch_text", defArgs s_stretch_text, defBody s_stretch_text, defScope s_stretch_text, [], []⟩
def fnM_28 : He.DefD := ⟨("shows_rows", none), "shows_rows", "shows_rows", defArgs s_shows_rows, defBody s_shows_rows, defScope s_shows_rows, [], []⟩
def fnM_29 : He.DefD := ⟨("same_editions", none), "same_editions", "same_editions", defArgs s_same_editions, defBody s_same_editions, defScope s_same_editions, [], []⟩
def fnM_30 : He.DefD := ⟨("parts_with_lines", none), "parts_with_lines", "parts_with_lines", defArgs s_parts_with_lines, defBody s_parts_with_lines, defScope s_parts_with_lines, [], []⟩
def fnM_31 : He.DefD := ⟨("places_led", none), "places_led", "places_led", defArgs s_places_led, defBody s_places_led, defScope s_places_led, [], []⟩
def fnM_32 : He.DefD := ⟨("places_lost", none), "places_lost", "places_lost", defArgs s_places_lost, defBody s_places_lost, defScope s_places_lost, [], []⟩
def fnM_33 : He.DefD := ⟨("rows_of", none), "rows_of", "rows_of", defArgs s_rows_of, defBody s_rows_of, defScope s_rows_of, [], []⟩
def fnM_34 : He.DefD := ⟨("goes_on", none), "goes_on", "goes_on", defArgs s_goes_on, defBody s_goes_on, defScope s_goes_on, [], []⟩
def fnM_35 : He.DefD := ⟨("row_text", none), "row_text", "row_text", defArgs s_row_text, defBody s_row_text, defScope s_row_text, [], []⟩
def fnM_36 : He.DefD := ⟨("kind_of", none), "kind_of", "kind_of", defArgs s_kind_of, defBody s_kind_of, defScope s_kind_of, [], []⟩
def fnM_37 : He.DefD := ⟨("_law_cell_at", none), "_law_cell_at", "_law_cell_at", defArgs s__law_cell_at, defBody s__law_cell_at, defScope s__law_cell_at, [], []⟩
def fnM_38 : He.DefD := ⟨("_law_row", none), "_law_row", "_law_row", defArgs s__law_row, defBody s__law_row, defScope s__law_row, [], []⟩
def fnM_39 : He.DefD := ⟨("_law_names", none), "_law_names", "_law_names", defArgs s__law_names, defBody s__law_names, defScope s__law_names, [], []⟩
def fnM_40 : He.DefD := ⟨("_law_books", none), "_law_books", "_law_books", defArgs s__law_books, defBody s__law_books, defScope s__law_books, [], []⟩
def fnM_41 : He.DefD := ⟨("_law_copy", none), "_law_copy", "_law_copy", defArgs s__law_copy, defBody s__law_copy, defScope s__law_copy, [], []⟩
def fnM_42 : He.DefD := ⟨("_law_spots", none), "_law_spots", "_law_spots", defArgs s__law_spots, defBody s__law_spots, defScope s__law_spots, [], []⟩
def fnM_43 : He.DefD := ⟨("_law_threads", none), "_law_threads", "_law_threads", defArgs s__law_threads, defBody s__law_threads, defScope s__law_threads, [], []⟩
def fnM_44 : He.DefD := ⟨("_law_edition", none), "_law_edition", "_law_edition", defArgs s__law_edition, defBody s__law_edition, defScope s__law_edition, [], []⟩
def fnM_45 : He.DefD := ⟨("_law_two", none), "_law_two", "_law_two", defArgs s__law_two, defBody s__law_two, defScope s__law_two, [], []⟩
def fnM_46 : He.DefD := ⟨("_law_goes", none), "_law_goes", "_law_goes", defArgs s__law_goes, defBody s__law_goes, defScope s__law_goes, [], []⟩
def fnM_47 : He.DefD := ⟨("_law_rows", none), "_law_rows", "_law_rows", defArgs s__law_rows, defBody s__law_rows, defScope s__law_rows, [], []⟩
def fnM_48 : He.DefD := ⟨("_law_alike", none), "_law_alike", "_law_alike", defArgs s__law_alike, defBody s__law_alike, defScope s__law_alike, [], []⟩
def fnM_49 : He.DefD := ⟨("_law_turned_row", none), "_law_turned_row", "_law_turned_row", defArgs s__law_turned_row, defBody s__law_turned_row, defScope s__law_turned_row, [], []⟩
def fnM_50 : He.DefD := ⟨("_law_forged", none), "_law_forged", "_law_forged", defArgs s__law_forged, defBody s__law_forged, defScope s__law_forged, [], []⟩
def fnM_51 : He.DefD := ⟨("_law_refused", none), "_law_refused", "_law_refused", defArgs s__law_refused, defBody s__law_refused, defScope s__law_refused, [], []⟩
def fnM_52 : He.DefD := ⟨("law", none), "law", "law", defArgs s_law, defBody s_law, defScope s_law, [], []⟩
def fnM_53 : He.DefD := ⟨("Edition", some "__init__"), "__init__", "Edition.__init__", defArgs s_Edition___init__, defBody s_Edition___init__, defScope s_Edition___init__, [.non], []⟩
def fnM_54 : He.DefD := ⟨("Edition", some "lines"), "lines", "Edition.lines", defArgs s_Edition_lines, defBody s_Edition_lines, defScope s_Edition_lines, [], []⟩
def fnM_55 : He.DefD := ⟨("Edition", some "part_of"), "part_of", "Edition.part_of", defArgs s_Edition_part_of, defBody s_Edition_part_of, defScope s_Edition_part_of, [], []⟩
def fnM_56 : He.DefD := ⟨("Edition", some "told"), "told", "Edition.told", defArgs s_Edition_told, defBody s_Edition_told, defScope s_Edition_told, [], []⟩
def fnM_57 : He.DefD := ⟨("Leading", some "__init__"), "__init__", "Leading.__init__", defArgs s_Leading___init__, defBody s_Leading___init__, defScope s_Leading___init__, [], []⟩
def fnM_58 : He.DefD := ⟨("Leading", some "rows"), "rows", "Leading.rows", defArgs s_Leading_rows, defBody s_Leading_rows, defScope s_Leading_rows, [], []⟩
def fnM_59 : He.DefD := ⟨("PlaceError", some "__init__"), "__init__", "PlaceError.__init__", defArgs s_PlaceError___init__, defBody s_PlaceError___init__, defScope s_PlaceError___init__, [], []⟩
def fnM_60 : He.DefD := ⟨("NoEdition", some "__init__"), "__init__", "NoEdition.__init__", defArgs s_NoEdition___init__, defBody s_NoEdition___init__, defScope s_NoEdition___init__, [], []⟩
def fsM0_0 : List Fct := [fun K => He.eqO (PySem.W.nsIn K mainGlobals "_wall") (some (some (.ref (He.ga K "_wall")))),
  fun K => He.eqO (PySem.W.nsIn K mainGlobals "is_number") (some (some (.ref (He.ga K "is_number")))),
  fun K => He.eqO (PySem.W.nsIn K mainGlobals "is_whole") (some (some (.ref (He.ga K "is_whole")))),
  fun K => He.eqO (PySem.W.nsIn K mainGlobals "is_name") (some (some (.ref (He.ga K "is_name")))),
  fun K => He.eqO (PySem.W.nsIn K mainGlobals "is_made_of") (some (some (.ref (He.ga K "is_made_of")))),
  fun K => He.eqO (PySem.W.nsIn K mainGlobals "is_tuple") (some (some (.ref (He.ga K "is_tuple")))),
  fun K => He.eqO (PySem.W.nsIn K mainGlobals "is_row") (some (some (.ref (He.ga K "is_row")))),
  fun K => He.eqO (PySem.W.nsIn K mainGlobals "check_edition") (some (some (.ref (He.ga K "check_edition")))),
  fun K => He.eqO (PySem.W.nsIn K mainGlobals "kept_books") (some (some (.ref (He.ga K "kept_books")))),
  fun K => He.eqO (PySem.W.nsIn K mainGlobals "kept_book") (some (some (.ref (He.ga K "kept_book")))),
  fun K => He.eqO (PySem.W.nsIn K mainGlobals "kept_chapter") (some (some (.ref (He.ga K "kept_chapter")))),
  fun K => He.eqO (PySem.W.nsIn K mainGlobals "check_counts") (some (some (.ref (He.ga K "check_counts")))),
  fun K => He.eqO (PySem.W.nsIn K mainGlobals "kept_lines") (some (some (.ref (He.ga K "kept_lines")))),
  fun K => He.eqO (PySem.W.nsIn K mainGlobals "lines_of_pair") (some (some (.ref (He.ga K "lines_of_pair")))),
  fun K => He.eqO (PySem.W.nsIn K mainGlobals "fewest_pairs") (some (some (.ref (He.ga K "fewest_pairs")))),
  fun K => He.eqO (PySem.W.nsIn K mainGlobals "places_in") (some (some (.ref (He.ga K "places_in")))),
  fun K => He.eqO (PySem.W.nsIn K mainGlobals "stretches_of") (some (some (.ref (He.ga K "stretches_of")))),
  fun K => He.eqO (PySem.W.nsIn K mainGlobals "all_of") (some (some (.ref (He.ga K "all_of")))),
  fun K => He.eqO (PySem.W.nsIn K mainGlobals "spot_places") (some (some (.ref (He.ga K "spot_places")))),
  fun K => He.eqO (PySem.W.nsIn K mainGlobals "places_of_numbers") (some (some (.ref (He.ga K "places_of_numbers")))),
  fun K => He.eqO (PySem.W.nsIn K mainGlobals "places_of_stretches") (some (some (.ref (He.ga K "places_of_stretches")))),
  fun K => He.eqO (PySem.W.nsIn K mainGlobals "is_places_of") (some (some (.ref (He.ga K "is_places_of")))),
  fun K => He.eqO (PySem.W.nsIn K mainGlobals "kept_pairs") (some (some (.ref (He.ga K "kept_pairs")))),
  fun K => He.eqO (PySem.W.nsIn K mainGlobals "is_stretch") (some (some (.ref (He.ga K "is_stretch")))),
  fun K => He.eqO (PySem.W.nsIn K mainGlobals "numbers_in") (some (some (.ref (He.ga K "numbers_in")))),
  fun K => He.eqO (PySem.W.nsIn K mainGlobals "runs_of") (some (some (.ref (He.ga K "runs_of")))),
  fun K => He.eqO (PySem.W.nsIn K mainGlobals "runs_text") (some (some (.ref (He.ga K "runs_text")))),
  fun K => He.eqO (PySem.W.nsIn K mainGlobals "stretch_text") (some (some (.ref (He.ga K "stretch_text")))),
  fun K => He.eqO (PySem.W.nsIn K mainGlobals "shows_rows") (some (some (.ref (He.ga K "shows_rows")))),
  fun K => He.eqO (PySem.W.nsIn K mainGlobals "same_editions") (some (some (.ref (He.ga K "same_editions"))))]
def fsM0_1 : List Fct := [fun K => He.eqO (PySem.W.nsIn K mainGlobals "parts_with_lines") (some (some (.ref (He.ga K "parts_with_lines")))),
  fun K => He.eqO (PySem.W.nsIn K mainGlobals "places_led") (some (some (.ref (He.ga K "places_led")))),
  fun K => He.eqO (PySem.W.nsIn K mainGlobals "places_lost") (some (some (.ref (He.ga K "places_lost")))),
  fun K => He.eqO (PySem.W.nsIn K mainGlobals "rows_of") (some (some (.ref (He.ga K "rows_of")))),
  fun K => He.eqO (PySem.W.nsIn K mainGlobals "goes_on") (some (some (.ref (He.ga K "goes_on")))),
  fun K => He.eqO (PySem.W.nsIn K mainGlobals "row_text") (some (some (.ref (He.ga K "row_text")))),
  fun K => He.eqO (PySem.W.nsIn K mainGlobals "kind_of") (some (some (.ref (He.ga K "kind_of")))),
  fun K => He.eqO (PySem.W.nsIn K mainGlobals "_law_cell_at") (some (some (.ref (He.ga K "_law_cell_at")))),
  fun K => He.eqO (PySem.W.nsIn K mainGlobals "_law_row") (some (some (.ref (He.ga K "_law_row")))),
  fun K => He.eqO (PySem.W.nsIn K mainGlobals "_law_names") (some (some (.ref (He.ga K "_law_names")))),
  fun K => He.eqO (PySem.W.nsIn K mainGlobals "_law_books") (some (some (.ref (He.ga K "_law_books")))),
  fun K => He.eqO (PySem.W.nsIn K mainGlobals "_law_copy") (some (some (.ref (He.ga K "_law_copy")))),
  fun K => He.eqO (PySem.W.nsIn K mainGlobals "_law_spots") (some (some (.ref (He.ga K "_law_spots")))),
  fun K => He.eqO (PySem.W.nsIn K mainGlobals "_law_threads") (some (some (.ref (He.ga K "_law_threads")))),
  fun K => He.eqO (PySem.W.nsIn K mainGlobals "_law_edition") (some (some (.ref (He.ga K "_law_edition")))),
  fun K => He.eqO (PySem.W.nsIn K mainGlobals "_law_two") (some (some (.ref (He.ga K "_law_two")))),
  fun K => He.eqO (PySem.W.nsIn K mainGlobals "_law_goes") (some (some (.ref (He.ga K "_law_goes")))),
  fun K => He.eqO (PySem.W.nsIn K mainGlobals "_law_rows") (some (some (.ref (He.ga K "_law_rows")))),
  fun K => He.eqO (PySem.W.nsIn K mainGlobals "_law_alike") (some (some (.ref (He.ga K "_law_alike")))),
  fun K => He.eqO (PySem.W.nsIn K mainGlobals "_law_turned_row") (some (some (.ref (He.ga K "_law_turned_row")))),
  fun K => He.eqO (PySem.W.nsIn K mainGlobals "_law_forged") (some (some (.ref (He.ga K "_law_forged")))),
  fun K => He.eqO (PySem.W.nsIn K mainGlobals "_law_refused") (some (some (.ref (He.ga K "_law_refused")))),
  fun K => He.eqO (PySem.W.nsIn K mainGlobals "law") (some (some (.ref (He.ga K "law")))),
  fun K => He.eqO (PySem.W.nsIn K mainGlobals "LookupError") (some none),
  fun K => He.eqO (PySem.W.nsIn K mainGlobals "ValueError") (some none),
  fun K => He.eqO (PySem.W.nsIn K mainGlobals "abs") (some none),
  fun K => He.eqO (PySem.W.nsIn K mainGlobals "all") (some none),
  fun K => He.eqO (PySem.W.nsIn K mainGlobals "any") (some none),
  fun K => He.eqO (PySem.W.nsIn K mainGlobals "bool") (some none),
  fun K => He.eqO (PySem.W.nsIn K mainGlobals "enumerate") (some none)]
def fsM0_2 : List Fct := [fun K => He.eqO (PySem.W.nsIn K mainGlobals "int") (some none),
  fun K => He.eqO (PySem.W.nsIn K mainGlobals "isinstance") (some none),
  fun K => He.eqO (PySem.W.nsIn K mainGlobals "len") (some none),
  fun K => He.eqO (PySem.W.nsIn K mainGlobals "list") (some none),
  fun K => He.eqO (PySem.W.nsIn K mainGlobals "max") (some none),
  fun K => He.eqO (PySem.W.nsIn K mainGlobals "range") (some none),
  fun K => He.eqO (PySem.W.nsIn K mainGlobals "sorted") (some none),
  fun K => He.eqO (PySem.W.nsIn K mainGlobals "str") (some none),
  fun K => He.eqO (PySem.W.nsIn K mainGlobals "sum") (some none),
  fun K => He.eqO (PySem.W.nsIn K mainGlobals "tuple") (some none),
  intF "LAST_LINE" 9999,
  intF "LONGEST_NAME" 6,
  intF "MOST_BOOKS" 6,
  intF "MOST_BOOK_CHAPTERS" 12,
  intF "MOST_CHAPTERS" 40,
  intF "MOST_PAIRS_editions" 400,
  intF "MOST_PAIRS_places" 400,
  intF "MOST_PARTS" 400,
  intF "MOST_VERSES" 30,
  intF "MOST_VERSE_PARTS" 4,
  strF "SMALL_LETTERS" "abcdefghijklmnopqrstuvwxyz",
  fun K => He.eqO (PySem.W.nsIn K mainGlobals "Edition") (some (some (.ref (He.ga K "Edition")))),
  fun K => He.eqO (PySem.W.findIn K (.ref (He.ga K "Edition")) "__init__") (some (some (.ref (He.ma K (He.ga K "Edition") "__init__")))),
  fun K => PySem.W.isFn K (.ref (He.ma K (He.ga K "Edition") "__init__")),
  fun K => PySem.W.makesIn K (He.ga K "Edition"),
  fun K => PySem.W.keepIn K (.ref (He.ga K "Edition")),
  fun K => PySem.W.plainGet K (He.ga K "Edition") Str.empty,
  fun K => PySem.W.hasDictIn K (He.ga K "Edition"),
  fun K => PySem.W.plainOver K (He.ga K "Edition"),
  fun K => He.eqO (PySem.W.findIn K (.ref (He.ga K "Edition")) "__setattr__") (some (some (.builtin "object.__setattr__")))]
def fsM0_3 : List Fct := [fun K => He.eqO (PySem.W.findIn K (.ref (He.ga K "Edition")) "_books") (some none),
  fun K => He.eqO (PySem.W.findIn K (.ref (He.ga K "Edition")) "_chapters") (some none),
  fun K => He.eqO (PySem.W.findIn K (.ref (He.ga K "Edition")) "_places") (some none),
  fun K => He.eqO (PySem.W.findIn K (.ref (He.ga K "Edition")) "_stretches") (some none),
  fun K => He.eqO (PySem.W.findIn K (.ref (He.ga K "Edition")) "_lines") (some none),
  fun K => He.eqO (PySem.W.findIn K (.ref (He.ga K "Edition")) "_numbers") (some none),
  fun K => He.eqO (PySem.W.findIn K (.ref (He.ga K "Edition")) "_told") (some none),
  fun K => He.eqO (PySem.W.findIn K (.ref (He.ga K "Edition")) "__class__") (some (some (.builtin "object.__class__"))),
  fun K => He.eqO (PySem.W.specialIn K (.builtin "object.__class__") "__get__") (some (some (.builtin "getset_descriptor.__get__"))),
  fun K => decide (PySem.W.takesIn K (.builtin "object.__class__") = some true),
  fun K => decide (PySem.W.mroIn K (He.ga K "Edition") (.type "object") = some true),
  fun K => decide (PySem.W.subIn K (.ref (He.ga K "Edition")) (.type "int") = some false),
  fun K => decide (PySem.W.subIn K (.ref (He.ga K "Edition")) (.type "bool") = some false),
  fun K => decide (PySem.W.subIn K (.ref (He.ga K "Edition")) (.type "str") = some false),
  fun K => He.eqO (PySem.W.findIn K (.ref (He.ga K "Edition")) "lines") (some (some (.ref (He.ma K (He.ga K "Edition") "lines")))),
  fun K => PySem.W.isFn K (.ref (He.ma K (He.ga K "Edition") "lines")),
  fun K => He.eqO (PySem.W.findIn K (.ref (He.ga K "Edition")) "part_of") (some (some (.ref (He.ma K (He.ga K "Edition") "part_of")))),
  fun K => PySem.W.isFn K (.ref (He.ma K (He.ga K "Edition") "part_of")),
  fun K => He.eqO (PySem.W.findIn K (.ref (He.ga K "Edition")) "told") (some (some (.ref (He.ma K (He.ga K "Edition") "told")))),
  fun K => PySem.W.isFn K (.ref (He.ma K (He.ga K "Edition") "told"))]
def fsM0 : List Fct := fsM0_0 ++ fsM0_1 ++ fsM0_2 ++ fsM0_3
def fsM1_0 : List Fct := [fun K => He.eqO (PySem.W.nsIn K mainGlobals "Leading") (some (some (.ref (He.ga K "Leading")))),
  fun K => He.eqO (PySem.W.findIn K (.ref (He.ga K "Leading")) "__init__") (some (some (.ref (He.ma K (He.ga K "Leading") "__init__")))),
  fun K => PySem.W.isFn K (.ref (He.ma K (He.ga K "Leading") "__init__")),
  fun K => PySem.W.makesIn K (He.ga K "Leading"),
  fun K => PySem.W.keepIn K (.ref (He.ga K "Leading")),
  fun K => PySem.W.plainGet K (He.ga K "Leading") Str.empty,
  fun K => PySem.W.hasDictIn K (He.ga K "Leading"),
  fun K => PySem.W.plainOver K (He.ga K "Leading"),
  fun K => He.eqO (PySem.W.findIn K (.ref (He.ga K "Leading")) "__setattr__") (some (some (.builtin "object.__setattr__"))),
  fun K => He.eqO (PySem.W.findIn K (.ref (He.ga K "Leading")) "_one") (some none),
  fun K => He.eqO (PySem.W.findIn K (.ref (He.ga K "Leading")) "_other") (some none),
  fun K => He.eqO (PySem.W.findIn K (.ref (He.ga K "Leading")) "_ahead") (some none),
  fun K => He.eqO (PySem.W.findIn K (.ref (He.ga K "Leading")) "_behind") (some none),
  fun K => He.eqO (PySem.W.findIn K (.ref (He.ga K "Leading")) "_rows") (some none),
  fun K => He.eqO (PySem.W.findIn K (.ref (He.ga K "Leading")) "rows") (some (some (.ref (He.ma K (He.ga K "Leading") "rows")))),
  fun K => PySem.W.isFn K (.ref (He.ma K (He.ga K "Leading") "rows")),
  fun K => He.eqO (PySem.W.nsIn K mainGlobals "PlaceError") (some (some (.ref (He.ga K "PlaceError")))),
  fun K => He.eqO (PySem.W.nsIn K mainGlobals "NoEdition") (some (some (.ref (He.ga K "NoEdition")))),
  fun K => valF (.type "ValueError") (.type "type") "__init__" (.builtin "ValueError.__init__") K,
  fun K => valF (.ref (He.ga K "PlaceError")) (.type "type") "__init__" (.ref (He.ma K (He.ga K "PlaceError") "__init__")) K,
  fun K => He.eqO (PySem.W.specialIn K (.ref (He.ga K "PlaceError")) "__getattribute__") (some (some (.builtin "type.__getattribute__"))),
  fun K => PySem.W.readsIn K (He.ga K "PlaceError") (.type "type"),
  fun K => excB (He.ga K "NoEdition") (He.ma K (He.ga K "NoEdition") "__init__") K,
  fun K => exiB (He.ga K "NoEdition") K,
  fun K => decide (PySem.W.exmOne K (.ref (He.ga K "NoEdition")) (.ref (He.ga K "NoEdition")) = some true),
  fun K => noBiB (He.ga K "Edition") K]
def fsM1 : List Fct := fsM1_0
def fnsM2 : List He.DefD := [fnM_0, fnM_1, fnM_2, fnM_3, fnM_4, fnM_5, fnM_6, fnM_7, fnM_8, fnM_9, fnM_10, fnM_11, fnM_12, fnM_13, fnM_14, fnM_15, fnM_16, fnM_17, fnM_18, fnM_19, fnM_20, fnM_21, fnM_22, fnM_23, fnM_24, fnM_25, fnM_26, fnM_27, fnM_28, fnM_29, fnM_30, fnM_31, fnM_32, fnM_33, fnM_34, fnM_35, fnM_36, fnM_37, fnM_38, fnM_39, fnM_40, fnM_41, fnM_42, fnM_43, fnM_44, fnM_45, fnM_46, fnM_47, fnM_48, fnM_49, fnM_50, fnM_51, fnM_52, fnM_53, fnM_54, fnM_55, fnM_56, fnM_57, fnM_58, fnM_59, fnM_60]
def psM : List (List Fct × List He.DefD) := [(fsM0, []), (fsM1, []), ([], fnsM2)]
abbrev RM : PySem.W.OpenRow := PySem.W.OpenLaw.row PySem.Challenge.rw_bookplaces_k29_forged_rows
abbrev hkM : PySem.W.Hook := hookL 4 psM
def obM (s : PySem.W.SharedT) : List AlM := obsLG 4 psM (HandSHeadRun.getT s)
theorem obM_eq (s : PySem.W.SharedT) : obM s = hkM.obs s.abs := obsLG_eq (HandSHeadRun.getT_eq s)
section
open PySem.W PySem.Calls
theorem runA (w : World) (os : OsState) : (HandSHeadRun.endF (HandSHeadRun.stepQ (HandSHeadRun.denQ HandSHeadRun.tabQ) RM.prog w) 40000 RM.prog w os).map (fun s => HandSHeadRun.looksF RM.prog (boot_heap w.params) s.abs) = some true := by
  kernel_rfl
theorem runB (w : World) (os : OsState) : (HandSHeadRun.endF (HandSHeadRun.stepQ (HandSHeadRun.denQ HandSHeadRun.tabQ) RM.prog w) 40000 RM.prog w os).map (fun s => HandSHeadRun.seenQ (PySem.W.view RM.prog [86]) looseM (importedModules RM.prog.main.body) (fun s => xlAt (PySem.W.view RM.prog [86]) [] s && recOk RM.toRowW.records s) s.abs) = some (openGood (PySem.W.view RM.prog [86]) looseM) := by
  kernel_rfl
theorem runC0 (w : World) (os : OsState) : (HandSHeadRun.endF (HandSHeadRun.stepQ (HandSHeadRun.denQ HandSHeadRun.tabQ) RM.prog w) 40000 RM.prog w os).map (fun s => obsMG 4 fsM0 [] (HandSHeadRun.getT s)) = some (valM []) := by
  kernel_rfl
theorem runC1 (w : World) (os : OsState) : (HandSHeadRun.endF (HandSHeadRun.stepQ (HandSHeadRun.denQ HandSHeadRun.tabQ) RM.prog w) 40000 RM.prog w os).map (fun s => obsMG 4 fsM1 [] (HandSHeadRun.getT s)) = some (valM []) := by
  kernel_rfl
theorem runC2 (w : World) (os : OsState) : (HandSHeadRun.endF (HandSHeadRun.stepQ (HandSHeadRun.denQ HandSHeadRun.tabQ) RM.prog w) 40000 RM.prog w os).map (fun s => obsMG 4 [] fnsM2 (HandSHeadRun.getT s)) = some (valM fnsM2) := by
  kernel_rfl
end
theorem runM (w : World) : HandSHeadRun.RunEq RM (PySem.W.view RM.prog [86]) hkM obM 40000 looseM w := run_parts (runA w) (runB w) (by
  intro p hp
  unfold psM at hp
  simp only [List.mem_cons, List.not_mem_nil, or_false] at hp
  rcases hp with rfl | rfl | rfl
  · exact runC0 w
  · exact runC1 w
  · exact runC2 w)
theorem saysM0 {K : PySem.W.Frag} (c : ∀ p ∈ psM, SaysM p.1 p.2 K) : SaysM fsM0 [] K := c _ (by unfold psM; exact List.mem_of_getElem? (i := 0) rfl)
theorem saysM1 {K : PySem.W.Frag} (c : ∀ p ∈ psM, SaysM p.1 p.2 K) : SaysM fsM1 [] K := c _ (by unfold psM; exact List.mem_of_getElem? (i := 1) rfl)
theorem saysM2 {K : PySem.W.Frag} (c : ∀ p ∈ psM, SaysM p.1 p.2 K) : SaysM [] fnsM2 K := c _ (by unfold psM; exact List.mem_of_getElem? (i := 2) rfl)
end My
set_option Elab.async false
set_option linter.all false
set_option maxRecDepth 100000
set_option maxHeartbeats 4000000
namespace My
open PySem PySem.Spec PyProof.Rows L2
def isNum : V → Bool
  | .int _ => true
  | _ => false
def sp_num (K : PySem.W.Frag) : Sp := fun vs H Q _ => ∃ x : V, vs = [x] ∧ Th K H x ∧ Q (.bl (isNum x)) H
def sp_isTup : Sp := fun vs H Q _ => ∃ (a : Addr) (xs : List V) (lo hi : Int), vs = [.ref a, .int lo, .int hi] ∧ H a = some (.tup xs) ∧ Q (.bl (decide (lo ≤ (xs.length : Int)) && decide ((xs.length : Int) ≤ hi))) H
def sp_isRow : Sp := fun vs H Q _ => ∃ (a : Addr) (xs : List V) (lo hi : Int), vs = [.ref a, .int lo, .int hi] ∧ Rw H a xs ∧ ∀ H', Same H H' → Q (.bl (decide (lo ≤ (xs.length : Int)) && decide ((xs.length : Int) ≤ hi))) H'
section
variable {P : Program} {w : World} {K : PySem.W.Frag} {mg : Str → Option Value} {base : Heap}
theorem ok_isNum (T : Txt K mg) (D : Df K mg "is_number" s_is_number ["thing"]) : Cl P w K mg base 1 "is_number" ["thing"] (sp_num K) := by
  refine ok_of D sc_is_number (fun vs H Q E h => ?_) (fun f cdv A outer s H vs Q E hr h => ?_)
  · obtain ⟨x, rfl, _⟩ := h
    rfl
  · obtain ⟨x, rfl, hx, q⟩ := h
    refine ⟨_, (pss_one (ps_ret (pe_and (pe_callB call_isb (by rfl) T.b_isinstance (by decide +kernel) (pa_cons (pv 0) (pa_cons (pe_bltn (v := .ty "int") (u := .type "int") (by rfl) T.b_int (by decide +kernel) rfl) pa_nil))) (pe_one (pe_not (pe_callB call_isb (by rfl) T.b_isinstance (by decide +kernel) (pa_cons (pv 0) (pa_cons (pe_bltn (v := .ty "bool") (u := .type "bool") (by rfl) T.b_bool (by decide +kernel) rfl) pa_nil)))))))), ?_⟩
    refine ⟨x, rfl, hx.int? ⟨_, rfl, ite2 (fun e => ?_) (fun e => ?_)⟩⟩
    · refine ⟨x, rfl, hx.bl? ⟨_, rfl, ?_⟩⟩
      have e2 : isNum x = !vBl x := by
        cases x with
        | int i => rfl
        | bl b => rfl
        | _ => exact absurd e Bool.false_ne_true
      exact e2 ▸ q
    · have e2 : isNum x = false := by
        cases x with
        | int i => exact absurd rfl e
        | _ => rfl
      exact e2 ▸ q
theorem ok_whole (T : Txt K mg) (c_is_number : Cl P w K mg base 1 "is_number" ["thing"] (sp_num K)) (D : Df K mg "is_whole" s_is_whole ["thing", "low", "high"]) : Cl P w K mg base 2 "is_whole" ["thing", "low", "high"] (sp_whole K) := by
  refine ok_of D sc_is_whole (fun vs H Q E h => ?_) (fun f cdv A outer s H vs Q E hr h => ?_)
  · obtain ⟨p, n, z, rfl, _⟩ := h
    rfl
  · obtain ⟨x, lo, hi, rfl, hx, q⟩ := h
    refine ⟨_, (pss_one (ps_ret (pe_and (pe_cl c_is_number hr (by decide) (by rfl) (pa_cons (pv 0) pa_nil)) (pe_one (pe_chain op_le op_le (pv 1) (pv 0) (pv 2)))))), ?_⟩
    have qf : whole x lo hi = false → Q (.bl false) H := fun e => e ▸ q
    refine ⟨x, rfl, x, rfl, hx, _, rfl, ite2 (fun e => ?_) (fun e => ?_)⟩
    · cases x with
      | int i =>
        refine ⟨.int lo, rfl, .int i, rfl, lo, i, rfl, rfl, _, rfl, ite2 (fun e3 => ?_) (fun e3 => ?_)⟩
        · refine ⟨.int hi, rfl, i, hi, rfl, rfl, ?_⟩
          have e4 : whole (.int i) lo hi = decide (i ≤ hi) := by
            show (decide (lo ≤ i) && decide (i ≤ hi)) = _
            rw [e3, Bool.true_and]
          show Q (.bl (decide (i ≤ hi))) H
          rw [← e4]
          exact q
        · refine qf ?_
          show (decide (lo ≤ i) && decide (i ≤ hi)) = _
          rw [Bool.eq_false_iff.mpr e3, Bool.false_and]
      | _ => exact absurd e Bool.false_ne_true
    · refine qf ?_
      cases x with
      | int i => exact absurd rfl e
      | _ => rfl
theorem ok_made (T : Txt K mg) (D : Df K mg "is_made_of" s_is_made_of ["thing", "signs", "most"]) : Cl P w K mg base 2 "is_made_of" ["thing", "signs", "most"] (sp_made K) := by
  refine ok_of D sc_is_made_of (fun vs H Q E h => ?_) (fun f cdv A outer s H vs Q E hr h => ?_)
  · obtain ⟨x, rfl, _⟩ := h
    rfl
  · obtain ⟨x, rfl, hx, q⟩ := h
    refine ⟨_, (pss_one (ps_ret (pe_and (pe_callB call_isb (by rfl) T.b_isinstance (by decide +kernel) (pa_cons (pv 0) (pa_cons (pe_bltn (v := .ty "str") (u := .type "str") (by rfl) T.b_str (by decide +kernel) rfl) pa_nil))) (pe_and (pe_chain op_le op_le pe_int (pe_callB call_len (by rfl) T.b_len (by decide +kernel) (pa_cons (pv 0) pa_nil)) (pv 2)) (pe_one (pe_callB (cr_all rfl) (by rfl) T.b_all (by decide +kernel) (pa_cons (pe_lc (own := [("sign", 3)]) rfl sc_is_made_of.nd (pi_str (pv 0)) (blkOk_by (own := [("sign", 3)]) (N := N_is_made_of) (sc := defScope s_is_made_of) (by decide +kernel)) (fun _ _ _ _ _ => (pg_name (i := 3) sc_is_made_of.nd rfl (.inl rfl))) (fun _ _ _ _ _ => pts_nil) (fun _ _ _ _ _ => (pe_cmpR op_in_sign (pv 3) (pv 1) rfl))) pa_nil))))))), ?_⟩
    have qf : ∀ H', Same H H' → nameV x = false → Q (.bl false) H' := fun H' s e => e ▸ q H' s
    refine ⟨x, rfl, hx.str? ⟨_, rfl, ite2 (fun e => ?_) (fun e => ?_)⟩⟩
    · obtain ⟨l, rfl, hl, ha⟩ := hx.str_of e
      refine ⟨.str (SX.S l), rfl, _, _, rfl, ⟨S_le hl, rfl⟩, 1, _, rfl, rfl, _, rfl, ite2 (fun e2 => ?_) (fun e2 => ?_)⟩
      · have f2 := of_decide_eq_true e2
        rw [SX.S_len] at f2
        refine ⟨.int 6, rfl, _, 6, rfl, rfl, _, rfl, ite2 (fun e3 => ?_) (fun e3 => ?_)⟩
        · have f3 := of_decide_eq_true e3
          rw [SX.S_len] at f3
          refine ⟨.str (SX.S l), rfl, _, rfl, fun Dl hDl => ?_⟩
          refine lc_it walk_str (fun i H' => Same H H' ∧ H' Dl = some (.lst ((l.take i).map fun c => .bl (decide (c ∈ letters26))))) ⟨same_new hDl, upd_same⟩ (fun _ _ _ _ => trivial) ?_ ?_
          · rintro i x H1 H2 hi ⟨hs, hD⟩ ⟨rfl, c, hc, rfl⟩
            refine ⟨rfl, .str ⟨#[c]⟩, rfl, .str "abcdefghijklmnopqrstuvwxyz", rfl, c, _, rfl, rfl, _, hD, ?_, ?_, ?_⟩
            · rw [List.length_map, List.length_take]
              exact Evl.sz_lt (by omega)
            · exact fun b o e => by
                rw [upd_ne (ne_of_none e hDl)]
                exact hs b o e
            · have hc' : l[i]? = some c := by
                rw [← hc]
                simp
              rw [upd_same, List.take_add_one, hc', List.map_append]
              rfl
          · rintro H1 ⟨hs, hD⟩
            have hsz : (SX.S l).cps.size = l.length := SX.S_len l
            rw [hsz, List.take_length] at hD
            refine ⟨Dl, l.map fun c => decide (c ∈ letters26), rfl, .inl (.inl (by rw [hD, List.map_map]; rfl)), ?_⟩
            have e5 : nameV (.str (SX.S l)) = (l.map fun c => decide (c ∈ letters26)).all id := by
              rw [nameV_S]
              unfold nameL
              rw [decide_eq_true (by omega), decide_eq_true (by omega), List.all_map]
              rfl
            exact e5 ▸ q H1 hs
        · refine qf H (Same.refl H) ?_
          rw [nameV_S]
          unfold nameL
          have f3 : ¬ l.length ≤ 6 := fun z => e3 (decide_eq_true (by rw [SX.S_len]; omega))
          rw [decide_eq_false f3, Bool.and_false, Bool.false_and]
      · refine ⟨_, rfl, ite2 (fun z => absurd z (by decide)) fun _ => qf H (Same.refl H) ?_⟩
        rw [nameV_S]
        unfold nameL
        have f3 : ¬ 1 ≤ l.length := fun z => e2 (decide_eq_true (by rw [SX.S_len]; omega))
        rw [decide_eq_false f3, Bool.false_and, Bool.false_and]
    · exact qf H (Same.refl H) (nameV_no e)
theorem ok_name (T : Txt K mg) (c_is_made_of : Cl P w K mg base 2 "is_made_of" ["thing", "signs", "most"] (sp_made K)) (D : Df K mg "is_name" s_is_name ["thing"]) : Cl P w K mg base 3 "is_name" ["thing"] (sp_name K) := by
  refine ok_of D sc_is_name (fun vs H Q E h => ?_) (fun f cdv A outer s H vs Q E hr h => ?_)
  · obtain ⟨x, rfl, _⟩ := h
    rfl
  · obtain ⟨x, rfl, hx, q⟩ := h
    refine ⟨_, (pss_one (ps_ret (pe_cl c_is_made_of hr (by decide) (by rfl) (pa_cons (pv 0) (pa_cons (C8.pe_gc (by rfl) T.g_SMALL_LETTERS) (pa_cons (C8.pe_gc (by rfl) T.g_LONGEST_NAME) pa_nil)))))), ?_⟩
    exact ⟨x, rfl, x, rfl, hx, q⟩
theorem ok_isTup (T : Txt K mg) (D : Df K mg "is_tuple" s_is_tuple ["thing", "fewest", "most"]) : Cl P w K mg base 2 "is_tuple" ["thing", "fewest", "most"] sp_isTup := by
  refine ok_of D sc_is_tuple (fun vs H Q E h => ?_) (fun f cdv A outer s H vs Q E hr h => ?_)
  · obtain ⟨a, xs, lo, hi, rfl, _⟩ := h
    rfl
  · obtain ⟨a, xs, lo, hi, rfl, ha, q⟩ := h
    refine ⟨_, (pss_one (ps_ret (pe_and (pe_callB call_isb (by rfl) T.b_isinstance (by decide +kernel) (pa_cons (pv 0) (pa_cons (pe_bltn (v := .ty "tuple") (u := .type "tuple") (by rfl) T.b_tuple (by decide +kernel) rfl) pa_nil))) (pe_one (pe_chain op_le op_le (pv 1) (pe_callB call_len (by rfl) T.b_len (by decide +kernel) (pa_cons (pv 0) pa_nil)) (pv 2)))))), ?_⟩
    refine ⟨.ref a, rfl, isi_b (b := true) (.tup ha) (by decide +kernel) ⟨_, rfl, ite2 (fun _ => ?_) (fun z => absurd rfl z)⟩⟩
    refine ⟨.int lo, rfl, .ref a, rfl, _, _, rfl, .inr ⟨_, .inl (.inl ha), rfl⟩, lo, _, rfl, rfl, _, rfl, ite2 (fun e => ?_) (fun e => ?_)⟩
    · refine ⟨.int hi, rfl, _, _, rfl, rfl, ?_⟩
      rw [e, Bool.true_and] at q
      exact q
    · rw [Bool.eq_false_iff.mpr e, Bool.false_and] at q
      exact q
theorem ok_isRow (T : Txt K mg) (D : Df K mg "is_row" s_is_row ["thing", "fewest", "most"]) : Cl P w K mg base 2 "is_row" ["thing", "fewest", "most"] sp_isRow := by
  refine ok_of D sc_is_row (fun vs H Q E h => ?_) (fun f cdv A outer s H vs Q E hr h => ?_)
  · obtain ⟨a, xs, lo, hi, rfl, _⟩ := h
    rfl
  · obtain ⟨a, xs, lo, hi, rfl, ha, q⟩ := h
    refine ⟨_, (pss_one (ps_ret (pe_and (pe_callB call_isiT (by rfl) T.b_isinstance (by decide +kernel) (pa_cons (pv 0) (pa_cons (pe_tup (pa_cons (pe_bltn (v := .ty "list") (u := .type "list") (by rfl) T.b_list (by decide +kernel) rfl) (pa_cons (pe_bltn (v := .ty "tuple") (u := .type "tuple") (by rfl) T.b_tuple (by decide +kernel) rfl) pa_nil))) pa_nil))) (pe_one (pe_chain op_le op_le (pv 1) (pe_callB call_len (by rfl) T.b_len (by decide +kernel) (pa_cons (pv 0) pa_nil)) (pv 2)))))), ?_⟩
    refine ⟨.ref a, rfl, by show 2 ≤ sizeLine; decide, fun t ht => ?_⟩
    have S1 := same_new (o := .tup [.ty "list", .ty "tuple"]) ht
    obtain ⟨ty, h1, h2⟩ := row_kit (K := K) (ha.same S1)
    refine ⟨.ref a, t, _, ty, _, true, rfl, upd_same, two_ty, h1, h2, _, rfl, ite2 (fun _ => ?_) (fun z => absurd rfl z)⟩
    refine ⟨.int lo, rfl, .ref a, rfl, ?_⟩
    obtain ⟨b, hq⟩ := (ha.same S1).sq (K := K)
    refine ⟨_, _, rfl, hq.lenV, lo, _, rfl, rfl, _, rfl, ite2 (fun e => ?_) (fun e => ?_)⟩
    · refine ⟨.int hi, rfl, _, _, rfl, rfl, ?_⟩
      have q := q _ S1
      rw [e, Bool.true_and] at q
      exact q
    · have q := q _ S1
      rw [Bool.eq_false_iff.mpr e, Bool.false_and] at q
      exact q
end
end My
set_option Elab.async false
set_option linter.all false
set_option maxRecDepth 100000
set_option maxHeartbeats 4000000
/-! D1: names, rows, shapes, pairs: what they are. -/
namespace My
open PySem PySem.Spec PyProof.Rows L2
def bookD (b : List (List Int)) : PyData := .list (b.map rowD)
def shD (S : List (List (List Int))) : PyData := .list (S.map bookD)
structure okRow (c : List Int) : Prop where
  l0 : 1 ≤ c.length
  l1 : c.length ≤ 30
  x : ∀ x ∈ c, 1 ≤ x ∧ x ≤ 4
structure okSh (S : List (List (List Int))) : Prop where
  s0 : 1 ≤ S.length
  s1 : S.length ≤ 6
  b : ∀ b ∈ S, 1 ≤ b.length ∧ b.length ≤ 12 ∧ ∀ c ∈ b, okRow c
  chs : (S.map List.length).sum ≤ 40
  prs : (S.map fun b => (b.map List.sum).sum).sum ≤ 400
theorem rep_int (k : Nat) (z : Int) : (List.replicate k [V.int z]).flatten = (List.replicate k z).map V.int := by
  induction k with
  | zero => rfl
  | succ k ih =>
    rw [List.replicate_succ, List.flatten_cons, ih, List.replicate_succ]
    rfl
theorem sum10a : ∀ b : List (List Int), (∀ r ∈ b, r.sum = 10) → (b.map List.sum).sum = 10 * (b.length : Int)
  | [], _ => rfl
  | r :: b, h => by
    rw [List.map_cons, List.sum_cons, sum10a b fun x hx => h x (List.mem_cons_of_mem _ hx), h r (List.mem_cons_self ..), List.length_cons]
    omega
theorem sum10 : ∀ S : List (List (List Int)), (∀ b ∈ S, ∀ r ∈ b, r.sum = 10) → (S.map fun b => (b.map List.sum).sum).sum = 10 * ((S.map List.length).sum : Nat)
  | [], _ => rfl
  | b :: S, h => by
    rw [List.map_cons, List.sum_cons, sum10 S fun x hx => h x (List.mem_cons_of_mem _ hx), sum10a b (h b (List.mem_cons_self ..)), List.map_cons, List.sum_cons]
    omega
theorem okSh_way0 {S : List (List (List Int))} {cs : List Int} (sl : S.map List.length = cs.map Int.toNat) (sr : ∀ b ∈ S, ∀ r ∈ b, okRow r ∧ r.sum = 10) (cl0 : 1 ≤ cs.length) (cl1 : cs.length ≤ 6) (csum : (cs.map Int.toNat).sum = 40) (cx : ∀ x ∈ cs, 1 ≤ x ∧ x ≤ 12) : okSh S := by
  have el : S.length = cs.length := by
    have := congrArg List.length sl
    rwa [List.length_map, List.length_map] at this
  refine ⟨by omega, by omega, fun b hb => ?_, by rw [sl, csum]; exact Nat.le_refl _, ?_⟩
  · have hm : b.length ∈ S.map List.length := List.mem_map_of_mem hb
    rw [sl] at hm
    obtain ⟨x, hx, e⟩ := List.mem_map.mp hm
    have := cx x hx
    exact ⟨by omega, by omega, fun c hc => (sr b hb c hc).1⟩
  · rw [sum10 S fun b hb r hr => (sr b hb r hr).2, sl, csum]
    decide
theorem sum_le (k : Int) : ∀ r : List Int, (∀ x ∈ r, x ≤ k) → r.sum ≤ k * r.length
  | [], _ => by simp
  | x :: r, h => by
    have h1 := h x (List.mem_cons_self ..)
    have h2 := sum_le k r fun y hy => h y (List.mem_cons_of_mem _ hy)
    rw [List.sum_cons, List.length_cons]
    have e : k * ((r.length + 1 : Nat) : Int) = k * (r.length : Int) + k := by
      rw [Int.natCast_add, Int.mul_add]
      simp
    omega
theorem okSh_small {S : List (List (List Int))} (s0 : 1 ≤ S.length) (s1 : S.length ≤ 6) (h : ∀ b ∈ S, 1 ≤ b.length ∧ b.length ≤ 3 ∧ ∀ c ∈ b, 1 ≤ c.length ∧ c.length ≤ 4 ∧ ∀ x ∈ c, 1 ≤ x ∧ x ≤ 4) : okSh S := by
  refine ⟨s0, s1, fun b hb => ⟨(h b hb).1, by have := (h b hb).2.1; omega, fun c hc => ⟨((h b hb).2.2 c hc).1, by have := ((h b hb).2.2 c hc).2.1; omega, ((h b hb).2.2 c hc).2.2⟩⟩, ?_, ?_⟩
  · have key : ∀ T : List (List (List Int)), (∀ b ∈ T, b.length ≤ 3) → (T.map List.length).sum ≤ 3 * T.length := by
      intro T
      induction T with
      | nil => intro _; simp
      | cons b T ih =>
        intro k
        have := ih fun x hx => k x (List.mem_cons_of_mem _ hx)
        have := k b (List.mem_cons_self ..)
        rw [List.map_cons, List.sum_cons, List.length_cons]
        omega
    have := key S fun b hb => (h b hb).2.1
    omega
  · have key1 : ∀ b : List (List Int), (∀ c ∈ b, c.length ≤ 4 ∧ ∀ x ∈ c, x ≤ 4) → (b.map List.sum).sum ≤ 16 * (b.length : Int) := by
      intro b
      induction b with
      | nil => intro _; simp
      | cons c b ih =>
        intro k
        have h1 := ih fun x hx => k x (List.mem_cons_of_mem _ hx)
        obtain ⟨k1, k2⟩ := k c (List.mem_cons_self ..)
        have h2 := sum_le 4 c k2
        rw [List.map_cons, List.sum_cons, List.length_cons]
        omega
    have key : ∀ T : List (List (List Int)), (∀ b ∈ T, b.length ≤ 3 ∧ ∀ c ∈ b, c.length ≤ 4 ∧ ∀ x ∈ c, x ≤ 4) → (T.map fun b => (b.map List.sum).sum).sum ≤ 48 * (T.length : Int) := by
      intro T
      induction T with
      | nil => intro _; simp
      | cons b T ih =>
        intro k
        have h1 := ih fun x hx => k x (List.mem_cons_of_mem _ hx)
        obtain ⟨k1, k2⟩ := k b (List.mem_cons_self ..)
        have h2 := key1 b k2
        rw [List.map_cons, List.sum_cons, List.length_cons]
        omega
    have := key S fun b hb => ⟨(h b hb).2.1, fun c hc => ⟨((h b hb).2.2 c hc).2.1, fun x hx => (((h b hb).2.2 c hc).2.2 x hx).2⟩⟩
    omega
def nmV (ws : List (List Nat)) : List V := ws.map fun l => .str (SX.S l)
def nmD (ws : List (List Nat)) : List PyData := ws.map fun l => .str (SX.S l)
structure okName (w : List Nat) : Prop where
  l0 : 1 ≤ w.length
  l1 : w.length ≤ 6
  a : ∀ c ∈ w, c ∈ letters26
structure okNames (ws : List (List Nat)) : Prop where
  nd : ws.Nodup
  ok : ∀ w ∈ ws, okName w
theorem let128 : ∀ c ∈ letters26, c < 128 := by decide +kernel
theorem dpall_nm {K : PySem.W.Frag} {H : Hp} : ∀ ws : List (List Nat), DpAll K H (nmV ws) (nmD ws)
  | [] => .nil
  | _ :: r => .cons (.str _) (dpall_nm r)
theorem lay_nm : ∀ ws : List (List Nat), (∀ w ∈ ws, ∀ c ∈ w, c < 128) → PyData.canLayAll0 (nmD ws) = true
  | [], _ => rfl
  | w :: r, h => by
    show (PyData.strOk (SX.S w) && PyData.canLayAll0 (nmD r)) = true
    rw [lay_nm r fun d hd => h d (List.mem_cons_of_mem _ hd), Bool.and_true]
    show (w.toArray.all fun c => decide (c < 0x110000)) = true
    rw [← Array.all_toList, List.all_eq_true]
    intro c hc
    have := h w (List.mem_cons_self ..) c hc
    exact decide_eq_true (by omega)
theorem dep_nm : ∀ ws : List (List Nat), PyData.depthAll (nmD ws) = 0
  | [] => rfl
  | c :: r => by
    show max 0 (PyData.depthAll (nmD r)) = 0
    rw [dep_nm r]
    rfl
theorem shaped_nm {ws : List (List Nat)} (h : ∀ w ∈ ws, ∀ c ∈ w, c < 128) : SeqAt.shaped (.list (nmD ws)) = true := by
  unfold SeqAt.shaped
  rw [Bool.and_eq_true]
  refine ⟨lay_nm ws h, decide_eq_true ?_⟩
  show PyData.depthAll _ + 1 ≤ 64
  rw [dep_nm]
  decide
theorem inV_nm (w : List Nat) : ∀ ws : List (List Nat), inV (.str (SX.S w)) (nmV ws) = decide (w ∈ ws)
  | [] => rfl
  | x :: r => by
    show (eqV (.str (SX.S x)) (.str (SX.S w)) || inV (.str (SX.S w)) (nmV r)) = _
    rw [inV_nm w r]
    show ((SX.S x == SX.S w) || _) = _
    rw [SX.S_beq]
    by_cases e : x = w
    · subst e
      rw [beq_self_eq_true, Bool.true_or]
      exact (decide_eq_true (List.mem_cons_self ..)).symm
    · rw [beq_false_of_ne e, Bool.false_or]
      exact decide_eq_decide.mpr ⟨fun h => List.mem_cons_of_mem _ h, fun h => (List.mem_cons.mp h).resolve_left fun z => e z.symm⟩
theorem flat_nm : ∀ ws : List (List Nat), (nmV ws).all flatV = true
  | [] => rfl
  | _ :: r => by
    show (true && (nmV r).all flatV) = true
    rw [flat_nm r]
    rfl
theorem pigeon : ∀ (l ws : List (List Nat)), l.Nodup → (∀ x ∈ l, x ∈ ws) → l.length ≤ ws.length
  | [], _, _, _ => Nat.zero_le _
  | x :: l, ws, hn, h => by
    have hx := h x (List.mem_cons_self ..)
    rw [List.nodup_cons] at hn
    have := pigeon l (ws.erase x) hn.2 fun y hy => (List.mem_erase_of_ne fun e => hn.1 (by rw [← e]; exact hy)).mpr (h y (List.mem_cons_of_mem _ hy))
    rw [List.length_erase_of_mem hx] at this
    have p : 0 < ws.length := List.length_pos_of_mem hx
    rw [List.length_cons]
    omega
theorem nd26 : letters26.Nodup := by decide +kernel
theorem len26 : letters26.length = 26 := by decide +kernel
theorem some_free (w : List Nat) {ws : List (List Nat)} (h : ws.length ≤ 25) : ∃ c r, letters26.filter (fun c => !decide (w ++ [c] ∈ ws)) = c :: r := by
  cases e : letters26.filter (fun c => !decide (w ++ [c] ∈ ws)) with
  | cons c r => exact ⟨c, r, rfl⟩
  | nil =>
    have hall : ∀ c ∈ letters26, w ++ [c] ∈ ws := by
      intro c hc
      rw [List.filter_eq_nil_iff] at e
      have := e c hc
      simpa using this
    have hnd : ((letters26.map fun c => w ++ [c]) : List (List Nat)).Nodup := by
      refine List.Pairwise.map _ (fun a b (hab : a ≠ b) => ?_) nd26
      intro z
      exact hab (by simpa using z)
    have := pigeon _ ws hnd fun x hx => by
      obtain ⟨c, hc, rfl⟩ := List.mem_map.mp hx
      exact hall c hc
    rw [List.length_map, len26] at this
    omega
def prD (s : Int × Int) : PyData := .tuple [.int s.1, .int s.2]
theorem AtAll.take {p : Av} {H : Hp} : ∀ {ds : List PyData} {vs : List V} (n : Nat), AtAll p H vs ds → AtAll p H (vs.take n) (ds.take n)
  | [], _, n, h => by
    cases h
    rw [List.take_nil, List.take_nil]
    exact .nil
  | d :: ds, _, 0, h => .nil
  | d :: ds, _, n + 1, h => by
    cases h with
    | cons h1 h2 => exact .cons h1 (AtAll.take n h2)
theorem AtAll.drop {p : Av} {H : Hp} : ∀ {ds : List PyData} {vs : List V} (n : Nat), AtAll p H vs ds → AtAll p H (vs.drop n) (ds.drop n)
  | [], _, n, h => by
    cases h
    rw [List.drop_nil, List.drop_nil]
    exact .nil
  | d :: ds, _, 0, h => h
  | d :: ds, _, n + 1, h => by
    cases h with
    | cons h1 h2 => exact AtAll.drop n h2
theorem LcA.put {S : Av} {p : Addr} {n m : Nat} {H H1 H2 : Hp} {D : Addr} {xs ys : List V} {ds es : List PyData} (c : LcA S p n H D xs ds H1) (k : Dr p m H1 H2) (hy : AtAll (Plus S D) H2 ys es) : LcA S p m H D ys es (upd H2 D (.lst ys)) := by
  have L := c.l.keep k
  refine ⟨⟨upd_same, ⟨?_, fun b o hb ho => ?_⟩, L.ne, L.fr⟩, AtAll.bt (BtS.upd (.inr rfl)) _ _ hy⟩
  · obtain ⟨i, j, k, e, r⟩ := L.dr.box
    exact ⟨i, j, k, by rw [upd_ne L.ne.symm]; exact e, r⟩
  · rw [upd_ne (ne_of_none ho L.fr)]
    exact L.dr.bt b o hb ho
theorem LcA.all {S : Av} {p : Addr} {n m : Nat} {H H1 H2 : Hp} {D : Addr} {xs : List V} {ds : List PyData} (c : LcA S p n H D xs ds H1) (hS : S p) (k : Dr p m H1 H2) : AtAll (Plus S D) H2 xs ds := AtAll.bt (k.bt.s.mono fun b z => .inl (z ▸ hS)) _ _ c.a
theorem LcA.on {S : Av} {p : Addr} {n m : Nat} {H H1 H2 : Hp} {D : Addr} {xs : List V} {ds : List PyData} (c : LcA S p n H D xs ds H1) (hS : S p) (k : Dr p m H1 H2) : LcA S p m H D xs ds H2 := ⟨c.l.keep k, c.all hS k⟩
theorem At.pair {S : Av} {H : Hp} {v : V} {s : Int × Int} (h : At S H v (prD s)) : ∃ t, v = .ref t ∧ ¬ S t ∧ H t = some (.tup [.int s.1, .int s.2]) := by
  cases h with
  | tup n e k =>
    cases k with
    | cons h1 h2 =>
      cases h1
      cases h2 with
      | cons h3 h4 =>
        cases h3
        cases h4
        exact ⟨_, rfl, n, e⟩
theorem At.ofpair {S : Av} {H : Hp} {t : Addr} {a b : Int} (n : ¬ S t) (e : H t = some (.tup [.int a, .int b])) : At S H (.ref t) (prD (a, b)) := .tup n e (.cons (.int a) (.cons (.int b) .nil))
/-- stretches apart -/
def Apart (s t : Int × Int) : Prop := s.1 + s.2 ≤ t.1 ∨ t.1 + t.2 ≤ s.1
theorem Apart.symm {s t : Int × Int} (h : Apart s t) : Apart t s := h.elim .inr .inl
structure okPairs (ps : List (Int × Int)) (size : Int) : Prop where
  l0 : ps.length ≤ 400
  x : ∀ s ∈ ps, 0 ≤ s.1 ∧ 1 ≤ s.2 ∧ s.2 ≤ 400 ∧ s.1 + s.2 ≤ 10000
  sum : (ps.map (·.2)).sum = size
  ap : ps.Pairwise Apart
theorem len_sum : ∀ ms : List Int, (∀ m ∈ ms, 1 ≤ m) → (ms.length : Int) ≤ ms.sum
  | [], _ => Int.le_refl _
  | m :: r, h => by
    have := len_sum r fun x hx => h x (List.mem_cons_of_mem _ hx)
    have := h m (List.mem_cons_self ..)
    rw [List.length_cons, List.sum_cons]
    omega
theorem mem_sum : ∀ {ms : List Int}, (∀ m ∈ ms, 1 ≤ m) → ∀ {m : Int}, m ∈ ms → m ≤ ms.sum
  | x :: r, h, m, hm => by
    have h1 := len_sum r fun x hx => h x (List.mem_cons_of_mem _ hx)
    have h2 := h x (List.mem_cons_self ..)
    rw [List.sum_cons]
    rcases List.mem_cons.mp hm with rfl | hm
    · omega
    · have := mem_sum (fun x hx => h x (List.mem_cons_of_mem _ hx)) hm
      omega
theorem rise_ok (b : Bool) {a : Int} (h : 0 ≤ a) : 0 ≤ a * (if b = true then 1 else 0) ∧ a * (if b = true then 1 else 0) ≤ a := by
  cases b with
  | true =>
    rw [if_pos rfl, Int.mul_one]
    exact ⟨h, Int.le_refl _⟩
  | false =>
    rw [if_neg Bool.false_ne_true, Int.mul_zero]
    exact ⟨Int.le_refl _, h⟩
theorem perm_sum {l m : List Int} (h : l.Perm m) : l.sum = m.sum := by
  induction h with
  | nil => rfl
  | cons x _ ih => rw [List.sum_cons, List.sum_cons, ih]
  | swap x y l =>
    rw [List.sum_cons, List.sum_cons, List.sum_cons, List.sum_cons]
    omega
  | trans _ _ h1 h2 => rw [h1, h2]
theorem perm_ins (ps : List (Int × Int)) (x : Int × Int) (d : Nat) : (ps.take d ++ [x] ++ ps.drop d).Perm (ps ++ [x]) := by
  have h1 : (ps.take d ++ [x] ++ ps.drop d).Perm (x :: (ps.take d ++ ps.drop d)) := by
    rw [List.append_assoc]
    exact List.perm_middle
  rw [List.take_append_drop] at h1
  exact h1.trans (List.perm_append_singleton x ps).symm
theorem okPairs_of {ss ps : List (Int × Int)} {ms : List Int} {z ri a0 : Int} (hm : ss.map (·.2) = ms) (h1 : ∀ m ∈ ms, 1 ≤ m) (hz : ms.sum = z) (z1 : z ≤ 400) (r0 : 0 ≤ ri) (r1 : ri ≤ 10000 - a0) (hx : ∀ s ∈ ss, 0 ≤ s.1 ∧ s.1 + s.2 ≤ a0)
    (hp : ss.Pairwise fun s t => s.1 + s.2 ≤ t.1) (e : ps.Perm (ss.map fun s => (s.1 + ri, s.2))) : okPairs ps z := by
  have l1 := len_sum ms h1
  have l2 : ss.length = ms.length := by
    rw [← hm, List.length_map]
  refine ⟨?_, fun s hs => ?_, ?_, ?_⟩
  · rw [e.length_eq, List.length_map]
    omega
  · obtain ⟨t, ht, rfl⟩ := List.mem_map.mp (e.mem_iff.mp hs)
    have k1 := hx t ht
    have m2 : t.2 ∈ ms := by
      rw [← hm]
      exact List.mem_map_of_mem ht
    have k2 := h1 _ m2
    have k3 := mem_sum h1 m2
    exact ⟨by show 0 ≤ t.1 + ri; omega, k2, by show t.2 ≤ 400; omega, by show t.1 + ri + t.2 ≤ 10000; omega⟩
  · rw [perm_sum (e.map (·.2)), List.map_map]
    exact (congrArg List.sum hm).trans hz
  · refine (e.pairwise_iff fun h => h.symm).mpr ?_
    rw [List.pairwise_map]
    refine hp.imp fun {s t} h => .inl ?_
    show s.1 + ri + s.2 ≤ t.1 + ri
    omega
theorem Occ.dr {S : Av} {H H' : Hp} {p : Addr} {n : Nat} (o : Occ S H) (d : Dr p n H H') : Occ S H' := fun b z e => by
  by_cases q : b = p
  · obtain ⟨i, j, k, e2, _⟩ := d.box
    rw [q, e2] at e
    cases e
  · cases h : H b with
    | none => exact o b z h
    | some x =>
      rw [d.bt b x q h] at e
      cases e
end My
set_option Elab.async false
set_option linter.all false
set_option maxRecDepth 100000
set_option maxHeartbeats 4000000
namespace My
open PySem PySem.Spec PyProof.Rows L2
def sp_keptCh : Sp := fun vs H Q _ => ∃ (S : Av) (v : V) (c : List Int), vs = [v] ∧ Occ S H ∧ ChIn S H v c ∧ okRow c ∧ ∀ v' H', Same H H' → At S H' v' (chD c) → Q v' H'
section
variable {P : Program} {w : World} {K : PySem.W.Frag} {mg : Str → Option Value} {base : Heap}
theorem ok_keptCh (T : Txt K mg) (c_is_whole : Cl P w K mg base 2 "is_whole" ["thing", "low", "high"] (sp_whole K)) (c_is_row : Cl P w K mg base 2 "is_row" ["thing", "fewest", "most"] sp_isRow) (D : Df K mg "kept_chapter" s_kept_chapter ["chapter"]) : Cl P w K mg base 3 "kept_chapter" ["chapter"] sp_keptCh := by
  refine ok_of D sc_kept_chapter (fun vs H Q E h => ?_) (fun f cdv A outer s H vs Q E hr h => ?_)
  · obtain ⟨S, v, c, rfl, _⟩ := h
    rfl
  · obtain ⟨S, v, c, rfl, ho, ⟨a, rfl, na, ra⟩, ok, q⟩ := h
    refine ⟨_, (pss_cons (ps_if (pt_not (pt_val (pe_cl c_is_row hr (by decide) (by rfl) (pa_cons (pv 0) (pa_cons pe_int (pa_cons (C8.pe_gc (by rfl) T.g_MOST_VERSES) pa_nil)))))) (pss_one ps_never) pss_nil)
      (pss_cons (ps_if (pt_not (pt_val (pe_callB (cr_all rfl) (by rfl) T.b_all (by decide +kernel) (pa_cons (pe_lc (own := [("parts", 1)]) rfl sc_kept_chapter.nd (pi_row (pv 0)) (blkOk_by (own := [("parts", 1)]) (N := N_kept_chapter) (sc := defScope s_kept_chapter) (by decide +kernel)) (fun _ _ _ _ _ => (pg_name (i := 1) sc_kept_chapter.nd rfl (.inl rfl))) (fun _ _ _ _ _ => pts_nil) (fun _ _ _ _ _ => (pe_cl c_is_whole hr (by decide) (by rfl) (pa_cons (pv 1) (pa_cons pe_int (pa_cons (C8.pe_gc (by rfl) T.g_MOST_VERSE_PARTS) pa_nil)))))) pa_nil)))) (pss_one ps_never) pss_nil)
      (pss_one (ps_ret (pe_callTy call_tuple_of (by rfl) T.b_tuple (by decide +kernel) (pa_cons (pv 0) pa_nil)))))), ?_⟩
    have l1 : ((c.map V.int).length : Int) ≤ 30 := by
      rw [List.length_map]
      have := ok.l1
      omega
    have l0 : (1 : Int) ≤ ((c.map V.int).length : Int) := by
      rw [List.length_map]
      have := ok.l0
      omega
    refine ⟨.ref a, rfl, a, _, 1, 30, rfl, ra, fun H1 S1 => ?_⟩
    rw [decide_eq_true l0, decide_eq_true l1]
    refine ⟨_, rfl, ite2 (fun z => absurd z (by decide)) fun _ => ?_⟩
    obtain ⟨b, hq⟩ := (ra.same S1).sq (K := K)
    refine ⟨.ref a, rfl, a, b, _, rfl, hq, fun Dl hDl => ?_⟩
    refine lc_it walk_row (fun i H' => Same H1 H' ∧ H' Dl = some (.lst ((c.take i).map fun _ => .bl true))) ⟨same_new hDl, upd_same⟩ (fun i H' _ ⟨z, _⟩ => hq.same z) ?_ ?_
    · rintro i x H2 H2' hi ⟨hs, hD⟩ ⟨rfl, hx⟩
      rw [List.length_map] at hi
      have hci : c[i]? = some c[i] := List.getElem?_eq_getElem hi
      rw [List.getElem?_map, hci] at hx
      cases hx
      have hz := ok.x c[i] (List.getElem_mem hi)
      have ew : whole (.int c[i]) 1 4 = true := by
        show (decide (1 ≤ c[i]) && decide (c[i] ≤ 4)) = true
        rw [decide_eq_true hz.1, decide_eq_true hz.2, Bool.true_and]
      refine ⟨rfl, .int c[i], rfl, .int c[i], 1, 4, rfl, .int _, ?_⟩
      rw [ew]
      refine ⟨_, hD, ?_, ?_, ?_⟩
      · rw [List.length_map, List.length_take]
        exact Evl.sz_lt (by have := ok.l1; omega)
      · exact fun b o e => by
          rw [upd_ne (ne_of_none e hDl)]
          exact hs b o e
      · rw [upd_same, List.take_add_one, hci, List.map_append]
        rfl
    · rintro H2 ⟨hs, hD⟩
      rw [List.length_map, List.take_length] at hD
      refine ⟨Dl, c.map fun _ => true, rfl, .inl (.inl (by rw [hD, List.map_map]; rfl)), ?_⟩
      have e5 : (c.map fun _ => true).all id = true := by
        rw [List.all_map]
        exact List.all_eq_true.mpr fun _ _ => rfl
      rw [e5]
      refine ⟨_, rfl, ite2 (fun z => absurd z (by decide)) fun _ => ?_⟩
      exact ⟨.ref a, rfl, row_tuple (ho.same (S1.trans hs)) na (ra.same (S1.trans hs)) (AtAll.ints c) fun v H' s' hv => q v H' ((S1.trans hs).trans s') hv⟩
theorem okName.name {w : List Nat} (h : okName w) : nameL w = true := by
  unfold nameL
  rw [decide_eq_true h.l0, decide_eq_true h.l1, Bool.true_and, Bool.true_and]
  exact List.all_eq_true.mpr fun c hc => decide_eq_true (h.a c hc)
def sp_keptBk : Sp := fun vs H Q _ => ∃ (S : Av) (v : V) (nm : List Nat) (C : List (List Int)) (n : Addr) (nms : List (List Nat)), vs = [v, .ref n] ∧ Occ S H ∧ BkIn S H v nm C ∧ H n = some (.lst (nmV nms)) ∧ okName nm ∧ nm ∉ nms ∧ 1 ≤ C.length ∧ C.length ≤ 12 ∧ (∀ c ∈ C, okRow c) ∧
  ∀ v' H', Same H H' → At S H' v' (bkD (nm, C)) → Q v' H'
theorem ok_keptBk (T : Txt K mg) (c_is_name : Cl P w K mg base 3 "is_name" ["thing"] (sp_name K)) (c_is_tuple : Cl P w K mg base 2 "is_tuple" ["thing", "fewest", "most"] sp_isTup) (c_is_row : Cl P w K mg base 2 "is_row" ["thing", "fewest", "most"] sp_isRow) (c_kept_chapter : Cl P w K mg base 3 "kept_chapter" ["chapter"] sp_keptCh) (D : Df K mg "kept_book" s_kept_book ["book", "names"]) : Cl P w K mg base 4 "kept_book" ["book", "names"] sp_keptBk := by
  refine ok_of D sc_kept_book (fun vs H Q E h => ?_) (fun f cdv A outer s H vs Q E hr h => ?_)
  · obtain ⟨S, v, nm, C, n, nms, rfl, _⟩ := h
    rfl
  · obtain ⟨S, v, nm, C, n, nms, rfl, ho, ⟨a, c, xs, rfl, ha, hc, hx⟩, hn, on, nn, c0, c1, ok, q⟩ := h
    refine ⟨_, (pss_cons (ps_if (pt_not (pt_val (pe_cl c_is_tuple hr (by decide) (by rfl) (pa_cons (pv 0) (pa_cons pe_int (pa_cons pe_int pa_nil)))))) (pss_one ps_never) pss_nil)
      (pss_cons (ps_asg (pv 0) (pg_tup rfl (pgs_cons (pg_name (i := 2) sc_kept_book.nd rfl (.inl rfl)) (pgs_cons (pg_name (i := 3) sc_kept_book.nd rfl (.inl rfl)) pgs_nil))))
      (pss_cons (ps_if (pt_not (pt_val (pe_cl c_is_name hr (by decide) (by rfl) (pa_cons (pv 2) pa_nil)))) (pss_one ps_never) pss_nil)
      (pss_cons (ps_if (pt_cmpR op_in_seq (pv 2) (pv 1) rfl) (pss_one ps_never) pss_nil)
      (pss_cons (ps_if (pt_not (pt_val (pe_cl c_is_row hr (by decide) (by rfl) (pa_cons (pv 3) (pa_cons pe_int (pa_cons (C8.pe_gc (by rfl) T.g_MOST_BOOK_CHAPTERS) pa_nil)))))) (pss_one ps_never) pss_nil)
      (pss_one (ps_ret (pe_tup (pa_cons (pv 2) (pa_cons (pe_callTy call_tuple_of (by rfl) T.b_tuple (by decide +kernel) (pa_cons (pe_lc (own := [("chapter", 4)]) rfl sc_kept_book.nd (pi_row (pv 3)) (blkOk_by (own := [("chapter", 4)]) (N := N_kept_book) (sc := defScope s_kept_book) (by decide +kernel)) (fun _ _ _ _ _ => (pg_name (i := 4) sc_kept_book.nd rfl (.inl rfl))) (fun _ _ _ _ _ => pts_nil) (fun _ _ _ _ _ => (pe_cl c_kept_chapter hr (by decide) (by rfl) (pa_cons (pv 4) pa_nil)))) pa_nil)) pa_nil)))))))))), ?_⟩
    have lx := hx.1
    have l1 : (xs.length : Int) ≤ 12 := by omega
    have l0 : (1 : Int) ≤ (xs.length : Int) := by omega
    have eN : nameV (.str (SX.S nm)) = true := on.name
    refine ⟨.ref a, rfl, a, _, 2, 2, rfl, ha, _, rfl, ite2 (fun z => absurd (show false = true from z) Bool.false_ne_true) fun _ => ?_⟩
    refine ⟨.ref a, rfl, a, _, rfl, .inl (.inl ha), rfl, _, _, rfl, _, _, rfl, rfl, ?_⟩
    refine ⟨_, rfl, _, rfl, .str nm (by have := on.l1; omega) (fun c h => let128 c (on.a c h)), fun H1 S1 => ?_⟩
    rw [eN]
    refine ⟨_, rfl, ite2 (fun z => absurd z (by decide)) fun _ => ?_⟩
    refine ⟨_, rfl, .ref n, rfl, n, _, rfl, .inl (.inl (.inl (S1 _ _ hn))), rfl, flat_nm nms, _, rfl, ?_⟩
    rw [if_neg Bool.false_ne_true, inV_nm, decide_eq_false nn]
    refine ite2 (fun z => absurd z (by decide)) fun _ => ?_
    refine ⟨.ref c, rfl, c, _, 1, 12, rfl, hc.same S1, fun H2 S2 => ?_⟩
    rw [decide_eq_true l0, decide_eq_true l1]
    refine ⟨_, rfl, ite2 (fun z => absurd z (by decide)) fun _ => ?_⟩
    have S12 := S1.trans S2
    obtain ⟨b, hq⟩ := (hc.same S12).sq (K := K)
    refine ⟨_, rfl, .ref c, rfl, c, b, _, rfl, hq, fun Dl hDl => ?_⟩
    have hfr := Same.fresh S12 hDl
    refine lc_it walk_row (fun i H' => ∃ rows : List V, LcS S H2 Dl rows ((C.take i).map chD) H') ⟨[], LcS.start hDl⟩ (fun i H' _ ⟨rows, L⟩ => Sq.same hq L.s) ?_ ?_
    · rintro i x H3 H3' hi ⟨rows, L⟩ ⟨rfl, hxi⟩
      have hci : C[i]? = some C[i] := List.getElem?_eq_getElem (by omega)
      have hch := ((hx.plusN hfr).2 i x _ hxi hci).same (S12.trans L.s)
      refine ⟨rfl, x, rfl, Plus S Dl, x, C[i], rfl, L.occ (ho.same S12), hch, ok _ (List.getElem_mem _), fun v' H4 S4 hv => ?_⟩
      have L4 := L.keep S4
      refine ⟨rows, L4.at_, ?_, rows ++ [v'], ?_⟩
      · rw [L.len, List.length_map, List.length_take]
        exact Evl.sz_lt (by omega)
      · have := L4.step hv
        rw [List.take_add_one, hci, List.map_append]
        exact this
    · rintro H3 ⟨rows, L⟩
      rw [lx, List.take_length] at L
      have nD : ¬ S Dl := ho.free hfr
      refine ⟨Dl, rows, rfl, .inl ⟨.inl (.inl L.at_), fun l hl => ?_⟩⟩
      have S4 := same_new (o := .tup rows) hl
      have hl0 : H l = none := Same.fresh (S12.trans L.s) hl
      have hv : At S (upd H3 l (.tup rows)) (.ref l) (chsD C) := .tup (ho.free hl0) upd_same (AtAll.same L.done S4)
      refine ⟨by show 2 ≤ sizeLine; decide, fun t ht => ?_⟩
      have S5 := same_new (o := .tup [.str (SX.S nm), .ref l]) ht
      have ht0 : H t = none := Same.fresh (S12.trans (L.s.trans S4)) ht
      exact q _ _ (S12.trans (L.s.trans (S4.trans S5))) (.tup (ho.free ht0) upd_same (.cons (.str _) (.cons (At.same hv S5) .nil)))
theorem flat_le {α : Type} {β : Type} (f : α → List β) (n : Nat) : ∀ l : List α, (∀ b ∈ l, (f b).length ≤ n) → (l.flatMap f).length ≤ n * l.length
  | [], _ => Nat.zero_le _
  | b :: r, h => by
    have h1 := h b (List.mem_cons_self ..)
    have h2 := flat_le f n r fun c hc => h c (List.mem_cons_of_mem _ hc)
    rw [List.flatMap_cons, List.length_append, List.length_cons, Nat.mul_add]
    omega
theorem flat_sum : ∀ B : List (List Nat × List (List Int)), (B.flatMap fun b => b.2.map List.sum).sum = (B.map fun b => (b.2.map List.sum).sum).sum
  | [] => rfl
  | b :: r => by
    rw [List.flatMap_cons, List.sum_append, flat_sum r, List.map_cons, List.sum_cons]
theorem int_sumL : ∀ (B : List (List Nat × List (List Int))), ((B.map fun b => (b.2.length : Int)).sum) = (((B.map fun b => b.2.length).sum : Nat) : Int)
  | [] => rfl
  | b :: r => by
    rw [List.map_cons, List.sum_cons, List.map_cons, List.sum_cons, int_sumL r]
    omega
def sp_counts : Sp := fun vs H Q _ => ∃ (S : Av) (k : Addr) (xs : List V) (B : List (List Nat × List (List Int))), vs = [.ref k] ∧ H k = some (.lst xs) ∧ AtAll S H xs (B.map bkD) ∧ B.length ≤ 6 ∧ (∀ b ∈ B, b.2.length ≤ 12 ∧ ∀ c ∈ b.2, c.length ≤ 30) ∧ (B.map fun b => b.2.length).sum ≤ 40 ∧ (B.map fun b => (b.2.map List.sum).sum).sum ≤ 400 ∧ ∀ H', Same H H' → Q .non H'
theorem ok_counts (T : Txt K mg) (D : Df K mg "check_counts" s_check_counts ["books"]) : Cl P w K mg base 2 "check_counts" ["books"] sp_counts := by
  refine ok_of D sc_check_counts (fun vs H Q E h => ?_) (fun f cdv A outer s H vs Q E hr h => ?_)
  · obtain ⟨S, k, xs, B, rfl, _⟩ := h
    rfl
  · obtain ⟨S, k, xs, B, rfl, hk, ha, hB, hC, s1, s2, q⟩ := h
    refine ⟨_, (pss_cons (ps_setLc (i := 1) (own := [("name", 3), ("chapters", 4)]) rfl sc_check_counts.nd rfl rfl (sw_true rfl rfl rfl (by decide +kernel)) (pi_list (pv 0)) (blkOk_by (own := [("name", 3), ("chapters", 4)]) (N := N_check_counts) (sc := defScope s_check_counts) (by decide +kernel)) (fun _ _ _ _ _ => (pg_tupK (K := K) (n := 2) rfl rfl (pgs_cons (pg_name (i := 3) sc_check_counts.nd rfl (.inl rfl)) (pgs_cons (pg_name (i := 4) sc_check_counts.nd rfl (.inl rfl)) pgs_nil)))) (fun _ _ _ _ _ => pts_nil) (fun _ _ _ _ _ => (pe_callB (call_lenK (K := K) rfl) (by rfl) T.b_len (by decide +kernel) (pa_cons (pv 4) pa_nil))))
      (pss_cons (ps_if (pt_cmpR op_gt (pe_callB (cr_sum rfl) (by rfl) T.b_sum (by decide +kernel) (pa_cons (pv 1) pa_nil)) (C8.pe_gc (by rfl) T.g_MOST_CHAPTERS) (nomark _)) (pss_one ps_never) pss_nil)
      (pss_cons (ps_set (i := 2) sc_check_counts.nd rfl (.inl rfl) (pe_callB (cr_sum rfl) (by rfl) T.b_sum (by decide +kernel) (pa_cons (pe_lc2 (own := [("name", 3), ("chapters", 4), ("chapter", 5)]) (vs1 := [5]) rfl sc_check_counts.nd (pi_list (pv 0)) (blkOk_by (own := [("name", 3), ("chapters", 4), ("chapter", 5)]) (N := N_check_counts) (sc := defScope s_check_counts) (by decide +kernel)) (by decide) (fun _ _ _ _ _ => (pg_tupK (K := K) (n := 2) rfl rfl (pgs_cons (pg_name (i := 3) sc_check_counts.nd rfl (.inl rfl)) (pgs_cons (pg_name (i := 4) sc_check_counts.nd rfl (.inl rfl)) pgs_nil)))) (fun _ _ _ _ _ => pts_nil) (fun _ _ _ _ _ => (pi_tupK (K := K) rfl (pv 4))) (fun _ _ _ _ _ => (pg_name (i := 5) sc_check_counts.nd rfl (.inl rfl))) (fun _ _ _ _ _ => pts_nil) (fun _ _ _ _ _ => (pe_callB (cr_sumTK (K := K) rfl rfl) (by rfl) T.b_sum (by decide +kernel) (pa_cons (pv 5) pa_nil)))) pa_nil)))
      (pss_one (ps_if (pt_cmpR op_gt (pv 2) (C8.pe_gc (by rfl) T.g_MOST_PARTS) (nomark _)) (pss_one ps_never) pss_nil))))), ?_⟩
    have lx : xs.length = B.length := by rw [ha.len, List.length_map]
    refine ⟨.ref k, rfl, k, rfl, ⟨_, .inl (.inl hk)⟩, fun Dl hDl => ?_⟩
    refine lc_it (walk_list (xs := xs)) (fun i H' => Same H H' ∧ H' Dl = some (.lst (((B.take i).map fun b => (b.2.length : Int)).map V.int))) ⟨same_new hDl, upd_same⟩ (fun i H' _ ⟨z, _⟩ => z.seq (.inl (.inl hk))) ?_ ?_
    · rintro i x H1 H1' hi ⟨S1, hD⟩ ⟨rfl, hx⟩
      obtain ⟨b, hb, hv⟩ := ha.at_ hx
      obtain ⟨a, c, zs, rfl, na, ea, nc, ec, kz⟩ := (At.same hv S1).bk
      refine ⟨a, _, rfl, .inl (.inl ea), rfl, _, _, rfl, _, _, rfl, rfl, rfl, .ref c, rfl, _, _, rfl, .inr ⟨_, .inl (.inl ec), rfl⟩, _, hD, ?_, ?_, ?_⟩
      · rw [List.length_map, List.length_map, List.length_take]
        exact Evl.sz_lt (by omega)
      · exact fun b o e => by
          rw [upd_ne (ne_of_none e hDl)]
          exact S1 b o e
      · rw [upd_same, List.take_add_one, hb, kz.len, List.length_map, List.map_append, List.map_append]
        rfl
    · rintro H1 ⟨S1, hD⟩
      rw [lx, List.take_length] at hD
      refine ⟨.ref Dl, rfl, Dl, _, rfl, .inl (.inl hD), _, 40, rfl, rfl, _, rfl, ite2 (fun z => ?_) (fun _ => ?_)⟩
      · have z := of_decide_eq_true z
        rw [int_sumL] at z
        omega
      · refine ⟨.ref k, rfl, k, rfl, ⟨_, .inl (.inl (S1 _ _ hk))⟩, fun De hDe => ?_⟩
        have hDe0 : H De = none := Same.fresh S1 hDe
        refine lc2_it (walk_list (xs := xs)) (fun i H' => Same H H' ∧ H' De = some (.lst (((B.take i).flatMap fun b => b.2.map List.sum).map V.int))) ⟨S1.trans (same_new hDe), upd_same⟩ (fun i H' _ ⟨z, _⟩ => z.seq (.inl (.inl hk))) ?_ ?_
        · rintro i x H2 H2' hi ⟨S2, hD2⟩ ⟨rfl, hx⟩
          obtain ⟨b, hb, hv⟩ := ha.at_ hx
          have hbm : b ∈ B := List.mem_of_getElem? hb
          have hBi : ((B.take i).flatMap fun b => b.2.map List.sum).length ≤ 12 * i := by
            have := flat_le (fun b : List Nat × List (List Int) => b.2.map List.sum) 12 (B.take i) fun b hb => by
              rw [List.length_map]
              exact (hC b (List.mem_of_mem_take hb)).1
            rw [List.length_take] at this
            have : min i B.length ≤ i := Nat.min_le_left ..
            omega
          obtain ⟨a, c, zs, rfl, na, ea, nc, ec, kz⟩ := hv.bk
          have lz : zs.length = b.2.length := by rw [kz.len, List.length_map]
          refine ⟨a, _, rfl, .inl (.inl (S2 _ _ ea)), rfl, _, _, rfl, _, _, rfl, rfl, rfl, .ref c, rfl, c, rfl, ⟨_, .inl (.inl (S2 _ _ ec))⟩, ?_⟩
          refine turn1_it (walk_tup (xs := zs)) (fun j H' => Same H H' ∧ H' De = some (.lst (((B.take i).flatMap (fun b => b.2.map List.sum) ++ (b.2.take j).map List.sum).map V.int))) ?_ ?_ ?_ ?_
          · refine ⟨S2, ?_⟩
            rw [List.take_zero, List.map_nil, List.append_nil]
            exact hD2
          · exact fun j H' _ ⟨z, _⟩ => .inl (.inl (z _ _ ec))
          · rintro j y H3 H3' hj ⟨S3, hD3⟩ ⟨rfl, hy⟩
            obtain ⟨c', hc', hv'⟩ := kz.at_ hy
            obtain ⟨a', rfl, na', ea'⟩ := (At.same hv' S3).ch
            refine ⟨rfl, .ref a', rfl, a', c', rfl, .inl (.inl ea'), _, hD3, ?_, ?_, ?_⟩
            · have := (hC b hbm).1
              rw [List.length_map, List.length_append, List.length_map, List.length_take]
              exact Evl.sz_lt (by omega)
            · exact fun q o e => by
                rw [upd_ne (ne_of_none e hDe0)]
                exact S3 q o e
            · rw [upd_same, List.take_add_one, hc', List.map_append, List.map_append, List.map_append, List.map_append, List.append_assoc]
              rfl
          · rintro H3 ⟨S3, hD3⟩
            refine ⟨S3, ?_⟩
            rw [hD3, lz, List.take_length, List.take_add_one, hb, List.flatMap_append]
            simp
        · rintro H2 ⟨S2, hD2⟩
          rw [lx, List.take_length] at hD2
          refine ⟨De, _, rfl, .inl (.inl hD2), _, rfl, _, 400, rfl, rfl, _, rfl, ite2 (fun z => ?_) (fun _ => ?_)⟩
          · have z := of_decide_eq_true z
            rw [flat_sum] at z
            omega
          · exact q H2 S2
end
end My
set_option Elab.async false
set_option linter.all false
set_option maxRecDepth 100000
set_option maxHeartbeats 4000000
namespace My
open PySem PySem.Spec PyProof.Rows L2
abbrev Bks := List (List Nat × List (List Int))
/-- books of which an edition is made -/
structure okBks (B : Bks) : Prop where
  l0 : 1 ≤ B.length
  l1 : B.length ≤ 6
  nd : (B.map (·.1)).Nodup
  nm : ∀ b ∈ B, okName b.1
  ch : ∀ b ∈ B, 1 ≤ b.2.length ∧ b.2.length ≤ 12 ∧ ∀ c ∈ b.2, okRow c
  chs : (B.map fun b => b.2.length).sum ≤ 40
  prs : (B.map fun b => (b.2.map List.sum).sum).sum ≤ 400
/-- books handed in -/
def BksIn (S : Av) (H : Hp) (v : V) (B : Bks) : Prop := ∃ a xs, v = .ref a ∧ Rw H a xs ∧ xs.length = B.length ∧ ∀ (i : Nat) (x : V) (b : List Nat × List (List Int)), xs[i]? = some x → B[i]? = some b → BkIn S H x b.1 b.2
theorem BksIn.same {S : Av} {H H' : Hp} {v : V} {B : Bks} (h : BksIn S H v B) (s : Same H H') : BksIn S H' v B := by
  obtain ⟨a, xs, e, r, l, k⟩ := h
  exact ⟨a, xs, e, r.same s, l, fun i x b h1 h2 => (k i x b h1 h2).same s⟩
def sp_keptBks : Sp := fun vs H Q _ => ∃ (S : Av) (v : V) (B : Bks), vs = [v] ∧ Occ S H ∧ BksIn S H v B ∧ okBks B ∧ ∀ v' H', Same H H' → At S H' v' (bksD B) → Q v' H'
section
variable {P : Program} {w : World} {K : PySem.W.Frag} {mg : Str → Option Value} {base : Heap}
theorem ok_keptBks (T : Txt K mg) (c_is_row : Cl P w K mg base 2 "is_row" ["thing", "fewest", "most"] sp_isRow) (c_kept_book : Cl P w K mg base 4 "kept_book" ["book", "names"] sp_keptBk) (c_check_counts : Cl P w K mg base 2 "check_counts" ["books"] sp_counts) (D : Df K mg "kept_books" s_kept_books ["books"]) : Cl P w K mg base 5 "kept_books" ["books"] sp_keptBks := by
  refine ok_of D sc_kept_books (fun vs H Q E h => ?_) (fun f cdv A outer s H vs Q E hr h => ?_)
  · obtain ⟨S, v, B, rfl, _⟩ := h
    rfl
  · obtain ⟨S, v, B, rfl, ho, ⟨a, xs, rfl, ra, lx, hx⟩, ok, q⟩ := h
    refine ⟨_, (pss_cons (ps_if (pt_not (pt_val (pe_cl c_is_row hr (by decide) (by rfl) (pa_cons (pv 0) (pa_cons pe_int (pa_cons (C8.pe_gc (by rfl) T.g_MOST_BOOKS) pa_nil)))))) (pss_one ps_never) pss_nil)
      (pss_cons (ps_set (i := 1) sc_kept_books.nd rfl (.inl rfl) (pe_lst pa_nil))
      (pss_cons (ps_for PassesOwn.never rfl (pi_row (pv 0)) (pg_name (i := 2) sc_kept_books.nd rfl (.inl rfl))
        (pss_cons (ps_setLc (i := 3) (own := [("name", 4), ("chapters", 5)]) rfl sc_kept_books.nd rfl rfl (sw_true rfl rfl rfl (by decide +kernel)) (pi_list (pv 1)) (blkOk_by (own := [("name", 4), ("chapters", 5)]) (N := N_kept_books) (sc := defScope s_kept_books) (by decide +kernel)) (fun _ _ _ _ _ => (pg_tupK (K := K) (n := 2) rfl rfl (pgs_cons (pg_name (i := 4) sc_kept_books.nd rfl (.inl rfl)) (pgs_cons (pg_name (i := 5) sc_kept_books.nd rfl (.inl rfl)) pgs_nil)))) (fun _ _ _ _ _ => pts_nil) (fun _ _ _ _ _ => (pv 4)))
        (pss_one (ps_expr (pe_bm PySem.F.plainAttrs_list PySem.F.slot_list_append PySem.F.type_list_append mt_append (pv 1) (pa_cons (pe_cl c_kept_book hr (by decide) (by rfl) (pa_cons (pv 2) (pa_cons (pv 3) pa_nil))) pa_nil))))))
      (pss_cons (ps_expr (pe_cl c_check_counts hr (by decide) (by rfl) (pa_cons (pv 1) pa_nil)))
      (pss_one (ps_ret (pe_callTy call_tuple_of (by rfl) T.b_tuple (by decide +kernel) (pa_cons (pv 1) pa_nil)))))))), ?_⟩
    have l1 : (xs.length : Int) ≤ 6 := by
      have := ok.l1
      omega
    have l0 : (1 : Int) ≤ (xs.length : Int) := by
      have := ok.l0
      omega
    refine ⟨.ref a, rfl, a, _, 1, 6, rfl, ra, fun H1 S1 => ?_⟩
    rw [decide_eq_true l0, decide_eq_true l1]
    refine ⟨_, rfl, ite2 (fun z => absurd z (by decide)) fun _ => ?_⟩
    refine ⟨Nat.zero_le _, fun k hk => ?_⟩
    have hk0 : H k = none := Same.fresh S1 hk
    obtain ⟨bb, hq⟩ := (ra.same S1).sq (K := K)
    refine ⟨.ref a, rfl, a, bb, _, rfl, Sq.same hq (same_new hk), for_it walk_row (fun i σ H' => ∃ (t2 t3 t4 t5 : Option V) (rows : List V), σ = [some (.ref a), some (.ref k), t2, t3, t4, t5] ∧ LcS S H1 k rows ((B.take i).map bkD) H') ⟨_, _, _, _, _, rfl, LcS.start hk⟩ (fun i σ H' _ ⟨_, _, _, _, _, _, L⟩ => Sq.same hq L.s) ?_ ?_⟩
    · rintro i x σ H2 H2' hi ⟨t2, t3, t4, t5, rows, rfl, L⟩ ⟨rfl, hxi⟩
      have hbi : B[i]? = some B[i] := List.getElem?_eq_getElem (by omega)
      have hbm : B[i] ∈ B := List.getElem_mem _
      refine ⟨.ref k, rfl, k, rfl, ⟨_, .inl (.inl L.at_)⟩, fun n hn => ?_⟩
      have nk : n ≠ k := fun z => by
        rw [z, L.at_] at hn
        cases hn
      refine lc_it (walk_list (xs := rows)) (fun j H' => Same H2' H' ∧ H' n = some (.lst (nmV ((B.take j).map (·.1))))) ⟨same_new hn, upd_same⟩ (fun i H' _ ⟨z, _⟩ => z.seq (.inl (.inl L.at_))) ?_ ?_
      · rintro j y H3 H3' hj ⟨S3, hD⟩ ⟨rfl, hy⟩
        obtain ⟨b, hb, hv⟩ := L.a.at_ hy
        have hb' : B[j]? = some b := by
          rw [List.getElem?_take] at hb
          split at hb
          · exact hb
          · cases hb
        obtain ⟨a', c, zs, rfl, na, ea, nc, ec, kz⟩ := (At.same hv S3).bk
        refine ⟨a', _, rfl, .inl (.inl ea), rfl, _, _, rfl, _, _, rfl, rfl, rfl, _, rfl, _, hD, ?_, ?_, ?_⟩
        · unfold nmV
          rw [List.length_map, List.length_map, List.length_take]
          exact Evl.sz_lt (by have := ok.l1; omega)
        · exact fun b o e => by
            rw [upd_ne (ne_of_none e hn)]
            exact S3 b o e
        · rw [upd_same, List.take_add_one, hb', List.map_append]
          unfold nmV
          rw [List.map_append]
          rfl
      · rintro H3 ⟨S3, hD⟩
        have lr : rows.length = i := by
          rw [L.len, List.length_map, List.length_take]
          omega
        rw [lr] at hD
        have L3 := L.keep S3
        refine ⟨.ref k, rfl, .inl ⟨rfl, _, .inl (.inl L3.at_)⟩, ?_⟩
        refine ⟨x, rfl, .ref n, rfl, Plus S k, x, B[i].1, B[i].2, n, (B.take i).map (·.1), rfl, L3.occ (ho.same S1), ?_, hD, ok.nm _ hbm, ?_, (ok.ch _ hbm).1, (ok.ch _ hbm).2.1, (ok.ch _ hbm).2.2, fun v' H4 S4 hv' => ?_⟩
        · exact ((hx i x _ hxi hbi).plusN hk0).same (S1.trans L3.s)
        · intro z
          obtain ⟨b', hb', e'⟩ := List.mem_map.mp z
          obtain ⟨j, hj⟩ := List.mem_iff_getElem?.mp hb'
          rw [List.getElem?_take] at hj
          split at hj
          · rename_i hji
            have h1 : (B.map (·.1))[j]? = some B[i].1 := by
              rw [List.getElem?_map, hj, ← e']
              rfl
            have h2 : (B.map (·.1))[i]? = some B[i].1 := by
              rw [List.getElem?_map, hbi]
              rfl
            have := (List.getElem?_inj (i := j) (by rw [List.length_map]; omega) ok.nd).mp (h1.trans h2.symm)
            omega
          · cases hj
        · have L4 := L3.keep S4
          refine ⟨k, _, _, rfl, rfl, L4.at_, ?_, ?_⟩
          · rw [lr]
            exact Evl.sz_lt (by have := ok.l1; omega)
          · refine ⟨_, _, _, _, rows ++ [v'], rfl, ?_⟩
            have := L4.step hv'
            rw [List.take_add_one, hbi, List.map_append]
            exact this
    · rintro σ H2 ⟨t2, t3, t4, t5, rows, rfl, L⟩
      rw [lx, List.take_length] at L
      refine ⟨.ref k, rfl, S, k, rows, B, rfl, L.at_, L.done, ok.l1, fun b hb => ⟨(ok.ch b hb).2.1, fun c hc => ((ok.ch b hb).2.2 c hc).l1⟩, ok.chs, ok.prs, fun H3 S3 => ?_⟩
      have L3 := L.keep S3
      refine ⟨.ref k, rfl, k, rows, rfl, .inl ⟨.inl (.inl L3.at_), fun l hl => ?_⟩⟩
      have S4 := same_new (o := .tup rows) hl
      have hl0 : H l = none := Same.fresh (S1.trans L3.s) hl
      exact q _ _ (S1.trans (L3.s.trans S4)) (.tup (ho.free hl0) upd_same (AtAll.same L3.done S4))
end
end My
set_option Elab.async false
set_option linter.all false
set_option maxRecDepth 100000
set_option maxHeartbeats 4000000
namespace My
open PySem PySem.Spec PyProof.Rows L2
def lnP (s : Int × Int) : List Int := (List.range s.2.toNat).map fun (i : Nat) => s.1 + (i : Int)
def lnOf (ps : List (Int × Int)) : List Int := ps.flatMap lnP
theorem lnP_len (s : Int × Int) : (lnP s).length = s.2.toNat := by
  unfold lnP
  rw [List.length_map, List.length_range]
theorem rg_ln (a b : Int) : rgV a b = (lnP (a, b - a)).map V.int := by
  unfold rgV lnP
  rw [List.map_map]
  rfl
theorem mem_lnP {s : Int × Int} {z : Int} (h : z ∈ lnP s) : s.1 ≤ z ∧ z < s.1 + s.2 := by
  obtain ⟨i, hi, rfl⟩ := List.mem_map.mp h
  have := List.mem_range.mp hi
  omega
def sp_lnPair : Sp := fun vs H Q _ => ∃ (a : Addr) (s : Int × Int), vs = [.ref a] ∧ H a = some (.tup [.int s.1, .int s.2]) ∧ 0 ≤ s.1 ∧ 1 ≤ s.2 ∧ s.2 ≤ 400 ∧ s.1 + s.2 ≤ 10000 ∧ ∀ l, H l = none → Q (.ref l) (upd H l (.lst ((lnP s).map V.int)))
section
variable {P : Program} {w : World} {K : PySem.W.Frag} {mg : Str → Option Value} {base : Heap}
theorem ok_lnPair (T : Txt K mg) (c_is_whole : Cl P w K mg base 2 "is_whole" ["thing", "low", "high"] (sp_whole K)) (c_is_tuple : Cl P w K mg base 2 "is_tuple" ["thing", "fewest", "most"] sp_isTup) (D : Df K mg "lines_of_pair" s_lines_of_pair ["pair"]) : Cl P w K mg base 3 "lines_of_pair" ["pair"] sp_lnPair := by
  refine ok_of D sc_lines_of_pair (fun vs H Q E h => ?_) (fun f cdv A outer s H vs Q E hr h => ?_)
  · obtain ⟨a, s, rfl, _⟩ := h
    rfl
  · obtain ⟨a, ⟨s1, s2⟩, rfl, ha, h0, h1, h2, h3, q⟩ := h
    have h0 : 0 ≤ s1 := h0
    have h1 : 1 ≤ s2 := h1
    have h2 : s2 ≤ 400 := h2
    have h3 : s1 + s2 ≤ 10000 := h3
    refine ⟨_, (pss_cons (ps_if (pt_not (pt_val (pe_cl c_is_tuple hr (by decide) (by rfl) (pa_cons (pv 0) (pa_cons pe_int (pa_cons pe_int pa_nil)))))) (pss_one ps_never) pss_nil)
      (pss_cons (ps_asg (pv 0) (pg_tup rfl (pgs_cons (pg_name (i := 1) sc_lines_of_pair.nd rfl (.inl rfl)) (pgs_cons (pg_name (i := 2) sc_lines_of_pair.nd rfl (.inl rfl)) pgs_nil))))
      (pss_cons (ps_if (pt_not (PW.pt (pw_and (pt_val (pe_cl c_is_whole hr (by decide) (by rfl) (pa_cons (pv 1) (pa_cons pe_int (pa_cons (C8.pe_gc (by rfl) T.g_LAST_LINE) pa_nil))))) (pw_and1 (pt_val (pe_cl c_is_whole hr (by decide) (by rfl) (pa_cons (pv 2) (pa_cons pe_int (pa_cons (C8.pe_gc (by rfl) T.g_MOST_PARTS) pa_nil))))))))) (pss_one ps_never) pss_nil)
      (pss_cons (ps_if (pt_cmpR op_gt (pe_op op_sub (pe_op op_add (pv 1) (pv 2)) pe_int) (C8.pe_gc (by rfl) T.g_LAST_LINE) (nomark _)) (pss_one ps_never) pss_nil)
      (pss_one (ps_ret (pe_listRg rfl (by rfl) T.b_list (prg_2 (by rfl) T.b_range (pv 1) (pe_op op_add (pv 1) (pv 2)))))))))), ?_⟩
    refine ⟨.ref a, rfl, a, _, 2, 2, rfl, ha, _, rfl, ite2 (fun z => absurd (show false = true from z) Bool.false_ne_true) fun _ => ?_⟩
    refine ⟨.ref a, rfl, a, _, rfl, .inl (.inl ha), rfl, _, _, rfl, _, _, rfl, rfl, ?_⟩
    have e1 : whole (.int s1) 0 9999 = true := by
      show (decide (0 ≤ s1) && decide (s1 ≤ 9999)) = true
      rw [decide_eq_true h0, decide_eq_true (by omega), Bool.true_and]
    have e2 : whole (.int s2) 1 400 = true := by
      show (decide (1 ≤ s2) && decide (s2 ≤ 400)) = true
      rw [decide_eq_true h1, decide_eq_true h2, Bool.true_and]
    refine ⟨_, rfl, .int s1, 0, 9999, rfl, .int _, ?_⟩
    rw [e1]
    refine ⟨_, rfl, ite2 (fun _ => ?_) (fun z => absurd rfl z)⟩
    refine ⟨_, rfl, .int s2, 1, 400, rfl, .int _, ?_⟩
    rw [e2]
    refine ⟨_, rfl, ite2 (fun z => absurd z (by decide)) fun _ => ?_⟩
    refine ⟨_, rfl, _, rfl, s1, s2, rfl, rfl, s1 + s2, 1, rfl, rfl, _, 9999, rfl, rfl, _, rfl, ite2 (fun z => ?_) fun _ => ?_⟩
    · have z := of_decide_eq_true z
      omega
    · refine ⟨_, rfl, _, rfl, _, rfl, s1, s2, rfl, rfl, s1, s1 + s2, rfl, rfl, RgOk.of_le (by omega) (by omega) (by omega) (by omega), fun l hl => ?_⟩
      have e : s1 + s2 - s1 = s2 := by omega
      have := q l hl
      rw [rg_ln, e]
      exact this
/-- the dict of what is taken -/
def tkD (L : List Int) : List (Key × V) := L.map fun z => ((Sum.inl z : Key), V.bl true)
theorem tk_any (L : List Int) (z : Int) : ((tkD L).any fun kv => decide (kv.1 = (Sum.inl z : Key))) = decide (z ∈ L) := by
  unfold tkD
  rw [List.any_map]
  induction L with
  | nil => rfl
  | cons y r ih =>
    rw [List.any_cons, ih]
    show (decide ((Sum.inl y : Key) = Sum.inl z) || _) = _
    by_cases e : y = z
    · subst e
      rw [decide_eq_true rfl, Bool.true_or]
      exact (decide_eq_true (List.mem_cons_self ..)).symm
    · rw [decide_eq_false (fun h => e (Sum.inl.inj h)), Bool.false_or]
      exact decide_eq_decide.mpr ⟨fun h => List.mem_cons_of_mem _ h, fun h => (List.mem_cons.mp h).resolve_left fun q => e q.symm⟩
theorem tk_val {L : List Int} {z : Int} (h : z ∉ L) : valV (tkD L) (Sum.inl z : Key) = none := by
  unfold valV
  have e : (tkD L).find? (fun kv => decide (kv.1 = (Sum.inl z : Key))) = none := by
    rw [List.find?_eq_none]
    intro kv hk hd
    have : ((tkD L).any fun kv => decide (kv.1 = (Sum.inl z : Key))) = true := List.any_eq_true.mpr ⟨kv, hk, hd⟩
    rw [tk_any] at this
    exact h (of_decide_eq_true this)
  rw [e]
  rfl
theorem tk_put {L : List Int} {z : Int} (h : z ∉ L) : putK (tkD L) (Sum.inl z : Key) (.bl true) = tkD (L ++ [z]) := by
  unfold putK
  rw [tk_any, decide_eq_false h, if_neg Bool.false_ne_true]
  unfold tkD
  rw [List.map_append]
  rfl
theorem tk_keys (L : List Int) : (tkD L).map (fun kv => kV kv.1) = L.map V.int := by
  unfold tkD
  rw [List.map_map]
  rfl
theorem lnOf_len : ∀ ps : List (Int × Int), (∀ s ∈ ps, 1 ≤ s.2) → ((lnOf ps).length : Int) = (ps.map (·.2)).sum
  | [], _ => rfl
  | s :: r, h => by
    have h1 := lnOf_len r fun x hx => h x (List.mem_cons_of_mem _ hx)
    have h2 := h s (List.mem_cons_self ..)
    unfold lnOf at h1 ⊢
    rw [List.flatMap_cons, List.length_append, List.map_cons, List.sum_cons, ← h1, lnP_len]
    omega
/-- lines handed in: none, or pairs -/
def LnIn (H : Hp) (v : V) : Option (List (Int × Int)) → Prop
  | none => v = .non
  | some ps => ∃ a xs, v = .ref a ∧ Rw H a xs ∧ xs.length = ps.length ∧ ∀ (i : Nat) (x : V) (s : Int × Int), xs[i]? = some x → ps[i]? = some s → ∃ t, x = .ref t ∧ H t = some (.tup [.int s.1, .int s.2])
theorem LnIn.same {H H' : Hp} {v : V} {o : Option (List (Int × Int))} (h : LnIn H v o) (z : Same H H') : LnIn H' v o := by
  cases o with
  | none => exact h
  | some ps =>
    obtain ⟨a, xs, e, r, l, k⟩ := h
    exact ⟨a, xs, e, r.same z, l, fun i x s h1 h2 => let ⟨t, e1, e2⟩ := k i x s h1 h2; ⟨t, e1, z _ _ e2⟩⟩
def okLn (o : Option (List (Int × Int))) (n : Int) : Prop := 0 ≤ n ∧ n ≤ 400 ∧ match o with
  | none => True
  | some ps => okPairs ps n
def lnsD (o : Option (List (Int × Int))) (n : Int) : List Int := match o with
  | none => lnP (0, n)
  | some ps => lnOf ps
def sp_keptLn : Sp := fun vs H Q _ => ∃ (v : V) (o : Option (List (Int × Int))) (n : Int), vs = [v, .int n] ∧ LnIn H v o ∧ okLn o n ∧ ∀ l H', H l = none → Same H H' → H' l = some (.lst ((lnsD o n).map V.int)) → Q (.ref l) H'
theorem ok_keptLn (T : Txt K mg) (c_is_row : Cl P w K mg base 2 "is_row" ["thing", "fewest", "most"] sp_isRow) (c_lines_of_pair : Cl P w K mg base 3 "lines_of_pair" ["pair"] sp_lnPair) (D : Df K mg "kept_lines" s_kept_lines ["lines", "size"]) : Cl P w K mg base 4 "kept_lines" ["lines", "size"] sp_keptLn := by
  refine ok_of D sc_kept_lines (fun vs H Q E h => ?_) (fun f cdv A outer s H vs Q E hr h => ?_)
  · obtain ⟨v, o, n, rfl, _⟩ := h
    rfl
  · obtain ⟨v, o, n, rfl, hi, ⟨n0, n1, ok⟩, q⟩ := h
    refine ⟨_, (pss_cons (ps_if (pt_cmpR op_isN (pv 0) pe_non (nomark _)) (pss_one (ps_ret (pe_listRg rfl (by rfl) T.b_list (prg_1 (by rfl) T.b_range (pv 1))))) pss_nil)
      (pss_cons (ps_if (pt_not (pt_val (pe_cl c_is_row hr (by decide) (by rfl) (pa_cons (pv 0) (pa_cons pe_int (pa_cons (C8.pe_gc (by rfl) T.g_MOST_PAIRS_editions) pa_nil)))))) (pss_one ps_never) pss_nil)
      (pss_cons (ps_set (i := 2) sc_kept_lines.nd rfl (.inl rfl) pe_dnewK)
      (pss_cons (ps_for PassesOwn.never rfl (pi_row (pv 0)) (pg_name (i := 3) sc_kept_lines.nd rfl (.inl rfl))
        (pss_one (ps_for PassesOwn.never rfl (pi_list (pe_cl c_lines_of_pair hr (by decide) (by rfl) (pa_cons (pv 3) pa_nil))) (pg_name (i := 4) sc_kept_lines.nd rfl (.inl rfl))
          (pss_cons (ps_if (pt_cmp (pc_din (hu_of hr) (pv 4) (pv 2))) (pss_one ps_never) pss_nil)
          (pss_one (ps_dput (hu_of hr) (pv 2) (pv 4) pe_bl rfl))))))
      (pss_cons (ps_if (pt_cmpR op_ne (pe_callB call_lenD (by rfl) T.b_len (by decide +kernel) (pa_cons (pv 2) pa_nil)) (pv 1) (nomark _)) (pss_one ps_never) pss_nil)
      (pss_one (ps_ret (pe_callTy (call_listD rfl) (by rfl) T.b_list (by decide +kernel) (pa_cons (pv 2) pa_nil))))))))), ?_⟩
    cases o with
    | none =>
      cases (show v = .non from hi)
      refine ⟨_, rfl, rfl, _, rfl, ite2 (fun _ => ?_) (fun z => absurd (decide_eq_true rfl) z)⟩
      refine ⟨_, rfl, n, rfl, RgOk.of_le (by omega) (by omega) (by omega) (by omega), fun l hl => ?_⟩
      have e : rgV 0 n = (lnsD none n).map V.int := by
        rw [rg_ln, Int.sub_zero]
        rfl
      rw [e]
      exact q l _ hl (same_new hl) upd_same
    | some ps =>
      obtain ⟨a, xs, rfl, ra, lx, hx⟩ := hi
      have ok : okPairs ps n := ok
      refine ⟨_, rfl, rfl, _, rfl, ite2 (fun z => nomatch (show V.ref a = V.non from of_decide_eq_true z)) (fun _ => ?_)⟩
      have l1 : (xs.length : Int) ≤ 400 := by
        have := ok.l0
        omega
      refine ⟨.ref a, rfl, a, _, 0, 400, rfl, ra, fun H1 S1 => ?_⟩
      rw [decide_eq_true (show (0 : Int) ≤ (xs.length : Int) by omega), decide_eq_true l1]
      refine ⟨_, rfl, ite2 (fun z => absurd z (by decide)) fun _ => ?_⟩
      intro d hd
      have hd0 : H d = none := Same.fresh S1 hd
      obtain ⟨bb, hq⟩ := ra.sq (K := K)
      have lz : ∀ L : List Int, (tkD L).length = L.length := fun L => by
        unfold tkD
        rw [List.length_map]
      have pos : ∀ s ∈ ps, 1 ≤ s.2 := fun s hs => (ok.x s hs).2.1
      have tot : ((lnOf ps).length : Int) = n := (lnOf_len ps pos).trans ok.sum
      refine ⟨.ref a, rfl, a, bb, _, rfl, Sq.same hq (S1.trans (same_new hd)), for_it walk_row (fun i σ H' => ∃ (t3 t4 : Option V), σ = [some (.ref a), some (.int n), some (.ref d), t3, t4] ∧ Same H H' ∧ H' d = some (.dK (tkD (lnOf (ps.take i))))) ⟨_, _, rfl, S1.trans (same_new hd), upd_same⟩ (fun i σ H' _ ⟨_, _, _, z, _⟩ => Sq.same hq z) ?_ ?_⟩
      · rintro i x σ H2 H2' hi ⟨t3, t4, rfl, S2, hD⟩ ⟨rfl, hxi⟩
        have hpi : ps[i]? = some ps[i] := List.getElem?_eq_getElem (by omega)
        have hpm : ps[i] ∈ ps := List.getElem_mem _
        obtain ⟨t, rfl, et⟩ := hx i x _ hxi hpi
        obtain ⟨x0, x1, x2, x3⟩ := ok.x _ hpm
        refine ⟨.ref t, rfl, t, ps[i], rfl, S2 _ _ et, x0, x1, x2, x3, fun l hl => ?_⟩
        have ld : l ≠ d := fun z => by
          rw [z, hD] at hl
          cases hl
        have hl0 : H l = none := Same.fresh S2 hl
        have pre : ((lnOf (ps.take i)).length : Int) + ps[i].2 ≤ n := by
          have h1 := lnOf_len (ps.take i) fun s hs => pos s (List.mem_of_mem_take hs)
          have h2 : ((ps.take (i + 1)).map (·.2)).sum + ((ps.drop (i + 1)).map (·.2)).sum = n := by
            rw [← List.sum_append, ← List.map_append, List.take_append_drop]
            exact ok.sum
          have h3 := len_sum ((ps.drop (i + 1)).map (·.2)) fun m hm => by
            obtain ⟨s, hs, rfl⟩ := List.mem_map.mp hm
            exact pos s (List.mem_of_mem_drop hs)
          rw [List.take_add_one, hpi, List.map_append, List.sum_append] at h2
          have h4 : ((some ps[i]).toList.map (·.2)).sum = ps[i].2 := by
            show ps[i].2 + 0 = _
            omega
          rw [h4] at h2
          omega
        refine ⟨l, rfl, ⟨_, .inl (.inl upd_same)⟩, for_it (walk_list (xs := (lnP ps[i]).map V.int)) (fun j σ H' => ∃ (t4 : Option V), σ = [some (.ref a), some (.int n), some (.ref d), some (.ref t), t4] ∧ Same H H' ∧ H' l = some (.lst ((lnP ps[i]).map V.int)) ∧ H' d = some (.dK (tkD (lnOf (ps.take i) ++ (lnP ps[i]).take j)))) ?_ ?_ ?_ ?_⟩
        · refine ⟨_, rfl, S2.trans (same_new hl), upd_same, ?_⟩
          rw [List.take_zero, List.append_nil, upd_ne ld.symm]
          exact hD
        · exact fun j σ H' _ ⟨_, _, _, z, _⟩ => .inl (.inl z)
        · rintro j y σ H3 H3' hj ⟨t4, rfl, S3, hL, hD3⟩ ⟨rfl, hy⟩
          rw [List.length_map, lnP_len] at hj
          have hlj : (lnP ps[i])[j]? = some (ps[i].1 + (j : Int)) := by
            unfold lnP
            rw [List.getElem?_map, List.getElem?_range hj]
            rfl
          rw [List.getElem?_map, hlj] at hy
          cases hy
          have nin : ps[i].1 + (j : Int) ∉ lnOf (ps.take i) ++ (lnP ps[i]).take j := fun z => by
            rcases List.mem_append.mp z with z | z
            · obtain ⟨s, hs, hz⟩ := List.mem_flatMap.mp z
              have b1 := mem_lnP hz
              obtain ⟨m, hm, em⟩ := List.mem_iff_getElem.mp hs
              rw [List.length_take] at hm
              have ap := List.pairwise_iff_getElem.mp ok.ap m i (by omega) (by omega) (by omega)
              rw [List.getElem_take] at em
              rw [em] at ap
              rcases ap with ap | ap <;> omega
            · obtain ⟨m, hm, em⟩ := List.mem_iff_getElem.mp z
              rw [List.length_take] at hm
              rw [List.getElem_take] at em
              unfold lnP at em
              rw [List.getElem_map, List.getElem_range] at em
              omega
          refine ⟨_, rfl, .ref d, rfl, d, _, rfl, DGet.k (k := Sum.inl (ps[i].1 + (j : Int))) hD3, _, rfl, ?_⟩
          rw [tk_val nin]
          refine ite2 (fun z => absurd z (by decide)) fun _ => ?_
          refine ⟨.ref d, rfl, _, rfl, d, _, rfl, DPut.k (k := Sum.inl (ps[i].1 + (j : Int))) hD3 ?_, _, rfl, ?_, ?_, ?_⟩
          · rw [lz, List.length_append, List.length_take]
            exact Evl.sz_lt (by omega)
          · exact fun q o e => by
              rw [upd_ne (ne_of_none e hd0)]
              exact S3 q o e
          · rw [upd_ne ld]
            exact hL
          · rw [upd_same, tk_put nin, List.take_add_one, hlj, List.append_assoc]
            rfl
        · rintro σ H3 ⟨t4, rfl, S3, hL, hD3⟩
          refine ⟨_, _, rfl, S3, ?_⟩
          rw [List.length_map, List.take_length] at hD3
          rw [hD3, List.take_add_one, hpi]
          unfold lnOf
          rw [List.flatMap_append]
          show some (HO.dK (tkD (_ ++ lnP ps[i]))) = some (HO.dK (tkD (_ ++ (lnP ps[i] ++ []))))
          rw [List.append_nil]
      · rintro σ H2 ⟨t3, t4, rfl, S2, hD⟩
        rw [lx, List.take_length] at hD
        refine ⟨.ref d, rfl, d, _, rfl, hD, _, rfl, rfl, _, rfl, ?_⟩
        rw [lz, tot]
        refine ite2 (fun z => absurd z (by simp)) fun _ => ?_
        refine ⟨.ref d, rfl, d, _, rfl, .inl hD, fun l hl => ?_⟩
        rw [tk_keys]
        exact q l _ (Same.fresh S2 hl) (S2.trans (same_new hl)) upd_same
end
end My
set_option Elab.async false
set_option linter.all false
set_option maxRecDepth 100000
set_option maxHeartbeats 4000000
namespace My
open PySem PySem.Spec PyProof.Rows L2
/-- the pairs so far with one line more -/
def fpStep (ps : List (Int × Int)) (z : Int) : List (Int × Int) := match ps.getLast? with
  | none => [(z, 1)]
  | some s => if z = s.1 + s.2 then ps.dropLast ++ [(s.1, s.2 + 1)] else ps ++ [(z, 1)]
def fewest (L : List Int) : List (Int × Int) := L.foldl fpStep []
theorem AtAll.snoc {S : Av} {H : Hp} : ∀ {ds : List PyData} {d : PyData} {xs : List V}, AtAll S H xs (ds ++ [d]) → ∃ ys y, xs = ys ++ [y] ∧ AtAll S H ys ds ∧ At S H y d
  | [], d, _, h => by
    cases h with
    | cons h1 h2 =>
      cases h2
      exact ⟨[], _, rfl, .nil, h1⟩
  | e :: ds, d, _, h => by
    cases h with
    | cons h1 h2 =>
      obtain ⟨ys, y, rfl, k1, k2⟩ := AtAll.snoc h2
      exact ⟨_ :: ys, y, rfl, .cons h1 k1, k2⟩
theorem fp_nil (z : Int) : fpStep [] z = [(z, 1)] := rfl
theorem fp_snoc (ps : List (Int × Int)) (s : Int × Int) (z : Int) : fpStep (ps ++ [s]) z = if z = s.1 + s.2 then ps ++ [(s.1, s.2 + 1)] else ps ++ [s] ++ [(z, 1)] := by
  unfold fpStep
  rw [List.getLast?_concat, List.dropLast_concat]
theorem fewest_succ {L : List Int} {i : Nat} {z : Int} (h : L[i]? = some z) : fewest (L.take (i + 1)) = fpStep (fewest (L.take i)) z := by
  unfold fewest
  rw [List.take_add_one, h, List.foldl_append]
  rfl
theorem fp_len (ps : List (Int × Int)) (z : Int) : (fpStep ps z).length ≤ ps.length + 1 := by
  rcases List.eq_nil_or_concat ps with rfl | ⟨qs, s, rfl⟩
  · rw [fp_nil]
    exact Nat.le_refl _
  · rw [List.concat_eq_append, fp_snoc]
    split
    · simp
    · simp
theorem fewest_len : ∀ (L : List Int) (ps : List (Int × Int)), (L.foldl fpStep ps).length ≤ ps.length + L.length
  | [], ps => Nat.le_refl _
  | z :: r, ps => by
    have h1 := fewest_len r (fpStep ps z)
    have h2 := fp_len ps z
    rw [List.foldl_cons, List.length_cons]
    omega
def sp_fewest (K : PySem.W.Frag) : Sp := fun vs H Q _ => ∃ (S : Av) (l : Addr) (L : List Int), vs = [.ref l] ∧ Occ S H ∧ SqL K H l (L.map V.int) ∧ L.length ≤ 1000 ∧ ∀ v H', Same H H' → At S H' v (.tuple ((fewest L).map prD)) → Q v H'
section
variable {P : Program} {w : World} {K : PySem.W.Frag} {mg : Str → Option Value} {base : Heap}
theorem ok_fewest (T : Txt K mg) (D : Df K mg "fewest_pairs" s_fewest_pairs ["lines"]) : Cl P w K mg base 2 "fewest_pairs" ["lines"] (sp_fewest K) := by
  refine ok_of D sc_fewest_pairs (fun vs H Q E h => ?_) (fun f cdv A outer s H vs Q E hr h => ?_)
  · obtain ⟨S, l, L, rfl, _⟩ := h
    rfl
  · obtain ⟨S, l, L, rfl, ho, hL, lL, q⟩ := h
    refine ⟨_, (pss_cons (ps_set (i := 1) sc_fewest_pairs.nd rfl (.inl rfl) (pe_lst pa_nil))
      (pss_cons (ps_for PassesOwn.never rfl (pi_list (pv 0)) (pg_name (i := 2) sc_fewest_pairs.nd rfl (.inl rfl))
        (pss_one (ps_if (PW.pt (pw_and (pt_truth (pv 1) (by intro _; rfl)) (pw_and1 (pt_cmpR op_eq (pv 2) (pe_callB (cr_sumT rfl) (by rfl) T.b_sum (by decide +kernel) (pa_cons (pe_ix ix_list (pv 1) (pe_un un_neg pe_int) (fun _ _ => rfl)) pa_nil)) (nomark _))))) (pss_cons (ps_asg (pe_bm0 PySem.F.plainAttrs_list PySem.F.slot_list_pop PySem.F.type_list_pop mt_pop (pv 1)) (pg_tup rfl (pgs_cons (pg_name (i := 3) sc_fewest_pairs.nd rfl (.inl rfl)) (pgs_cons (pg_name (i := 4) sc_fewest_pairs.nd rfl (.inl rfl)) pgs_nil))))
          (pss_one (ps_expr (pe_bm PySem.F.plainAttrs_list PySem.F.slot_list_append PySem.F.type_list_append mt_append (pv 1) (pa_cons (pe_tup (pa_cons (pv 3) (pa_cons (pe_op op_add (pv 4) pe_int) pa_nil))) pa_nil))))) (pss_one (ps_expr (pe_bm PySem.F.plainAttrs_list PySem.F.slot_list_append PySem.F.type_list_append mt_append (pv 1) (pa_cons (pe_tup (pa_cons (pv 2) (pa_cons pe_int pa_nil))) pa_nil)))))))
      (pss_one (ps_ret (pe_callTy call_tuple_of (by rfl) T.b_tuple (by decide +kernel) (pa_cons (pv 1) pa_nil)))))), ?_⟩
    refine ⟨Nat.zero_le _, fun k hk => ?_⟩
    refine ⟨.ref l, rfl, l, rfl, ⟨_, (same_new hk).seq hL⟩, for_it (walk_list (xs := L.map V.int)) (fun i σ H' => ∃ (t2 t3 t4 : Option V) (rows : List V), σ = [some (.ref l), some (.ref k), t2, t3, t4] ∧ LcS S H k rows ((fewest (L.take i)).map prD) H') ⟨_, _, _, _, rfl, LcS.start hk⟩ (fun i σ H' _ ⟨_, _, _, _, _, L⟩ => L.s.seq hL) ?_ ?_⟩
    · rintro i x σ H2 H2' hi ⟨t2, t3, t4, rows, rfl, c⟩ ⟨rfl, hxi⟩
      rw [List.length_map] at hi
      have hLi : L[i]? = some L[i] := List.getElem?_eq_getElem hi
      rw [List.getElem?_map, hLi] at hxi
      cases hxi
      rw [fewest_succ hLi]
      have lr : rows.length ≤ 1000 := by
        have := fewest_len (L.take i) []
        rw [c.len, List.length_map]
        unfold fewest
        rw [List.length_take] at this
        have : min i L.length ≤ i := Nat.min_le_left ..
        simp at *
        omega
      rcases List.eq_nil_or_concat (fewest (L.take i)) with e | ⟨ps, s, e⟩
      · rw [e] at c ⊢
        have er : rows = [] := List.eq_nil_of_length_eq_zero (by rw [c.len]; rfl)
        subst er
        refine ⟨_, rfl, false, .inl ⟨_, .inl (.inl c.at_), rfl⟩, ite2 (fun z => absurd z Bool.false_ne_true) fun _ => ite2 (fun z => absurd z Bool.false_ne_true) fun _ => ?_⟩
        refine ⟨.ref k, rfl, .inl ⟨rfl, _, .inl (.inl c.at_)⟩, _, rfl, by show 2 ≤ sizeLine; decide, fun t ht => ?_⟩
        have c2 := c.keep (same_new (o := .tup [.int L[i], .int 1]) ht)
        refine ⟨k, _, _, rfl, rfl, c2.at_, by show 0 < sizeLine; decide, _, _, _, [.ref t], rfl, ?_⟩
        have nt : ¬ Plus S k t := (c.occ ho).free ht
        exact c2.step (.ofpair nt upd_same)
      · rw [List.concat_eq_append] at e
        rw [e] at c ⊢
        have ca := c.a
        rw [List.map_append] at ca
        obtain ⟨ys, y, rfl, a1, a2⟩ := AtAll.snoc ca
        obtain ⟨t, rfl, nt, et⟩ := a2.pair
        rw [fp_snoc]
        refine ⟨_, rfl, true, .inl ⟨_, .inl (.inl c.at_), by cases ys <;> rfl⟩, ite2 (fun _ => ?_) (fun z => absurd rfl z)⟩
        refine ⟨_, rfl, _, rfl, _, rfl, k, _, -1, .ref t, rfl, rfl, .inl (.inl c.at_), atI_last ys _, t, [s.1, s.2], rfl, .inl (.inl et), rfl, _, rfl, ?_⟩
        have es : ([s.1, s.2] : List Int).sum = s.1 + s.2 := by simp
        rw [es]
        by_cases e3 : L[i] = s.1 + s.2
        · rw [if_pos e3]
          refine ite2 (fun _ => ?_) (fun z => absurd (decide_eq_true (by rw [e3])) z)
          refine ⟨.ref k, rfl, .inl ⟨rfl, _, .inl (.inl c.at_)⟩, k, _, .ref t, rfl, rfl, c.at_, by simp, ?_⟩
          rw [List.dropLast_concat]
          have c1 := c.put (ys := ys) (es := ps.map prD) a1
          have tk : t ≠ k := fun z => nt (.inr z)
          refine ⟨t, _, rfl, .inl (.inl (by rw [upd_ne tk]; exact et)), rfl, _, _, rfl, _, _, rfl, rfl, ?_⟩
          refine ⟨.ref k, rfl, .inl ⟨rfl, _, .inl (.inl c1.at_)⟩, _, rfl, _, rfl, _, _, rfl, rfl, by show 2 ≤ sizeLine; decide, fun t' ht' => ?_⟩
          have c2 := c1.keep (same_new (o := .tup [.int s.1, .int (s.2 + 1)]) ht')
          refine ⟨k, _, _, rfl, rfl, c2.at_, ?_, _, _, _, ys ++ [.ref t'], rfl, ?_⟩
          · rw [List.length_append] at lr
            exact Evl.sz_lt (by omega)
          · have nt' : ¬ Plus S k t' := (c1.occ ho).free ht'
            rw [List.map_append]
            exact c2.step (.ofpair nt' upd_same)
        · rw [if_neg e3]
          refine ite2 (fun z => absurd (V.int.inj (of_decide_eq_true z)) e3) (fun _ => ?_)
          refine ⟨.ref k, rfl, .inl ⟨rfl, _, .inl (.inl c.at_)⟩, _, rfl, by show 2 ≤ sizeLine; decide, fun t' ht' => ?_⟩
          have c2 := c.keep (same_new (o := .tup [.int L[i], .int 1]) ht')
          refine ⟨k, _, _, rfl, rfl, c2.at_, Evl.sz_lt (by omega), _, _, _, ys ++ [.ref t] ++ [.ref t'], rfl, ?_⟩
          have nt' : ¬ Plus S k t' := (c.occ ho).free ht'
          rw [List.map_append (l₂ := [(L[i], (1 : Int))])]
          exact c2.step (.ofpair nt' upd_same)
    · rintro σ H2 ⟨t2, t3, t4, rows, rfl, c⟩
      rw [List.length_map, List.take_length] at c
      refine ⟨.ref k, rfl, k, rows, rfl, .inl ⟨.inl (.inl c.at_), fun p hp => ?_⟩⟩
      have S4 := same_new (o := .tup rows) hp
      exact q _ _ (c.s.trans S4) (.tup (ho.free (Same.fresh c.s hp)) upd_same (AtAll.same c.done S4))
end
end My
set_option Elab.async false
set_option linter.all false
set_option maxRecDepth 100000
set_option maxHeartbeats 4000000
namespace My
open PySem PySem.Spec PyProof.Rows L2
/-- a part: the book's name, the chapter, the verse, the part -/
structure Pl where
  nm : List Nat
  c : Int
  v : Int
  p : Int
def plD (x : Pl) : PyData := .tuple [.str (SX.S x.nm), .int x.c, .int x.v, .int x.p]
def plV (nm : List Nat) (ci vi : Nat) (m : Int) : List Pl := (List.range m.toNat).map fun (k : Nat) => ⟨nm, 1 + (ci : Int), 1 + (vi : Int), 1 + (k : Int)⟩
def plC (nm : List Nat) (ci : Nat) (c : List Int) : List Pl := c.zipIdx.flatMap fun x => plV nm ci x.2 x.1
def plB (b : List Nat × List (List Int)) : List Pl := b.2.zipIdx.flatMap fun x => plC b.1 x.2 x.1
def plOf (B : Bks) : List Pl := B.flatMap plB
theorem zi_succ {α : Type} {c : List α} {j : Nat} {x : α} (h : c[j]? = some x) : (c.take (j + 1)).zipIdx = (c.take j).zipIdx ++ [(x, j)] := by
  have hl : j < c.length := (List.getElem?_eq_some_iff.mp h).1
  rw [List.take_add_one, h, List.zipIdx_append, List.length_take, Nat.min_eq_left (by omega), Nat.zero_add]
  rfl
theorem plV_len (nm : List Nat) (ci vi : Nat) (m : Int) : (plV nm ci vi m).length = m.toNat := by
  unfold plV
  rw [List.length_map, List.length_range]
theorem zi_mem {α : Type} {c : List α} {x : α × Nat} (h : x ∈ c.zipIdx) : x.1 ∈ c := by
  obtain ⟨a, i⟩ := x
  have := List.mem_zipIdx h
  exact List.mem_of_getElem? (by simpa using List.mem_zipIdx_iff_getElem?.mp h)
theorem plC_len {nm : List Nat} {ci : Nat} {c : List Int} (h : ∀ m ∈ c, m ≤ 4) : (plC nm ci c).length ≤ 4 * c.length := by
  have := flat_le (fun x : Int × Nat => plV nm ci x.2 x.1) 4 c.zipIdx fun x hx => by
    rw [plV_len]
    have := h x.1 (zi_mem hx)
    omega
  rw [List.length_zipIdx] at this
  exact this
theorem plB_len {b : List Nat × List (List Int)} (h : ∀ c ∈ b.2, c.length ≤ 30 ∧ ∀ m ∈ c, m ≤ 4) : (plB b).length ≤ 120 * b.2.length := by
  have := flat_le (fun x : List Int × Nat => plC b.1 x.2 x.1) 120 b.2.zipIdx fun x hx => by
    have h1 := h x.1 (zi_mem hx)
    have := plC_len (nm := b.1) (ci := x.2) h1.2
    omega
  rw [List.length_zipIdx] at this
  exact this
theorem plOf_len {B : Bks} (h : ∀ b ∈ B, b.2.length ≤ 12 ∧ ∀ c ∈ b.2, c.length ≤ 30 ∧ ∀ m ∈ c, m ≤ 4) : (plOf B).length ≤ 1440 * B.length := by
  exact flat_le plB 1440 B fun b hb => by
    have h1 := h b hb
    have := plB_len h1.2
    omega
def sp_places : Sp := fun vs H Q _ => ∃ (S : Av) (v : V) (B : Bks), vs = [v] ∧ Occ S H ∧ At S H v (bksD B) ∧ okBks B ∧ ∀ l rows H', H l = none → Same H H' → H' l = some (.lst rows) → AtAll S H' rows ((plOf B).map plD) → Q (.ref l) H'
section
variable {P : Program} {w : World} {K : PySem.W.Frag} {mg : Str → Option Value} {base : Heap}
theorem ok_places (T : Txt K mg) (D : Df K mg "places_in" s_places_in ["books"]) : Cl P w K mg base 2 "places_in" ["books"] sp_places := by
  refine ok_of D sc_places_in (fun vs H Q E h => ?_) (fun f cdv A outer s H vs Q E hr h => ?_)
  · obtain ⟨S, v, B, rfl, _⟩ := h
    rfl
  · obtain ⟨S, v, B, rfl, ho, hv, ok, q⟩ := h
    cases hv with
    | tup na ea ka =>
    rename_i a xs
    refine ⟨_, (pss_cons (ps_set (i := 1) sc_places_in.nd rfl (.inl rfl) (pe_lst pa_nil))
      (pss_cons (ps_for PassesOwn.never rfl (pi_tup (pv 0)) (pg_tup rfl (pgs_cons (pg_name (i := 2) sc_places_in.nd rfl (.inr rfl)) (pgs_cons (pg_name (i := 3) sc_places_in.nd rfl (.inl rfl)) pgs_nil)))
        (pss_one (ps_for PassesOwn.never rfl (pi_enumC true (by rfl) T.b_enumerate (pa_cons (pv 3) pa_nil) (pk_cons pe_int pk_nil)) (pg_tup rfl (pgs_cons (pg_name (i := 4) sc_places_in.nd rfl (.inr rfl)) (pgs_cons (pg_name (i := 5) sc_places_in.nd rfl (.inl rfl)) pgs_nil)))
          (pss_one (ps_for PassesOwn.never rfl (pi_enumC true (by rfl) T.b_enumerate (pa_cons (pv 5) pa_nil) (pk_cons pe_int pk_nil)) (pg_tup rfl (pgs_cons (pg_name (i := 6) sc_places_in.nd rfl (.inr rfl)) (pgs_cons (pg_name (i := 7) sc_places_in.nd rfl (.inl rfl)) pgs_nil)))
            (pss_one (ps_expr (pe_bm PySem.F.plainAttrs_list PySem.F.slot_list_extend PySem.F.type_list_extend mt_extend (pv 1) (pa_cons (pe_lc (own := [("part", 8)]) rfl sc_places_in.nd (pi_range2 (by rfl) T.b_range (pa_cons pe_int (pa_cons (pe_op op_add (pv 7) pe_int) pa_nil))) (blkOk_by (own := [("part", 8)]) (N := N_places_in) (sc := defScope s_places_in) (by decide +kernel)) (fun _ _ _ _ _ => (pg_name (i := 8) sc_places_in.nd rfl (.inl rfl))) (fun _ _ _ _ _ => pts_nil) (fun _ _ _ _ _ => (pe_tup (pa_cons (pv 2) (pa_cons (pv 4) (pa_cons (pv 6) (pa_cons (pv 8) pa_nil))))))) pa_nil)))))))))
      (pss_one (ps_ret (pv 1))))), ?_⟩
    refine ⟨Nat.zero_le _, fun k hk => ?_⟩
    have lx : xs.length = B.length := by rw [ka.len, List.length_map]
    have bnd : ∀ b ∈ B, b.2.length ≤ 12 ∧ ∀ c ∈ b.2, c.length ≤ 30 ∧ ∀ m ∈ c, m ≤ 4 := fun b hb => ⟨(ok.ch b hb).2.1, fun c hc => ⟨((ok.ch b hb).2.2 c hc).l1, fun m hm => (((ok.ch b hb).2.2 c hc).x m hm).2⟩⟩
    refine ⟨.ref a, rfl, a, rfl, ⟨_, .inl (.inl (same_new hk _ _ ea))⟩, for_it (walk_tup (xs := xs)) (fun i σ H' => ∃ (t2 t3 t4 t5 t6 t7 t8 : Option V) (rows : List V), σ = [some (.ref a), some (.ref k), t2, t3, t4, t5, t6, t7, t8] ∧ LcS S H k rows ((plOf (B.take i)).map plD) H')
      ⟨_, _, _, _, _, _, _, _, rfl, LcS.start hk⟩ (fun i σ H' _ ⟨_, _, _, _, _, _, _, _, _, L⟩ => .inl (.inl (L.s _ _ ea))) ?_ ?_⟩
    · rintro i x σ H1 H1' hi ⟨t2, t3, t4, t5, t6, t7, t8, rows, rfl, L1⟩ ⟨rfl, hxi⟩
      obtain ⟨b, hb, hv⟩ := ka.at_ hxi
      have hbm : b ∈ B := List.mem_of_getElem? hb
      obtain ⟨ab, ac, zs, rfl, nb, eb, nc, ec, kz⟩ := hv.bk
      have lz : zs.length = b.2.length := by rw [kz.len, List.length_map]
      have lB := plOf_len (B := B.take i) fun b hb => bnd b (List.mem_of_mem_take hb)
      rw [List.length_take] at lB
      have okl := ok.l1
      refine ⟨ab, _, rfl, .inl (.inl (L1.s _ _ eb)), rfl, _, _, rfl, _, _, rfl, rfl, ?_⟩
      refine ⟨.ref ac, rfl, ac, rfl, 1, zs, rfl, by decide, by decide, .inl (.inl (L1.s _ _ ec)), for_it walk_enumC (fun j σ H' => ∃ (t4 t5 t6 t7 t8 : Option V) (rows : List V), σ = [some (.ref a), some (.ref k), some (.str (SX.S b.1)), some (.ref ac), t4, t5, t6, t7, t8] ∧ LcS S H k rows ((plOf (B.take i) ++ plB (b.1, b.2.take j)).map plD) H')
        ⟨_, _, _, _, _, rows, rfl, ?_⟩ (fun i σ H' _ ⟨_, _, _, _, _, _, _, L⟩ => .inl (.inl (L.s _ _ ec))) ?_ ?_⟩
      · have e0 : plB (b.1, b.2.take 0) = [] := rfl
        rw [e0, List.append_nil]
        exact L1
      · rintro j y σ H2 H2' hj ⟨t4, t5, t6, t7, t8, rows, rfl, L2⟩ ⟨T, x1, y1, rfl, hT, rfl, e1, hy⟩
        cases e1
        have hy : zs[j]? = some y1 := hy
        obtain ⟨c, hc, hcv⟩ := kz.at_ hy
        have hcm : c ∈ b.2 := List.mem_of_getElem? hc
        obtain ⟨ad, rfl, nd, ed⟩ := hcv.ch
        have L2 := L2.keep (same_new (o := .tup [.int (1 + (j : Int)), .ref ad]) hT)
        have lC := plB_len (b := (b.1, b.2.take j)) fun c hc => (bnd b hbm).2 c (List.mem_of_mem_take hc)
        have lC : (plB (b.1, b.2.take j)).length ≤ 120 * (b.2.take j).length := lC
        rw [List.length_take] at lC
        have okc := (bnd b hbm).1
        refine ⟨T, _, rfl, .inl (.inl upd_same), rfl, _, _, rfl, _, _, rfl, rfl, ?_⟩
        refine ⟨.ref ad, rfl, ad, rfl, 1, c.map V.int, rfl, by decide, by decide, .inl (.inl (L2.s _ _ ed)), for_it walk_enumC (fun v σ H' => ∃ (t6 t7 t8 : Option V) (rows : List V), σ = [some (.ref a), some (.ref k), some (.str (SX.S b.1)), some (.ref ac), some (.int (1 + (j : Int))), some (.ref ad), t6, t7, t8] ∧ LcS S H k rows ((plOf (B.take i) ++ plB (b.1, b.2.take j) ++ plC b.1 j (c.take v)).map plD) H')
          ⟨_, _, _, rows, rfl, ?_⟩ (fun i σ H' _ ⟨_, _, _, _, _, L⟩ => .inl (.inl (L.s _ _ ed))) ?_ ?_⟩
        · have e0 : plC b.1 j (c.take 0) = [] := rfl
          rw [e0, List.append_nil]
          exact L2
        · rintro v y σ H3 H3' hv3 ⟨t6, t7, t8, rows, rfl, L3⟩ ⟨T3, x3, y3, rfl, hT3, rfl, e3, hy3⟩
          cases e3
          rw [List.length_map] at hv3
          have hcv3 : c[v]? = some c[v] := List.getElem?_eq_getElem hv3
          have hy3 : (c.map V.int)[v]? = some y3 := hy3
          rw [List.getElem?_map, hcv3] at hy3
          cases hy3
          have okr := (ok.ch b hbm).2.2 c hcm
          have hm4 := okr.x c[v] (List.getElem_mem _)
          have L3 := L3.keep (same_new (o := .tup [.int (1 + (v : Int)), .int c[v]]) hT3)
          have lD := plC_len (nm := b.1) (ci := j) (c := c.take v) fun m hm => (((okr.x m (List.mem_of_mem_take hm))).2)
          rw [List.length_take] at lD
          have okv := okr.l1
          refine ⟨T3, _, rfl, .inl (.inl upd_same), rfl, _, _, rfl, _, _, rfl, rfl, ?_⟩
          refine ⟨.ref k, rfl, .inl ⟨rfl, _, .inl (.inl L3.at_)⟩, ?_⟩
          refine ⟨_, rfl, c[v], 1, rfl, rfl, 1, c[v] + 1, rfl, ⟨by decide, by decide, by omega, by omega⟩, fun n hn => ?_⟩
          have en : (c[v] + 1 - 1).toNat = c[v].toNat := by omega
          rw [en]
          have oS := L3.occ ho
          refine lc_range (lo := 1) (n := c[v].toNat) (fun m H' => ∃ new : List V, LcS (Plus S k) (upd H3 T3 (.tup [.int (1 + (v : Int)), .int c[v]])) n new ((plV b.1 j v (m : Int)).map plD) H') ⟨[], LcS.start hn⟩ ?_ ?_
          · rintro m H4 hm ⟨new, N⟩
            have ln : new.length = m := by
              rw [N.len, List.length_map, plV_len]
              omega
            refine ⟨rfl, _, rfl, _, rfl, _, rfl, _, rfl, by show 4 ≤ sizeLine; decide, fun t ht => ?_⟩
            have N2 := N.keep (same_new (o := .tup [.str (SX.S b.1), .int (1 + (j : Int)), .int (1 + (v : Int)), .int (1 + (m : Int))]) ht)
            refine ⟨new, N2.at_, Evl.sz_lt (by omega), new ++ [.ref t], ?_⟩
            have nt : ¬ Plus (Plus S k) n t := (N.occ oS).free ht
            have hd : At (Plus (Plus S k) n) (upd H4 t (.tup [.str (SX.S b.1), .int (1 + (j : Int)), .int (1 + (v : Int)), .int (1 + (m : Int))])) (.ref t) (plD ⟨b.1, 1 + (j : Int), 1 + (v : Int), 1 + (m : Int)⟩) := .tup nt upd_same (.cons (.str _) (.cons (.int _) (.cons (.int _) (.cons (.int _) .nil))))
            have N3 := N2.step hd
            have ev : plV b.1 j v (((m + 1 : Nat)) : Int) = plV b.1 j v (m : Int) ++ [⟨b.1, 1 + (j : Int), 1 + (v : Int), 1 + (m : Int)⟩] := by
              unfold plV
              rw [Int.toNat_natCast, Int.toNat_natCast, List.range_succ, List.map_append]
              rfl
            rw [ev, List.map_append]
            exact N3
          · rintro H4 ⟨new, N⟩
            have em : ((c[v].toNat : Nat) : Int) = c[v] := Int.toNat_of_nonneg (by omega)
            rw [em] at N
            have L4 := L3.keep N.s
            have ln : new.length = c[v].toNat := by
              rw [N.len, List.length_map, plV_len]
            have lr : rows.length ≤ 1440 * 6 + 120 * 12 + 4 * 30 := by
              rw [L3.len, List.length_map, List.length_append, List.length_append]
              omega
            refine ⟨k, n, _, _, rfl, rfl, L4.at_, N.at_, Nat.le_of_lt (Evl.sz_lt (by omega)), _, _, _, rows ++ new, rfl, ?_⟩
            have ev : plC b.1 j (c.take (v + 1)) = plC b.1 j (c.take v) ++ plV b.1 j v c[v] := by
              unfold plC
              rw [zi_succ hcv3, List.flatMap_append]
              simp
            rw [ev, ← List.append_assoc, List.map_append (l₂ := plV b.1 j v c[v])]
            exact L4.put (L4.a.app N.done)
        · rintro σ H3 ⟨t6, t7, t8, rows, rfl, L3⟩
          rw [List.length_map, List.take_length] at L3
          refine ⟨_, _, _, _, _, rows, rfl, ?_⟩
          have ev : plB (b.1, b.2.take (j + 1)) = plB (b.1, b.2.take j) ++ plC b.1 j c := by
            unfold plB
            show ((b.2.take (j + 1)).zipIdx.flatMap _) = ((b.2.take j).zipIdx.flatMap _) ++ _
            rw [zi_succ hc, List.flatMap_append]
            simp
          rw [ev, ← List.append_assoc]
          exact L3
      · rintro σ H2 ⟨t4, t5, t6, t7, t8, rows, rfl, L2⟩
        rw [lz, List.take_length] at L2
        refine ⟨_, _, _, _, _, _, _, rows, rfl, ?_⟩
        have ev : plOf (B.take (i + 1)) = plOf (B.take i) ++ plB b := by
          unfold plOf
          rw [List.take_add_one, hb, List.flatMap_append]
          simp
        rw [ev]
        exact L2
    · rintro σ H1 ⟨t2, t3, t4, t5, t6, t7, t8, rows, rfl, L⟩
      rw [lx, List.take_length] at L
      exact ⟨.ref k, rfl, q k rows H1 hk L.s L.at_ L.done⟩
end
end My
set_option Elab.async false
set_option linter.all false
set_option maxRecDepth 100000
set_option maxHeartbeats 4000000
namespace My
open PySem PySem.Spec PyProof.Rows L2
def plK (x : Pl) : List Key := [.inr (SX.S x.nm), .inl x.c, .inl x.v, .inl x.p]
abbrev StF := List Key → Option (Int × Int)
def stPut (f : StF) (n : Int) (k : List Key) : StF := fun j => if j = k then some ((match f k with | some s => s.1 | none => n), n) else f j
def stPl (f : StF) (n : Int) (x : Pl) (m : Nat) : StF := (List.range m).foldl (fun f i => stPut f n ((plK x).take (i + 1))) f
def stOf (P : List Pl) : StF := P.zipIdx.foldl (fun f x => stPl f (x.2 : Nat) x.1 4) fun _ => none
/-- the dict's items are told by f -/
def DictF (S : Av) (H : Hp) (kvs : List (List Key × V)) (f : StF) : Prop := ∀ k, match f k with
  | none => valV kvs k = none
  | some s => ∃ v, valV kvs k = some v ∧ At S H v (prD s)
theorem DictF.bt {S : Av} {H H' : Hp} {kvs : List (List Key × V)} {f : StF} (h : DictF S H kvs f) (b : BtS S H H') : DictF S H' kvs f := fun k => by
  have := h k
  cases e : f k with
  | none =>
    rw [e] at this
    exact this
  | some s =>
    rw [e] at this
    obtain ⟨v, h1, h2⟩ := this
    exact ⟨v, h1, At.bt b _ _ h2⟩
theorem DictF.weak {S S' : Av} {H : Hp} {kvs : List (List Key × V)} {f : StF} (h : DictF S H kvs f) (W : ∀ b, S' b → S b) : DictF S' H kvs f := fun k => by
  have := h k
  cases e : f k with
  | none =>
    rw [e] at this
    exact this
  | some s =>
    rw [e] at this
    obtain ⟨v, h1, h2⟩ := this
    exact ⟨v, h1, At.weak W _ _ h2⟩
theorem DictF.put {S : Av} {H : Hp} {kvs : List (List Key × V)} {f : StF} (h : DictF S H kvs f) {v : V} {n a : Int} {k : List Key} (hv : At S H v (prD (a, n))) (ha : a = match f k with | some s => s.1 | none => n) : DictF S H (putK kvs k v) (stPut f n k) := fun j => by
  unfold stPut
  by_cases e : j = k
  · rw [if_pos e]
    refine ⟨v, ?_, ?_⟩
    · rw [valV_put, if_pos e]
    · rw [← ha]
      exact hv
  · rw [if_neg e]
    have := h j
    cases q : f j with
    | none =>
      rw [q] at this
      show valV _ _ = none
      rw [valV_put, if_neg e]
      exact this
    | some s =>
      rw [q] at this
      obtain ⟨v', h1, h2⟩ := this
      exact ⟨v', by rw [valV_put, if_neg e]; exact h1, h2⟩
theorem cut4 (x0 x1 x2 x3 : V) {m : Nat} (h : m < 4) : cutV [x0, x1, x2, x3] none (some (1 + (m : Int))) = [x0, x1, x2, x3].take (m + 1) := by
  rcases m with _ | _ | _ | _ | m
  · rfl
  · rfl
  · rfl
  · rfl
  · omega
theorem six4 {m : Nat} (h : m < 4) : HT.sIx 4 4 (some (1 + (m : Int))) = m + 1 := by
  rcases m with _ | _ | _ | _ | m
  · rfl
  · rfl
  · rfl
  · rfl
  · omega
theorem plK_kV (x : Pl) (m : Nat) : ((plK x).take m).map kV = [V.str (SX.S x.nm), .int x.c, .int x.v, .int x.p].take m := by
  rw [List.map_take]
  rfl
theorem putK_len' {κ : Type} [DecidableEq κ] (c : List (κ × V)) (k : κ) (x : V) : (putK c k x).length ≤ c.length + 1 := by
  unfold putK
  split
  · rw [List.length_map]
    omega
  · rw [List.length_append]
    exact Nat.le_refl _
structure Ds (S : Av) (H : Hp) (d : Addr) (kvs : List (List Key × V)) (f : StF) (n : Nat) (H' : Hp) : Prop where
  fr : H d = none
  s : Same H H'
  at_ : H' d = some (.dT kvs)
  df : DictF (Plus S d) H' kvs f
  len : kvs.length ≤ n
theorem Ds.keep {S : Av} {H H1 H2 : Hp} {d : Addr} {kvs : List (List Key × V)} {f : StF} {n : Nat} (c : Ds S H d kvs f n H1) (k : Same H1 H2) : Ds S H d kvs f n H2 := ⟨c.fr, c.s.trans k, k _ _ c.at_, c.df.bt (Same.btS k), c.len⟩
theorem Ds.put {S : Av} {H H1 : Hp} {d : Addr} {kvs : List (List Key × V)} {f : StF} {m : Nat} (c : Ds S H d kvs f m H1) {v : V} {n a : Int} {k : List Key} (hv : At (Plus S d) H1 v (prD (a, n))) (ha : a = match f k with | some s => s.1 | none => n) : Ds S H d (putK kvs k v) (stPut f n k) (m + 1) (upd H1 d (.dT (putK kvs k v))) := by
  have U : BtS (Plus S d) H1 (upd H1 d (.dT (putK kvs k v))) := BtS.upd (.inr rfl)
  refine ⟨c.fr, fun b o e => ?_, upd_same, (c.df.put hv ha).bt U, ?_⟩
  · rw [upd_ne (ne_of_none e c.fr)]
    exact c.s b o e
  · have := putK_len' kvs k v
    have := c.len
    omega
theorem st_succ {P : List Pl} {i : Nat} {x : Pl} (h : P[i]? = some x) : stOf (P.take (i + 1)) = stPl (stOf (P.take i)) (i : Nat) x 4 := by
  unfold stOf
  rw [zi_succ h, List.foldl_append]
  rfl
theorem stPl_succ (f : StF) (n : Int) (x : Pl) (m : Nat) : stPl f n x (m + 1) = stPut (stPl f n x m) n ((plK x).take (m + 1)) := by
  unfold stPl
  rw [List.range_succ, List.foldl_append]
  rfl
theorem At.pl {S : Av} {H : Hp} {v : V} {x : Pl} (h : At S H v (plD x)) : ∃ a, v = .ref a ∧ ¬ S a ∧ H a = some (.tup [.str (SX.S x.nm), .int x.c, .int x.v, .int x.p]) := by
  cases h with
  | tup n e k =>
    cases k with
    | cons h1 k =>
      cases k with
      | cons h2 k =>
        cases k with
        | cons h3 k =>
          cases k with
          | cons h4 k =>
            cases k
            cases h1
            cases h2
            cases h3
            cases h4
            exact ⟨_, rfl, n, e⟩
def sp_stret : Sp := fun vs H Q _ => ∃ (S : Av) (l : Addr) (rows : List V) (P : List Pl), vs = [.ref l] ∧ Occ S H ∧ H l = some (.lst rows) ∧ AtAll S H rows (P.map plD) ∧ P.length ≤ 9000 ∧ ∀ d kvs H', H d = none → Same H H' → H' d = some (.dT kvs) → DictF S H' kvs (stOf P) → Q (.ref d) H'
section
variable {P : Program} {w : World} {K : PySem.W.Frag} {mg : Str → Option Value} {base : Heap}
theorem ok_stret (T : Txt K mg) (D : Df K mg "stretches_of" s_stretches_of ["places"]) : Cl P w K mg base 2 "stretches_of" ["places"] sp_stret := by
  refine ok_of D sc_stretches_of (fun vs H Q E h => ?_) (fun f cdv A outer s H vs Q E hr h => ?_)
  · obtain ⟨S, l, rows, ps, rfl, _⟩ := h
    rfl
  · obtain ⟨S, l, rows, ps, rfl, ho, hl, ha, lp, q⟩ := h
    refine ⟨_, (pss_cons (ps_set (i := 1) sc_stretches_of.nd rfl (.inl rfl) pe_dnewT)
      (pss_cons (ps_for PassesOwn.never rfl (pi_enum (by rfl) T.b_enumerate (pa_cons (pv 0) pa_nil)) (pg_tup rfl (pgs_cons (pg_name (i := 2) sc_stretches_of.nd rfl (.inl rfl)) (pgs_cons (pg_name (i := 3) sc_stretches_of.nd rfl (.inl rfl)) pgs_nil)))
        (pss_one (ps_for PassesOwn.never rfl (pi_range2 (by rfl) T.b_range (pa_cons pe_int (pa_cons pe_int pa_nil))) (pg_name (i := 4) sc_stretches_of.nd rfl (.inl rfl))
          (pss_cons (ps_set (i := 5) sc_stretches_of.nd rfl (.inl rfl) (pe_slice sl_tupA (pv 3) po_none (po_some (pv 4))))
          (pss_cons (ps_set (i := 6) sc_stretches_of.nd rfl (.inl rfl) (pe_ifExp (pt_cmp (pc_din (hu_of hr) (pv 5) (pv 1))) (pe_ix ix_tup (pe_dget (hu_of hr) (pv 1) (pv 5) (fun _ _ => rfl)) pe_int (fun _ _ => rfl)) (pv 2)))
          (pss_one (ps_dput (hu_of hr) (pv 1) (pv 5) (pe_tup (pa_cons (pv 6) (pa_cons (pv 2) pa_nil))) rfl)))))))
      (pss_one (ps_ret (pv 1))))), ?_⟩
    have lr : rows.length = ps.length := by rw [ha.len, List.length_map]
    intro d hd
    refine ⟨.ref l, rfl, l, rows, rfl, .inl (.inl (same_new hd _ _ hl)), for_it (walk_enum (xs := rows)) (fun i σ H' => ∃ (t2 t3 t4 t5 t6 : Option V) (kvs : List (List Key × V)), σ = [some (.ref l), some (.ref d), t2, t3, t4, t5, t6] ∧ Ds S H d kvs (stOf (ps.take i)) (4 * i) H') ⟨_, _, _, _, _, [], rfl, hd, same_new hd, upd_same, fun _ => rfl, Nat.zero_le _⟩ (fun i σ H' _ ⟨_, _, _, _, _, _, _, L⟩ => .inl (.inl (L.s _ _ hl))) ?_ ?_⟩
    · rintro i x σ H1 H1' hi ⟨t2, t3, t4, t5, t6, kvs, rfl, L1⟩ ⟨T1, x1, y1, rfl, hT, rfl, e1, hy⟩
      cases e1
      have hy : rows[i]? = some y1 := hy
      obtain ⟨pl, hp, hpv⟩ := ha.at_ hy
      obtain ⟨a, rfl, na, ea⟩ := hpv.pl
      have L1 := L1.keep (same_new (o := .tup [.int (i : Nat), .ref a]) hT)
      refine ⟨T1, _, rfl, .inl (.inl upd_same), rfl, _, _, rfl, _, _, rfl, rfl, ?_⟩
      refine ⟨1, 5, rfl, ⟨by decide, by decide, by decide, by decide⟩, for_range (lo := 1) (n := 4) (fun m σ H' => ∃ (t4 t5 t6 : Option V) (kvs : List (List Key × V)), σ = [some (.ref l), some (.ref d), some (.int (i : Nat)), some (.ref a), t4, t5, t6] ∧ Ds S H d kvs (stPl (stOf (ps.take i)) (i : Nat) pl m) (4 * i + m) H') ⟨_, _, _, kvs, rfl, L1⟩ ?_ ?_⟩
      · rintro m σ H2 hm ⟨t4, t5, t6, kvs, rfl, L2⟩
        have e2 := L2.s _ _ ea
        have hlen : [V.str (SX.S pl.nm), .int pl.c, .int pl.v, .int pl.p].length = 4 := rfl
        refine ⟨_, rfl, _, rfl, _, rfl, a, _, rfl, .inl (.inl e2), fun hc => ?_, fun hc b hb => ?_⟩
        · rw [hlen] at hc
          have hc := hc.2
          rw [six4 hm] at hc
          have L3 := L2
          have eb : H2 a = some (.tup (((plK pl).take (m + 1)).map kV)) := by
            rw [plK_kV, e2, hc]
            rfl
          refine ⟨_, rfl, _, rfl, d, _, rfl, DGet.t L3.at_ eb, _, rfl, ?_⟩
          have hk := L3.df ((plK pl).take (m + 1))
          cases e : stPl (stOf (ps.take i)) (i : Nat) pl m ((plK pl).take (m + 1)) with
          | none =>
            rw [e] at hk
            rw [hk]
            refine ite2 (fun z => absurd z (by decide)) fun _ => ?_
            refine ⟨_, rfl, _, rfl, _, rfl, by show 2 ≤ sizeLine; decide, fun t ht => ?_⟩
            have L4 := L3.keep (same_new (o := .tup [.int (i : Nat), .int (i : Nat)]) ht)
            have nt : ¬ Plus S d t := ((ho.same L3.s).plus L3.at_).free ht
            refine ⟨_, rfl, _, rfl, d, _, rfl, DPut.t L4.at_ (same_new ht _ _ eb) (Evl.sz_lt (by have := L4.len; omega)), _, _, _, putK kvs ((plK pl).take (m + 1)) (.ref t), rfl, ?_⟩
            rw [stPl_succ]
            exact L4.put (a := (i : Nat)) (.ofpair nt upd_same) (by rw [e])
          | some s =>
            rw [e] at hk
            obtain ⟨v, h1, h2⟩ := hk
            obtain ⟨t0, rfl, nt0, et0⟩ := h2.pair
            rw [h1]
            refine ite2 (fun _ => ?_) (fun z => absurd rfl z)
            refine ⟨_, rfl, _, rfl, d, _, rfl, h1 ▸ DGet.t L3.at_ eb, t0, _, 0, .int s.1, rfl, rfl, .inl (.inl et0), rfl, ?_⟩
            refine ⟨_, rfl, _, rfl, by show 2 ≤ sizeLine; decide, fun t ht => ?_⟩
            have L4 := L3.keep (same_new (o := .tup [.int s.1, .int (i : Nat)]) ht)
            have nt : ¬ Plus S d t := ((ho.same L3.s).plus L3.at_).free ht
            refine ⟨_, rfl, _, rfl, d, _, rfl, DPut.t L4.at_ (same_new ht _ _ eb) (Evl.sz_lt (by have := L4.len; omega)), _, _, _, putK kvs ((plK pl).take (m + 1)) (.ref t), rfl, ?_⟩
            rw [stPl_succ]
            exact L4.put (a := s.1) (.ofpair nt upd_same) (by rw [e])
        · rw [cut4 _ _ _ _ hm]
          have L3 := L2.keep (same_new (o := .tup ([V.str (SX.S pl.nm), V.int pl.c, V.int pl.v, V.int pl.p].take (m + 1))) hb)
          have eb : upd H2 b (.tup ([V.str (SX.S pl.nm), V.int pl.c, V.int pl.v, V.int pl.p].take (m + 1))) b = some (.tup (((plK pl).take (m + 1)).map kV)) := by
            rw [plK_kV, upd_same]
          refine ⟨_, rfl, _, rfl, d, _, rfl, DGet.t L3.at_ eb, _, rfl, ?_⟩
          have hk := L3.df ((plK pl).take (m + 1))
          cases e : stPl (stOf (ps.take i)) (i : Nat) pl m ((plK pl).take (m + 1)) with
          | none =>
            rw [e] at hk
            rw [hk]
            refine ite2 (fun z => absurd z (by decide)) fun _ => ?_
            refine ⟨_, rfl, _, rfl, _, rfl, by show 2 ≤ sizeLine; decide, fun t ht => ?_⟩
            have L4 := L3.keep (same_new (o := .tup [.int (i : Nat), .int (i : Nat)]) ht)
            have nt : ¬ Plus S d t := ((ho.same L3.s).plus L3.at_).free ht
            refine ⟨_, rfl, _, rfl, d, _, rfl, DPut.t L4.at_ (same_new ht _ _ eb) (Evl.sz_lt (by have := L4.len; omega)), _, _, _, putK kvs ((plK pl).take (m + 1)) (.ref t), rfl, ?_⟩
            rw [stPl_succ]
            exact L4.put (a := (i : Nat)) (.ofpair nt upd_same) (by rw [e])
          | some s =>
            rw [e] at hk
            obtain ⟨v, h1, h2⟩ := hk
            obtain ⟨t0, rfl, nt0, et0⟩ := h2.pair
            rw [h1]
            refine ite2 (fun _ => ?_) (fun z => absurd rfl z)
            refine ⟨_, rfl, _, rfl, d, _, rfl, h1 ▸ DGet.t L3.at_ eb, t0, _, 0, .int s.1, rfl, rfl, .inl (.inl et0), rfl, ?_⟩
            refine ⟨_, rfl, _, rfl, by show 2 ≤ sizeLine; decide, fun t ht => ?_⟩
            have L4 := L3.keep (same_new (o := .tup [.int s.1, .int (i : Nat)]) ht)
            have nt : ¬ Plus S d t := ((ho.same L3.s).plus L3.at_).free ht
            refine ⟨_, rfl, _, rfl, d, _, rfl, DPut.t L4.at_ (same_new ht _ _ eb) (Evl.sz_lt (by have := L4.len; omega)), _, _, _, putK kvs ((plK pl).take (m + 1)) (.ref t), rfl, ?_⟩
            rw [stPl_succ]
            exact L4.put (a := s.1) (.ofpair nt upd_same) (by rw [e])
      · rintro σ H2 ⟨t4, t5, t6, kvs, rfl, L2⟩
        exact ⟨_, _, _, _, _, kvs, rfl, by rw [st_succ hp]; exact L2⟩
    · rintro σ H1 ⟨t2, t3, t4, t5, t6, kvs, rfl, L⟩
      rw [lr, List.take_length] at L
      exact ⟨.ref d, rfl, q d kvs H1 hd L.s L.at_ (L.df.weak fun _ z => .inl z)⟩
end
end My
set_option Elab.async false
set_option linter.all false
set_option maxRecDepth 100000
set_option maxHeartbeats 4000000
namespace My
open PySem PySem.Spec PyProof.Rows L2
/-- what the top leaves of the class -/
structure EdC (K : PySem.W.Frag) (C : Addr) : Prop where
  cl : Cls K C
  n1 : NoAttr K C "_books"
  n2 : NoAttr K C "_chapters"
  n3 : NoAttr K C "_places"
  n4 : NoAttr K C "_stretches"
  n5 : NoAttr K C "_lines"
  n6 : NoAttr K C "_numbers"
  n7 : NoAttr K C "_told"
/-- what an edition tells -/
def toldD (B : Bks) (L : List Int) : PyData := .tuple [bksD B, .tuple ((fewest L).map prD)]
/-- the number of each line -/
def numD (L : List Int) : List (Key × V) := L.zipIdx.map fun x => ((Sum.inl x.1 : Key), V.int (x.2 : Nat))
/-- the chapters by the books' names -/
structure ChF (S : Av) (H : Hp) (kvs : List (Key × V)) (B : Bks) : Prop where
  k : kvs.map (·.1) = B.map fun b => (Sum.inr (SX.S b.1) : Key)
  v : AtAll S H (kvs.map (·.2)) (B.map fun b => chsD b.2)
structure EdW where
  dx : Addr
  vb : V
  dc : Addr
  ckv : List (Key × V)
  dp : Addr
  rows : List V
  ds : Addr
  kvs : List (List Key × V)
  dl : Addr
  dn : Addr
  vt : V
/-- its fields -/
def edF (w : EdW) : List (Str × V) := [("_books", w.vb), ("_chapters", .ref w.dc), ("_places", .ref w.dp), ("_stretches", .ref w.ds), ("_lines", .ref w.dl), ("_numbers", .ref w.dn), ("_told", w.vt)]
theorem edF1 (w : EdW) : (edF w).lookup ("_books" : Str) = some w.vb := rfl
theorem edF2 (w : EdW) : (edF w).lookup ("_chapters" : Str) = some (.ref w.dc) := rfl
theorem edF3 (w : EdW) : (edF w).lookup ("_places" : Str) = some (.ref w.dp) := rfl
theorem edF4 (w : EdW) : (edF w).lookup ("_stretches" : Str) = some (.ref w.ds) := rfl
theorem edF5 (w : EdW) : (edF w).lookup ("_lines" : Str) = some (.ref w.dl) := rfl
theorem edF6 (w : EdW) : (edF w).lookup ("_numbers" : Str) = some (.ref w.dn) := rfl
theorem edF7 (w : EdW) : (edF w).lookup ("_told" : Str) = some w.vt := rfl
/-- an edition of the books B with the lines L stands at e -/
structure EdIn (S : Av) (H : Hp) (C e : Addr) (B : Bks) (L : List Int) (w : EdW) : Prop where
  at_ : H e = some (.ins C w.dx (edF w))
  n0 : ¬ S e
  n2 : ¬ S w.dc
  n3 : ¬ S w.dp
  n4 : ¬ S w.ds
  n5 : ¬ S w.dl
  n6 : ¬ S w.dn
  h1 : At S H w.vb (bksD B)
  h2 : H w.dc = some (.dK w.ckv)
  c2 : ChF S H w.ckv B
  h3 : H w.dp = some (.lst w.rows)
  c3 : AtAll S H w.rows ((plOf B).map plD)
  h4 : H w.ds = some (.dT w.kvs)
  c4 : DictF S H w.kvs (stOf (plOf B))
  h5 : H w.dl = some (.lst (L.map V.int))
  h6 : H w.dn = some (.dK (numD L))
  h7 : At S H w.vt (toldD B L)
def EdAt (S : Av) (H : Hp) (C e : Addr) (B : Bks) (L : List Int) : Prop := ∃ w, EdIn S H C e B L w
theorem EdAt.bt {S : Av} {H H' : Hp} {C e : Addr} {B : Bks} {L : List Int} (h : EdAt S H C e B L) (b : BtS S H H') : EdAt S H' C e B L := by
  obtain ⟨w, h⟩ := h
  exact ⟨w, { h with at_ := b _ _ h.n0 h.at_, h1 := At.bt b _ _ h.h1, h2 := b _ _ h.n2 h.h2, c2 := ⟨h.c2.k, AtAll.bt b _ _ h.c2.v⟩, h3 := b _ _ h.n3 h.h3, c3 := AtAll.bt b _ _ h.c3, h4 := b _ _ h.n4 h.h4, c4 := h.c4.bt b, h5 := b _ _ h.n5 h.h5, h6 := b _ _ h.n6 h.h6, h7 := At.bt b _ _ h.h7 }⟩
/-- books handed in don't stand at an instance -/
theorem BksIn.plusX {S : Av} {H : Hp} {v : V} {B : Bks} {x C dx : Addr} {fs : List (Str × V)} (h : BksIn S H v B) (g : H x = some (.ins C dx fs)) : BksIn (Plus S x) H v B := by
  obtain ⟨a, xs, e, r, l, k⟩ := h
  refine ⟨a, xs, e, r, l, fun i y b h1 h2 => ?_⟩
  obtain ⟨a2, c2, ys, e2, f2, r2, l2, k2⟩ := k i y b h1 h2
  refine ⟨a2, c2, ys, e2, f2, r2, l2, fun j z c h3 h4 => ?_⟩
  obtain ⟨a3, e3, n3, r3⟩ := k2 j z c h3 h4
  refine ⟨a3, e3, fun q => q.elim n3 fun q => ?_, r3⟩
  rcases r3 with r3 | r3
  · rw [q, g] at r3
    cases r3
  · rw [q, g] at r3
    cases r3
theorem LnIn.btx {H H' : Hp} {v : V} {o : Option (List (Int × Int))} {x C dx : Addr} {fs : List (Str × V)} (h : LnIn H v o) (g : H x = some (.ins C dx fs)) (z : Bt x H H') : LnIn H' v o := by
  cases o with
  | none => exact h
  | some ps =>
    obtain ⟨a, xs, e, r, l, k⟩ := h
    refine ⟨a, xs, e, ?_, l, fun i y s h1 h2 => ?_⟩
    · rcases r with r | r
      · exact .inl (z _ _ (fun q => by rw [q, g] at r; cases r) r)
      · exact .inr (z _ _ (fun q => by rw [q, g] at r; cases r) r)
    · obtain ⟨t, e1, e2⟩ := k i y s h1 h2
      exact ⟨t, e1, z _ _ (fun q => by rw [q, g] at e2; cases e2) e2⟩
theorem At.bk2 {S : Av} {H : Hp} {v : V} {b : List Nat × List (List Int)} (h : At S H v (bkD b)) : ∃ a v2, v = .ref a ∧ H a = some (.tup [.str (SX.S b.1), v2]) ∧ At S H v2 (chsD b.2) := by
  cases h with
  | tup n e k =>
    cases k with
    | cons h1 k2 =>
      cases k2 with
      | cons h2 k3 =>
        cases k3
        cases h1
        exact ⟨_, _, rfl, e, h2⟩
theorem numD_succ {L : List Int} {i : Nat} {z : Int} (h : L[i]? = some z) : numD (L.take (i + 1)) = numD (L.take i) ++ [((Sum.inl z : Key), V.int (i : Nat))] := by
  unfold numD
  rw [zi_succ h, List.map_append]
  rfl
theorem zi_fst {α : Type} : ∀ (L : List α) (n : Nat), (L.zipIdx n).map (·.1) = L
  | [], _ => rfl
  | a :: r, n => by
    rw [List.zipIdx_cons, List.map_cons, zi_fst r]
theorem numD_keys (L : List Int) : (numD L).map (·.1) = L.map fun z => (Sum.inl z : Key) := by
  unfold numD
  rw [List.map_map]
  have := zi_fst L 0
  conv => rhs; rw [← this]
  rw [List.map_map]
  rfl
/-- what Edition's __init__ is handed and leaves -/
def sp_init (C : Addr) : Sp := fun vs H Q _ => ∃ (S : Av) (x dx : Addr) (bv lv : V) (B : Bks) (o : Option (List (Int × Int))), vs = [.ref x, bv, lv] ∧ ¬ S x ∧ Occ S H ∧ H x = some (.ins C dx []) ∧ BksIn S H bv B ∧ okBks B ∧ LnIn H lv o ∧ okLn o (plOf B).length ∧ (lnsD o (plOf B).length).Nodup ∧ (lnsD o (plOf B).length).length = (plOf B).length ∧
  ∀ H', Bt x H H' → EdAt S H' C x B (lnsD o (plOf B).length) → Q .non H'
section
variable {P : Program} {w : World} {K : PySem.W.Frag} {mg : Str → Option Value} {base : Heap}
theorem ok_init {C f : Addr} {fd : FuncData} (T : Txt K mg) (EC : EdC K C) (c_kept_books : Cl P w K mg base 5 "kept_books" ["books"] sp_keptBks) (c_places_in : Cl P w K mg base 2 "places_in" ["books"] sp_places) (c_stretches_of : Cl P w K mg base 2 "stretches_of" ["places"] sp_stret) (c_kept_lines : Cl P w K mg base 4 "kept_lines" ["lines", "size"] sp_keptLn) (c_fewest_pairs : Cl P w K mg base 2 "fewest_pairs" ["lines"] (sp_fewest K)) {dvs : List V} {kws : List (Str × V)} (F : FunD K "__init__" "Edition.__init__" (defArgs s_Edition___init__) (defBody s_Edition___init__) (defScope s_Edition___init__) dvs kws f fd) : FnOk P w K mg base CX0 6 f fd ["self", "books", "lines"] (sp_init C) := by
  refine funD_ok0 F sc_Edition___init__ (fun vs H Q E h => ?_) (fun cdv A outer s H vs Q E hr h => ?_)
  · obtain ⟨S, x, dx, bv, lv, B, o, rfl, _⟩ := h
    rfl
  · obtain ⟨S, x, dx, bv, lv, B, o, rfl, nx, ho, hx, hB, okB, hL, okL, nd, ll, q⟩ := h
    refine ⟨_, (pss_cons (ps_fld (pv 0) (pe_cl c_kept_books hr (by decide) (by rfl) (pa_cons (pv 1) pa_nil)) rfl)
      (pss_cons (ps_fld (pv 0) (pe_dc (own := [("name", 3), ("chapters", 4)]) rfl sc_Edition___init__.nd (pi_tup (pe_fld (pv 0) rfl)) (blkOk_by (own := [("name", 3), ("chapters", 4)]) (N := N_Edition___init__) (sc := defScope s_Edition___init__) (by decide +kernel)) (fun _ _ _ _ _ => (pg_tupK (K := K) (n := 2) rfl rfl (pgs_cons (pg_name (i := 3) sc_Edition___init__.nd rfl (.inl rfl)) (pgs_cons (pg_name (i := 4) sc_Edition___init__.nd rfl (.inl rfl)) pgs_nil)))) (fun _ _ _ _ _ => pts_nil) (fun _ _ _ _ _ => (pv 3)) (fun _ _ _ _ _ => (pv 4))) rfl)
      (pss_cons (ps_fld (pv 0) (pe_cl c_places_in hr (by decide) (by rfl) (pa_cons (pe_fld (pv 0) rfl) pa_nil)) rfl)
      (pss_cons (ps_fld (pv 0) (pe_cl c_stretches_of hr (by decide) (by rfl) (pa_cons (pe_fld (pv 0) rfl) pa_nil)) rfl)
      (pss_cons (ps_fld (pv 0) (pe_cl c_kept_lines hr (by decide) (by rfl) (pa_cons (pv 2) (pa_cons (pe_callB call_len (by rfl) T.b_len (by decide +kernel) (pa_cons (pe_fld (pv 0) rfl) pa_nil)) pa_nil))) rfl)
      (pss_cons (ps_fld (pv 0) (pe_dc (own := [("number", 5), ("line", 6)]) rfl sc_Edition___init__.nd (pi_enum (by rfl) T.b_enumerate (pa_cons (pe_fld (pv 0) rfl) pa_nil)) (blkOk_by (own := [("number", 5), ("line", 6)]) (N := N_Edition___init__) (sc := defScope s_Edition___init__) (by decide +kernel)) (fun _ _ _ _ _ => (pg_tupK (K := K) (n := 2) rfl rfl (pgs_cons (pg_name (i := 5) sc_Edition___init__.nd rfl (.inl rfl)) (pgs_cons (pg_name (i := 6) sc_Edition___init__.nd rfl (.inl rfl)) pgs_nil)))) (fun _ _ _ _ _ => pts_nil) (fun _ _ _ _ _ => (pv 6)) (fun _ _ _ _ _ => (pv 5))) rfl)
      (pss_one (ps_fld (pv 0) (pe_tup (pa_cons (pe_fld (pv 0) rfl) (pa_cons (pe_cl c_fewest_pairs hr (by decide) (by rfl) (pa_cons (pe_fld (pv 0) rfl) pa_nil)) pa_nil))) rfl)))))))), ?_⟩
    have oS : Occ (Plus S x) H := ho.plus hx
    have lP := plOf_len (B := B) fun b hb => ⟨(okB.ch b hb).2.1, fun c hc => ⟨((okB.ch b hb).2.2 c hc).l1, fun m hm => (((okB.ch b hb).2.2 c hc).x m hm).2⟩⟩
    have l6 := okB.l1
    -- the books
    refine ⟨bv, rfl, Plus S x, bv, B, rfl, oS, hB.plusX hx, okB, fun vb H1 S1 hvb => ⟨.ref x, rfl, x, C, dx, [], rfl, S1 _ _ hx, EC.cl, EC.n1, by decide, ?_⟩⟩
    have Ax : At (Plus S x) (upd H1 x (.ins C dx (putF "_books" vb []))) vb (bksD B) := At.bt (BtS.upd (.inr rfl)) _ _ hvb
    have xa : upd H1 x (.ins C dx (putF "_books" vb [])) x = some (.ins C dx [("_books", vb)]) := upd_same
    have oa : Occ (Plus S x) (upd H1 x (.ins C dx (putF "_books" vb []))) := (oS.same S1).upd
    have ba : Bt x H (upd H1 x (.ins C dx (putF "_books" vb []))) := (Bt.same S1).trans Bt.upd
    generalize upd H1 x (.ins C dx (putF "_books" vb [])) = Ha at Ax xa oa ba ⊢
    -- the chapters by name
    have Ax' := Ax
    cases Ax' with
    | tup nt et ka =>
    rename_i t xs
    have lx : xs.length = B.length := by rw [ka.len, List.length_map]
    refine ⟨.ref x, rfl, x, C, dx, _, .ref t, rfl, xa, EC.cl, EC.n1, rfl, t, rfl, ⟨_, .inl (.inl et)⟩, fun D hD => ?_⟩
    refine dc_it (walk_tup (xs := xs)) (fun i H' => ∃ kvs, Same Ha H' ∧ H' D = some (.dK kvs) ∧ ChF (Plus (Plus S x) D) H' kvs (B.take i)) ⟨[], same_new hD, upd_same, rfl, .nil⟩ (fun i H' _ ⟨_, z, _⟩ => .inl (.inl (z _ _ et))) ?_ ?_
    · rintro i y H2 H2' hi ⟨kvs, S2, hD2, cf⟩ ⟨rfl, hy⟩
      obtain ⟨b, hb, hv⟩ := ka.at_ hy
      obtain ⟨a2, v2, rfl, e2, h2⟩ := (At.same (hv.plusN hD) S2).bk2
      have lk : kvs.length = i := by
        have := congrArg List.length cf.k
        rw [List.length_map, List.length_map, List.length_take] at this
        omega
      have new : valV kvs (Sum.inr (SX.S b.1) : Key) = none := by
        refine val_no ?_
        rw [cf.k]
        intro z
        obtain ⟨b', hb', e'⟩ := List.mem_map.mp z
        have e' : b'.1 = b.1 := SX.S_inj (Sum.inr.inj e')
        have h1 : (B.map (·.1))[i]? = some b.1 := by
          rw [List.getElem?_map, hb]
          rfl
        refine nodup_take_not okB.nd h1 ?_
        rw [← List.map_take]
        exact List.mem_map.mpr ⟨b', hb', e'⟩
      refine ⟨a2, _, rfl, .inl (.inl e2), rfl, _, _, rfl, _, _, rfl, rfl, rfl, _, rfl, _, rfl, kvs, .inr (SX.S b.1), rfl, hD2, Evl.sz_lt (by omega), kvs ++ [(.inr (SX.S b.1), v2)], ?_, ?_, ?_⟩
      · exact fun q o e => by
          rw [upd_ne (ne_of_none e hD)]
          exact S2 q o e
      · rw [upd_same, putK_new _ new]
      · have U : BtS (Plus (Plus S x) D) H2' (upd H2' D (.dK (putK kvs (.inr (SX.S b.1)) v2))) := BtS.upd (.inr rfl)
        refine ⟨?_, ?_⟩
        · rw [List.map_append, cf.k, List.take_add_one, hb, List.map_append]
          rfl
        · rw [List.map_append, List.take_add_one, hb, List.map_append]
          exact (AtAll.bt U _ _ cf.v).app (.cons (At.bt U _ _ h2) .nil)
    · rintro H2 ⟨ckv, S2, hD2, cf⟩
      rw [lx, List.take_length] at cf
      have cv : AtAll (Plus S x) H2 (ckv.map (·.2)) (B.map fun b => chsD b.2) := AtAll.weak (fun _ z => .inl z) _ _ cf.v
      refine ⟨.ref x, rfl, x, C, dx, _, rfl, S2 _ _ xa, EC.cl, EC.n2, by show 1 < 1000; decide, ?_⟩
      have nD : ¬ Plus S x D := oa.free hD
      have U := BtS.upd (S := Plus S x) (H := H2) (p := x) (o := .ins C dx (putF "_chapters" (.ref D) [("_books", .ref t)])) (.inr rfl)
      have A2 := At.bt U _ _ (At.same Ax S2)
      have c2 : AtAll (Plus S x) (upd H2 x (.ins C dx (putF "_chapters" (.ref D) [("_books", .ref t)]))) (ckv.map (·.2)) (B.map fun b => chsD b.2) := AtAll.bt U _ _ cv
      have d2 := U _ _ nD hD2
      have xb : upd H2 x (.ins C dx (putF "_chapters" (.ref D) [("_books", .ref t)])) x = some (.ins C dx [("_books", .ref t), ("_chapters", .ref D)]) := upd_same
      have ob : Occ (Plus S x) (upd H2 x (.ins C dx (putF "_chapters" (.ref D) [("_books", .ref t)]))) := (oa.same S2).upd
      have bb : Bt x H (upd H2 x (.ins C dx (putF "_chapters" (.ref D) [("_books", .ref t)]))) := (ba.trans (Bt.same S2)).trans Bt.upd
      generalize upd H2 x (.ins C dx (putF "_chapters" (.ref D) [("_books", .ref t)])) = Hb at A2 c2 d2 xb ob bb ⊢
      -- the places
      refine ⟨.ref x, rfl, x, C, dx, _, .ref t, rfl, xb, EC.cl, EC.n1, rfl, Plus S x, .ref t, B, rfl, ob, A2, okB, fun l rows H3 hl S3 el rl => ?_⟩
      refine ⟨.ref x, rfl, x, C, dx, _, rfl, S3 _ _ xb, EC.cl, EC.n3, by show 2 < 1000; decide, ?_⟩
      have nl : ¬ Plus S x l := ob.free hl
      have U3 := BtS.upd (S := Plus S x) (H := H3) (p := x) (o := .ins C dx (putF "_places" (.ref l) [("_books", .ref t), ("_chapters", .ref D)])) (.inr rfl)
      have W3 := (Same.btS S3).trans U3
      have A3 := At.bt W3 _ _ A2
      have c3 := AtAll.bt W3 _ _ c2
      have d3 := W3 _ _ nD d2
      have l3 := U3 _ _ nl el
      have r3 := AtAll.bt U3 _ _ rl
      have xc : upd H3 x (.ins C dx (putF "_places" (.ref l) [("_books", .ref t), ("_chapters", .ref D)])) x = some (.ins C dx [("_books", .ref t), ("_chapters", .ref D), ("_places", .ref l)]) := upd_same
      have oc : Occ (Plus S x) (upd H3 x (.ins C dx (putF "_places" (.ref l) [("_books", .ref t), ("_chapters", .ref D)]))) := (ob.same S3).upd
      have bc : Bt x H (upd H3 x (.ins C dx (putF "_places" (.ref l) [("_books", .ref t), ("_chapters", .ref D)]))) := (bb.trans (Bt.same S3)).trans Bt.upd
      generalize upd H3 x (.ins C dx (putF "_places" (.ref l) [("_books", .ref t), ("_chapters", .ref D)])) = Hc at A3 c3 d3 l3 r3 xc oc bc ⊢
      -- the stretches
      refine ⟨.ref x, rfl, x, C, dx, _, .ref l, rfl, xc, EC.cl, EC.n3, rfl, Plus S x, l, rows, plOf B, rfl, oc, l3, r3, by omega, fun d kvs H4 hd S4 ed fd4 => ?_⟩
      refine ⟨.ref x, rfl, x, C, dx, _, rfl, S4 _ _ xc, EC.cl, EC.n4, by show 3 < 1000; decide, ?_⟩
      have ndd : ¬ Plus S x d := oc.free hd
      have U4 := BtS.upd (S := Plus S x) (H := H4) (p := x) (o := .ins C dx (putF "_stretches" (.ref d) [("_books", .ref t), ("_chapters", .ref D), ("_places", .ref l)])) (.inr rfl)
      have W4 := (Same.btS S4).trans U4
      have A4 := At.bt W4 _ _ A3
      have c4 := AtAll.bt W4 _ _ c3
      have d4 := W4 _ _ nD d3
      have l4 := W4 _ _ nl l3
      have r4 := AtAll.bt W4 _ _ r3
      have s4 := U4 _ _ ndd ed
      have f4 := fd4.bt U4
      have xd : upd H4 x (.ins C dx (putF "_stretches" (.ref d) [("_books", .ref t), ("_chapters", .ref D), ("_places", .ref l)])) x = some (.ins C dx [("_books", .ref t), ("_chapters", .ref D), ("_places", .ref l), ("_stretches", .ref d)]) := upd_same
      have od : Occ (Plus S x) (upd H4 x (.ins C dx (putF "_stretches" (.ref d) [("_books", .ref t), ("_chapters", .ref D), ("_places", .ref l)]))) := (oc.same S4).upd
      have bd : Bt x H (upd H4 x (.ins C dx (putF "_stretches" (.ref d) [("_books", .ref t), ("_chapters", .ref D), ("_places", .ref l)]))) := (bc.trans (Bt.same S4)).trans Bt.upd
      generalize upd H4 x (.ins C dx (putF "_stretches" (.ref d) [("_books", .ref t), ("_chapters", .ref D), ("_places", .ref l)])) = Hd at A4 c4 d4 l4 r4 s4 f4 xd od bd ⊢
      -- the lines
      have lr : rows.length = (plOf B).length := by rw [r4.len, List.length_map]
      refine ⟨lv, rfl, .ref x, rfl, x, C, dx, _, .ref l, rfl, xd, EC.cl, EC.n3, rfl, _, rows.length, rfl, .inl ⟨rows, .inl (.inl l4), rfl⟩, ?_⟩
      rw [lr]
      refine ⟨lv, o, _, rfl, hL.btx hx bd, okL, fun ll2 H5 hl5 S5 el5 => ?_⟩
      refine ⟨.ref x, rfl, x, C, dx, _, rfl, S5 _ _ xd, EC.cl, EC.n5, by show 4 < 1000; decide, ?_⟩
      have n5 : ¬ Plus S x ll2 := od.free hl5
      have U5 := BtS.upd (S := Plus S x) (H := H5) (p := x) (o := .ins C dx (putF "_lines" (.ref ll2) [("_books", .ref t), ("_chapters", .ref D), ("_places", .ref l), ("_stretches", .ref d)])) (.inr rfl)
      have W5 := (Same.btS S5).trans U5
      have A5 := At.bt W5 _ _ A4
      have c5 := AtAll.bt W5 _ _ c4
      have d5 := W5 _ _ nD d4
      have l5 := W5 _ _ nl l4
      have r5 := AtAll.bt W5 _ _ r4
      have s5 := W5 _ _ ndd s4
      have f5 := f4.bt W5
      have e5 := U5 _ _ n5 el5
      have xe : upd H5 x (.ins C dx (putF "_lines" (.ref ll2) [("_books", .ref t), ("_chapters", .ref D), ("_places", .ref l), ("_stretches", .ref d)])) x = some (.ins C dx [("_books", .ref t), ("_chapters", .ref D), ("_places", .ref l), ("_stretches", .ref d), ("_lines", .ref ll2)]) := upd_same
      have oe : Occ (Plus S x) (upd H5 x (.ins C dx (putF "_lines" (.ref ll2) [("_books", .ref t), ("_chapters", .ref D), ("_places", .ref l), ("_stretches", .ref d)]))) := (od.same S5).upd
      have be : Bt x H (upd H5 x (.ins C dx (putF "_lines" (.ref ll2) [("_books", .ref t), ("_chapters", .ref D), ("_places", .ref l), ("_stretches", .ref d)]))) := (bd.trans (Bt.same S5)).trans Bt.upd
      generalize upd H5 x (.ins C dx (putF "_lines" (.ref ll2) [("_books", .ref t), ("_chapters", .ref D), ("_places", .ref l), ("_stretches", .ref d)])) = He at A5 c5 d5 l5 r5 s5 f5 e5 xe oe be ⊢
      -- the numbers
      have okl1 : (plOf B).length ≤ 400 := by
        have := okL.2.1
        omega
      generalize lnsD o (plOf B).length = L at nd ll q e5
      refine ⟨.ref x, rfl, x, C, dx, _, .ref ll2, rfl, xe, EC.cl, EC.n5, rfl, ll2, _, rfl, .inl (.inl e5), fun Dn hDn => ?_⟩
      refine dc_it (walk_enum (xs := L.map V.int)) (fun i H' => Same He H' ∧ H' Dn = some (.dK (numD (L.take i)))) ⟨same_new hDn, upd_same⟩ (fun i H' _ ⟨z, _⟩ => .inl (.inl (z _ _ e5))) ?_ ?_
      · rintro i y H6 H6' hi ⟨S6, hD6⟩ ⟨T6, x6, y6, rfl, hT6, rfl, e6, hy6⟩
        cases e6
        rw [List.length_map] at hi
        have hLi : L[i]? = some L[i] := List.getElem?_eq_getElem hi
        have hy6 : (L.map V.int)[i]? = some y6 := hy6
        rw [List.getElem?_map, hLi] at hy6
        cases hy6
        have new : valV (numD (L.take i)) (Sum.inl L[i] : Key) = none := by
          refine val_no ?_
          rw [numD_keys]
          intro z
          obtain ⟨z', hz', e'⟩ := List.mem_map.mp z
          rw [Sum.inl.inj e'] at hz'
          exact nodup_take_not nd hLi hz'
        refine ⟨T6, _, rfl, .inl (.inl upd_same), rfl, _, _, rfl, _, _, rfl, rfl, rfl, _, rfl, _, rfl, numD (L.take i), .inl L[i], rfl, same_new hT6 _ _ hD6, Evl.sz_lt ?_, ?_, ?_⟩
        · unfold numD
          rw [List.length_map, List.length_zipIdx, List.length_take]
          omega
        · exact fun q o e => by
            rw [upd_ne (ne_of_none e hDn)]
            exact same_new hT6 _ _ (S6 q o e)
        · rw [upd_same, putK_new _ new, numD_succ hLi]
      · rintro H6 ⟨S6, hD6⟩
        rw [List.length_map, List.take_length] at hD6
        refine ⟨.ref x, rfl, x, C, dx, _, rfl, S6 _ _ xe, EC.cl, EC.n6, by show 5 < 1000; decide, ?_⟩
        have n6 : ¬ Plus S x Dn := oe.free hDn
        have U6 := BtS.upd (S := Plus S x) (H := H6) (p := x) (o := .ins C dx (putF "_numbers" (.ref Dn) [("_books", .ref t), ("_chapters", .ref D), ("_places", .ref l), ("_stretches", .ref d), ("_lines", .ref ll2)])) (.inr rfl)
        have W6 := (Same.btS S6).trans U6
        have A6 := At.bt W6 _ _ A5
        have c6 := AtAll.bt W6 _ _ c5
        have d6 := W6 _ _ nD d5
        have l6' := W6 _ _ nl l5
        have r6 := AtAll.bt W6 _ _ r5
        have s6 := W6 _ _ ndd s5
        have f6 := f5.bt W6
        have e6 := W6 _ _ n5 e5
        have m6 := U6 _ _ n6 hD6
        have xf : upd H6 x (.ins C dx (putF "_numbers" (.ref Dn) [("_books", .ref t), ("_chapters", .ref D), ("_places", .ref l), ("_stretches", .ref d), ("_lines", .ref ll2)])) x = some (.ins C dx [("_books", .ref t), ("_chapters", .ref D), ("_places", .ref l), ("_stretches", .ref d), ("_lines", .ref ll2), ("_numbers", .ref Dn)]) := upd_same
        have og : Occ (Plus S x) (upd H6 x (.ins C dx (putF "_numbers" (.ref Dn) [("_books", .ref t), ("_chapters", .ref D), ("_places", .ref l), ("_stretches", .ref d), ("_lines", .ref ll2)]))) := (oe.same S6).upd
        have bf : Bt x H (upd H6 x (.ins C dx (putF "_numbers" (.ref Dn) [("_books", .ref t), ("_chapters", .ref D), ("_places", .ref l), ("_stretches", .ref d), ("_lines", .ref ll2)]))) := (be.trans (Bt.same S6)).trans Bt.upd
        generalize upd H6 x (.ins C dx (putF "_numbers" (.ref Dn) [("_books", .ref t), ("_chapters", .ref D), ("_places", .ref l), ("_stretches", .ref d), ("_lines", .ref ll2)])) = Hf at A6 c6 d6 l6' r6 s6 f6 e6 m6 xf og bf ⊢
        -- what it tells
        refine ⟨.ref x, rfl, x, C, dx, _, .ref t, rfl, xf, EC.cl, EC.n1, rfl, ?_⟩
        refine ⟨.ref x, rfl, x, C, dx, _, .ref ll2, rfl, xf, EC.cl, EC.n5, rfl, Plus S x, _, L, rfl, og, .inl (.inl e6), by omega, fun v H7 S7 hv => ?_⟩
        refine ⟨by show 2 ≤ sizeLine; decide, fun tt htt => ?_⟩
        have S8 := same_new (o := .tup [.ref t, v]) htt
        have S78 := S7.trans S8
        refine ⟨.ref x, rfl, x, C, dx, _, rfl, S78 _ _ xf, EC.cl, EC.n7, by show 6 < 1000; decide, ?_⟩
        have nt7 : ¬ Plus S x tt := og.free (Same.fresh S7 htt)
        have T7 : At (Plus S x) (upd H7 tt (.tup [.ref t, v])) (.ref tt) (toldD B L) := .tup nt7 upd_same (.cons (At.same A6 S78) (.cons (At.same hv S8) .nil))
        have U7 := BtS.upd (S := Plus S x) (H := upd H7 tt (.tup [.ref t, v])) (p := x) (o := .ins C dx (putF "_told" (.ref tt) [("_books", .ref t), ("_chapters", .ref D), ("_places", .ref l), ("_stretches", .ref d), ("_lines", .ref ll2), ("_numbers", .ref Dn)])) (.inr rfl)
        have W7 := (Same.btS S78).trans U7
        have wk : ∀ b, S b → Plus S x b := fun _ z => .inl z
        have nn : ∀ {b}, ¬ Plus S x b → ¬ S b := fun n z => n (.inl z)
        refine q _ ((bf.trans (Bt.same S78)).trans Bt.upd) ⟨⟨dx, .ref t, D, ckv, l, rows, d, kvs, ll2, Dn, .ref tt⟩, ?_⟩
        exact { at_ := upd_same, n0 := nx, n2 := nn nD, n3 := nn nl, n4 := nn ndd, n5 := nn n5, n6 := nn n6
                h1 := At.weak wk _ _ (At.bt W7 _ _ A6), h2 := W7 _ _ nD d6, c2 := ⟨cf.k, AtAll.weak wk _ _ (AtAll.bt W7 _ _ c6)⟩
                h3 := W7 _ _ nl l6', c3 := AtAll.weak wk _ _ (AtAll.bt W7 _ _ r6), h4 := W7 _ _ ndd s6, c4 := (f6.bt W7).weak wk, h5 := W7 _ _ n5 e6, h6 := W7 _ _ n6 m6, h7 := At.weak wk _ _ (At.bt U7 _ _ T7) }
end
end My
set_option Elab.async false
set_option linter.all false
set_option maxRecDepth 100000
set_option maxHeartbeats 4000000
namespace My
open PySem PySem.Spec PyProof.Rows L2
def sp_size (C : Addr) : Sp := fun vs H Q _ => ∃ (S : Av) (e : Addr) (B : Bks) (L : List Int), vs = [.ref e] ∧ EdAt S H C e B L ∧ Q (.int ((plOf B).length : Nat)) H
def sp_lines (C : Addr) : Sp := fun vs H Q _ => ∃ (S : Av) (e : Addr) (B : Bks) (L : List Int), vs = [.ref e] ∧ EdAt S H C e B L ∧ ∀ l, H l = none → Q (.ref l) (upd H l (.lst (L.map V.int)))
def sp_checkN (C : Addr) : Sp := fun vs H Q _ => ∃ (S : Av) (e : Addr) (B : Bks) (L : List Int) (n : Int), vs = [.ref e, .int n] ∧ EdAt S H C e B L ∧ 0 ≤ n ∧ n < (plOf B).length ∧ Q .non H
section
variable {P : Program} {w : World} {K : PySem.W.Frag} {mg : Str → Option Value} {base : Heap}
theorem ok_size {C f : Addr} {fd : FuncData} (T : Txt K mg) (EC : EdC K C) (F : Fun K "size" "Edition.size" s_Edition_size f fd) : FnOk P w K mg base CX0 2 f fd ["self"] (sp_size C) := by
  refine F.ok sc_Edition_size (fun vs H Q E h => ?_) (fun cdv A outer s H vs Q E hr h => ?_)
  · obtain ⟨S, e, B, L, rfl, _⟩ := h
    rfl
  · obtain ⟨S, e, B, L, rfl, ⟨w, h⟩, q⟩ := h
    refine ⟨_, (pss_one (ps_ret (pe_callB call_len (by rfl) T.b_len (by decide +kernel) (pa_cons (pe_fld (pv 0) rfl) pa_nil)))), ?_⟩
    have lr : w.rows.length = (plOf B).length := by rw [h.c3.len, List.length_map]
    rw [← lr] at q
    exact ⟨.ref e, rfl, e, C, _, _, _, rfl, h.at_, EC.cl, EC.n3, rfl, _, _, rfl, .inl ⟨_, .inl (.inl h.h3), rfl⟩, q⟩
theorem ok_lines {C f : Addr} {fd : FuncData} (T : Txt K mg) (EC : EdC K C) (F : Fun K "lines" "Edition.lines" s_Edition_lines f fd) : FnOk P w K mg base CX0 2 f fd ["self"] (sp_lines C) := by
  refine F.ok sc_Edition_lines (fun vs H Q E h => ?_) (fun cdv A outer s H vs Q E hr h => ?_)
  · obtain ⟨S, e, B, L, rfl, _⟩ := h
    rfl
  · obtain ⟨S, e, B, L, rfl, ⟨w, h⟩, q⟩ := h
    refine ⟨_, (pss_one (ps_ret (pe_callTy call_list_of (by rfl) T.b_list (by decide +kernel) (pa_cons (pe_fld (pv 0) rfl) pa_nil)))), ?_⟩
    exact ⟨.ref e, rfl, e, C, _, _, _, rfl, h.at_, EC.cl, EC.n5, rfl, _, _, rfl, .inl (.inl (.inl h.h5)), q⟩
theorem ok_checkN {C f : Addr} {fd : FuncData} (T : Txt K mg) (EC : EdC K C) (c_is_whole : Cl P w K mg base 2 "is_whole" ["thing", "low", "high"] (sp_whole K)) (m_size : C8.Met P w K mg base 2 C "size" (sp_size C) []) (F : Fun K "_check_number" "Edition._check_number" s_Edition__check_number f fd) : FnOk P w K mg base CX0 3 f fd ["self", "number"] (sp_checkN C) := by
  refine F.ok sc_Edition__check_number (fun vs H Q E h => ?_) (fun cdv A outer s H vs Q E hr h => ?_)
  · obtain ⟨S, e, B, L, n, rfl, _⟩ := h
    rfl
  · obtain ⟨S, e, B, L, n, rfl, h, n0, n1, q⟩ := h
    refine ⟨_, (pss_one (ps_if (pt_not (pt_val (pe_cl c_is_whole hr (by decide) (by rfl) (pa_cons (pv 1) (pa_cons pe_int (pa_cons (pe_op op_sub (C8.pe_mt0 m_size hr (by decide) (pv 0)) pe_int) pa_nil)))))) (pss_one ps_never) pss_nil)), ?_⟩
    obtain ⟨w, hw⟩ := id h
    have ew : whole (.int n) 0 (((plOf B).length : Nat) - 1) = true := by
      show (decide (0 ≤ n) && decide (n ≤ (((plOf B).length : Nat) : Int) - 1)) = true
      rw [decide_eq_true n0, decide_eq_true (by omega), Bool.true_and]
    refine ⟨_, rfl, .ref e, rfl, e, _, _, rfl, hw.at_, rfl, S, e, B, L, rfl, h, _, 1, rfl, rfl, .int n, 0, _, rfl, .int _, ?_⟩
    rw [ew]
    exact ⟨_, rfl, ite2 (fun z => absurd z (by decide)) fun _ => q⟩
end
end My
set_option Elab.async false
set_option linter.all false
set_option maxRecDepth 100000
set_option maxHeartbeats 4000000
namespace My
open PySem PySem.Spec PyProof.Rows L2
theorem lay_map {α : Type} (f : α → PyData) : ∀ l : List α, (∀ x ∈ l, (f x).canLay0 = true) → PyData.canLayAll0 (l.map f) = true
  | [], _ => rfl
  | a :: r, h => by
    show ((f a).canLay0 && PyData.canLayAll0 (r.map f)) = true
    rw [h a (List.mem_cons_self ..), lay_map f r fun x hx => h x (List.mem_cons_of_mem _ hx), Bool.and_true]
theorem dep_map {α : Type} (f : α → PyData) (n : Nat) : ∀ l : List α, (∀ x ∈ l, (f x).depth ≤ n) → PyData.depthAll (l.map f) ≤ n
  | [], _ => Nat.zero_le _
  | a :: r, h => by
    show max (f a).depth (PyData.depthAll (r.map f)) ≤ n
    have h1 := h a (List.mem_cons_self ..)
    have h2 := dep_map f n r fun x hx => h x (List.mem_cons_of_mem _ hx)
    omega
theorem lay_name {w : List Nat} (h : okName w) : PyData.strOk (SX.S w) = true := by
  show (w.toArray.all fun c => decide (c < 0x110000)) = true
  rw [← Array.all_toList, List.all_eq_true]
  intro c hc
  have := let128 c (h.a c hc)
  exact decide_eq_true (by omega)
theorem lay_pr (s : Int × Int) : (prD s).canLay0 = true := rfl
theorem dep_pr (s : Int × Int) : (prD s).depth ≤ 1 := Nat.le_refl _
theorem dep_ch (c : List Int) : (chD c).depth ≤ 1 := by
  have := dep_map PyData.int 0 c fun x _ => Nat.le_refl _
  show PyData.depthAll _ + 1 ≤ 1
  omega
theorem dep_chs (C : List (List Int)) : (chsD C).depth ≤ 2 := by
  have := dep_map chD 1 C fun x _ => dep_ch x
  show PyData.depthAll _ + 1 ≤ 2
  omega
theorem dep_bk (b : List Nat × List (List Int)) : (bkD b).depth ≤ 3 := by
  have := dep_chs b.2
  show max 0 (max (chsD b.2).depth 0) + 1 ≤ 3
  omega
theorem dep_bks (B : Bks) : (bksD B).depth ≤ 4 := by
  have := dep_map bkD 3 B fun x _ => dep_bk x
  show PyData.depthAll _ + 1 ≤ 4
  omega
theorem lay_bks {B : Bks} (h : ∀ b ∈ B, okName b.1) : (bksD B).canLay0 = true := by
  refine lay_map bkD B fun b hb => ?_
  show (PyData.strOk (SX.S b.1) && ((chsD b.2).canLay0 && true)) = true
  rw [lay_name (h b hb), Bool.true_and, Bool.and_true]
  exact lay_map chD b.2 fun c _ => lay_map PyData.int c fun x _ => rfl
theorem shaped_told {B : Bks} (h : ∀ b ∈ B, okName b.1) (L : List Int) : SeqAt.shaped (toldD B L) = true := by
  unfold SeqAt.shaped
  rw [Bool.and_eq_true]
  refine ⟨?_, decide_eq_true ?_⟩
  · show ((bksD B).canLay0 && (PyData.canLayAll0 ((fewest L).map prD) && true)) = true
    rw [lay_bks h, lay_map prD _ fun s _ => lay_pr s]
    rfl
  · have h1 := dep_bks B
    have h2 := dep_map prD 1 (fewest L) fun s _ => dep_pr s
    show max (bksD B).depth (max (PyData.depthAll ((fewest L).map prD) + 1) 0) + 1 ≤ 64
    omega
theorem eqv_prs : ∀ xs ys : List (Int × Int), PyData.eqvAll (xs.map prD) (ys.map prD) = decide (xs = ys)
  | [], [] => rfl
  | [], _ :: _ => rfl
  | _ :: _, [] => rfl
  | (a, b) :: r, (c, d) :: t => by
    show (((a == c) && ((b == d) && true)) && PyData.eqvAll (r.map prD) (t.map prD)) = _
    rw [eqv_prs r t, Bool.and_true]
    by_cases e1 : a = c
    · by_cases e2 : b = d
      · subst e1 e2
        rw [beq_self_eq_true, beq_self_eq_true, Bool.true_and, Bool.true_and]
        exact decide_eq_decide.mpr ⟨fun h => by rw [h], fun h => (List.cons.inj h).2⟩
      · rw [beq_false_of_ne e2, Bool.and_false, Bool.false_and]
        exact (decide_eq_false fun h => e2 (Prod.mk.inj (List.cons.inj h).1).2).symm
    · rw [beq_false_of_ne e1, Bool.false_and, Bool.false_and]
      exact (decide_eq_false fun h => e1 (Prod.mk.inj (List.cons.inj h).1).1).symm
/-! ### what the fewest pairs stand for -/
theorem fp_pos {ps : List (Int × Int)} (h : ∀ s ∈ ps, 1 ≤ s.2) (z : Int) : ∀ s ∈ fpStep ps z, 1 ≤ s.2 := by
  rcases List.eq_nil_or_concat ps with rfl | ⟨qs, s, rfl⟩
  · intro s hs
    rw [fp_nil, List.mem_singleton] at hs
    subst hs
    exact Int.le_refl _
  · rw [List.concat_eq_append] at h ⊢
    rw [fp_snoc]
    have hs := h s (by simp)
    split
    · intro t ht
      rcases List.mem_append.mp ht with ht | ht
      · exact h t (by simp [ht])
      · rw [List.mem_singleton] at ht
        subst ht
        show 1 ≤ s.2 + 1
        omega
    · intro t ht
      rcases List.mem_append.mp ht with ht | ht
      · exact h t ht
      · rw [List.mem_singleton] at ht
        subst ht
        exact Int.le_refl _
theorem lnP_succ {s : Int × Int} (h : 0 ≤ s.2) : lnP (s.1, s.2 + 1) = lnP s ++ [s.1 + s.2] := by
  unfold lnP
  have e : (s.2 + 1).toNat = s.2.toNat + 1 := by omega
  show (List.range (s.2 + 1).toNat).map _ = _
  rw [e, List.range_succ, List.map_append]
  show _ ++ [s.1 + ((s.2.toNat : Nat) : Int)] = _
  rw [Int.toNat_of_nonneg h]
theorem ln_one (z : Int) : lnP (z, 1) = [z] := by
  show [z + ((0 : Nat) : Int)] = [z]
  simp
theorem lnOf_app (ps qs : List (Int × Int)) : lnOf (ps ++ qs) = lnOf ps ++ lnOf qs := by
  unfold lnOf
  rw [List.flatMap_append]
theorem lnOf_one (s : Int × Int) : lnOf [s] = lnP s := by
  show lnP s ++ [] = lnP s
  rw [List.append_nil]
theorem fp_ln {ps : List (Int × Int)} (h : ∀ s ∈ ps, 1 ≤ s.2) (z : Int) : lnOf (fpStep ps z) = lnOf ps ++ [z] := by
  rcases List.eq_nil_or_concat ps with rfl | ⟨qs, s, rfl⟩
  · rw [fp_nil, lnOf_one, ln_one]
    rfl
  · rw [List.concat_eq_append] at h ⊢
    have hs := h s (by simp)
    rw [fp_snoc]
    split
    · rename_i e
      rw [lnOf_app, lnOf_app, lnOf_one, lnOf_one, lnP_succ (by omega), List.append_assoc, e]
    · rw [lnOf_app _ [(z, 1)], lnOf_one, ln_one]
theorem fewest_ln : ∀ (L : List Int) (ps : List (Int × Int)), (∀ s ∈ ps, 1 ≤ s.2) → (∀ s ∈ L.foldl fpStep ps, 1 ≤ s.2) ∧ lnOf (L.foldl fpStep ps) = lnOf ps ++ L
  | [], ps, h => ⟨h, (List.append_nil _).symm⟩
  | z :: r, ps, h => by
    obtain ⟨h1, h2⟩ := fewest_ln r (fpStep ps z) (fp_pos h z)
    refine ⟨h1, ?_⟩
    rw [List.foldl_cons, h2, fp_ln h, List.append_assoc]
    rfl
theorem lnOf_fewest (L : List Int) : lnOf (fewest L) = L := (fewest_ln L [] fun _ h => nomatch h).2
theorem fewest_pos (L : List Int) : ∀ s ∈ fewest L, 1 ≤ s.2 := (fewest_ln L [] fun _ h => nomatch h).1
theorem fewest_inj {L M : List Int} : fewest L = fewest M ↔ L = M := ⟨fun h => by rw [← lnOf_fewest L, h, lnOf_fewest], fun h => by rw [h]⟩
theorem eqv_told (B : Bks) (h : ∀ b ∈ B, okName b.1) (L M : List Int) : PyData.eqv (toldD B L) (toldD B M) = decide (L = M) := by
  show (PyData.eqv (bksD B) (bksD B) && (PyData.eqvAll ((fewest L).map prD) ((fewest M).map prD) && true)) = _
  rw [SeqAt.eqv_refl _ (lay_bks h), Bool.true_and, Bool.and_true, eqv_prs]
  exact decide_eq_decide.mpr fewest_inj
end My
set_option Elab.async false
set_option linter.all false
set_option maxRecDepth 100000
set_option maxHeartbeats 4000000
namespace My
open PySem PySem.Spec PyProof.Rows L2
/-! M1: what the stretches tell: of each spot the first and the last part that begins with it; all parts are unlike. -/
theorem plK_len (x : Pl) : (plK x).length = 4 := rfl
theorem stPut_ne {f : StF} {n : Int} {t k : List Key} (h : k ≠ t) : stPut f n t k = f k := by
  unfold stPut
  rw [if_neg h]
theorem stPut_eq {f : StF} {n : Int} {k : List Key} : stPut f n k k = some ((match f k with | some s => s.1 | none => n), n) := by
  unfold stPut
  exact if_pos rfl
theorem stPl_at (f : StF) (n : Int) (x : Pl) {k : List Key} {m : Nat} (hk : k.length = m + 1) (hm : m < 4) : stPl f n x 4 k = if k = (plK x).take (m + 1) then some ((match f k with | some s => s.1 | none => n), n) else f k := by
  have L : ∀ i, i < 4 → ((plK x).take (i + 1)).length = i + 1 := fun i hi => by
    rw [List.length_take, plK_len]
    omega
  have ne : ∀ i, i < 4 → i ≠ m → k ≠ (plK x).take (i + 1) := fun i hi h z => by
    have := congrArg List.length z
    rw [L i hi] at this
    omega
  have z0 : ∀ f : StF, stPl f n x 0 = f := fun f => rfl
  by_cases e : k = (plK x).take (m + 1)
  · rw [if_pos e]
    have pt : ∀ g : StF, stPut g n ((plK x).take (m + 1)) k = some ((match g k with | some s => s.1 | none => n), n) := fun g => by
      rw [← e]
      exact stPut_eq
    rcases (by omega : m = 0 ∨ m = 1 ∨ m = 2 ∨ m = 3) with rfl | rfl | rfl | rfl
    · rw [stPl_succ, stPut_ne (ne 3 (by decide) (by decide)), stPl_succ, stPut_ne (ne 2 (by decide) (by decide)), stPl_succ, stPut_ne (ne 1 (by decide) (by decide)), stPl_succ, pt, z0]
    · rw [stPl_succ, stPut_ne (ne 3 (by decide) (by decide)), stPl_succ, stPut_ne (ne 2 (by decide) (by decide)), stPl_succ, pt, stPl_succ, stPut_ne (ne 0 (by decide) (by decide)), z0]
    · rw [stPl_succ, stPut_ne (ne 3 (by decide) (by decide)), stPl_succ, pt, stPl_succ, stPut_ne (ne 1 (by decide) (by decide)), stPl_succ, stPut_ne (ne 0 (by decide) (by decide)), z0]
    · rw [stPl_succ, pt, stPl_succ, stPut_ne (ne 2 (by decide) (by decide)), stPl_succ, stPut_ne (ne 1 (by decide) (by decide)), stPl_succ, stPut_ne (ne 0 (by decide) (by decide)), z0]
  · rw [if_neg e]
    have ne' : ∀ i, i < 4 → k ≠ (plK x).take (i + 1) := fun i hi => by
      by_cases h : i = m
      · rw [h]
        exact e
      · exact ne i hi h
    rw [stPl_succ, stPut_ne (ne' 3 (by decide)), stPl_succ, stPut_ne (ne' 2 (by decide)), stPl_succ, stPut_ne (ne' 1 (by decide)), stPl_succ, stPut_ne (ne' 0 (by decide)), z0]
/-- the numbers of the parts that begin so -/
def insK (P : List Pl) (k : List Key) : List Int := (P.zipIdx.filter fun x => decide ((plK x.1).take k.length = k)).map fun x => (x.2 : Int)
def ends (l : List Int) : Option (Int × Int) := match l.head?, l.getLast? with
  | some a, some b => some (a, b)
  | _, _ => none
theorem ends_snoc (l : List Int) (z : Int) : ends (l ++ [z]) = some ((match ends l with | some s => s.1 | none => z), z) := by
  unfold ends
  cases l with
  | nil => rfl
  | cons a r =>
    rw [List.getLast?_concat]
    obtain ⟨y, e⟩ : ∃ y, (a :: r).getLast? = some y := by
      cases q : (a :: r).getLast? with
      | none => exact absurd (List.getLast?_eq_none_iff.mp q) (by simp)
      | some y => exact ⟨y, rfl⟩
    rw [e]
    rfl
theorem insK_succ {P : List Pl} {i : Nat} {x : Pl} (h : P[i]? = some x) (k : List Key) : insK (P.take (i + 1)) k = if (plK x).take k.length = k then insK (P.take i) k ++ [(i : Int)] else insK (P.take i) k := by
  unfold insK
  rw [zi_succ h, List.filter_append]
  by_cases e : (plK x).take k.length = k
  · rw [if_pos e, List.filter_cons_of_pos (by simpa using e), List.map_append]
    rfl
  · rw [if_neg e, List.filter_cons_of_neg (by simpa using e), List.filter_nil, List.append_nil]
theorem st_ends (P : List Pl) {k : List Key} {m : Nat} (hk : k.length = m + 1) (hm : m < 4) : stOf P k = ends (insK P k) := by
  have key : ∀ i, i ≤ P.length → stOf (P.take i) k = ends (insK (P.take i) k) := by
    intro i
    induction i with
    | zero => intro _; rfl
    | succ i ih =>
      intro hi
      have hx : P[i]? = some P[i] := List.getElem?_eq_getElem (by omega)
      rw [st_succ hx, stPl_at _ _ _ hk hm, insK_succ hx, ih (by omega), hk]
      by_cases e : k = (plK P[i]).take (m + 1)
      · rw [if_pos e, if_pos e.symm, ends_snoc]
      · rw [if_neg e, if_neg fun z => e z.symm]
  have := key P.length (Nat.le_refl _)
  rwa [List.take_length] at this
/-! ### all parts are unlike -/
theorem plV_nodup (nm : List Nat) (ci vi : Nat) (m : Int) : (plV nm ci vi m).Nodup := by
  unfold plV
  refine List.pairwise_map.mpr (List.Pairwise.imp ?_ (List.nodup_range (n := m.toNat)))
  intro a b h e
  have := congrArg Pl.p e
  have : 1 + (a : Int) = 1 + (b : Int) := this
  exact h (by omega)
theorem zi_pair {α : Type} (l : List α) : ∀ n : Nat, (l.zipIdx n).Pairwise fun a b => a.2 ≠ b.2 := by
  induction l with
  | nil => intro n; exact .nil
  | cons a r ih =>
    intro n
    rw [List.zipIdx_cons]
    refine List.pairwise_cons.mpr ⟨fun b hb => ?_, ih (n + 1)⟩
    have := (List.mem_zipIdx hb).1
    show n ≠ b.2
    omega
theorem mem_plV' {nm : List Nat} {ci vi : Nat} {m : Int} {x : Pl} (h : x ∈ plV nm ci vi m) : x.nm = nm ∧ x.c = 1 + (ci : Int) ∧ x.v = 1 + (vi : Int) := by
  unfold plV at h
  obtain ⟨k, hk, rfl⟩ := List.mem_map.mp h
  exact ⟨rfl, rfl, rfl⟩
theorem mem_plC' {nm : List Nat} {ci : Nat} {c : List Int} {x : Pl} (h : x ∈ plC nm ci c) : x.nm = nm ∧ x.c = 1 + (ci : Int) := by
  unfold plC at h
  obtain ⟨y, hy, h⟩ := List.mem_flatMap.mp h
  have := mem_plV' h
  exact ⟨this.1, this.2.1⟩
theorem mem_plB' {b : List Nat × List (List Int)} {x : Pl} (h : x ∈ plB b) : x.nm = b.1 := by
  unfold plB at h
  obtain ⟨y, hy, h⟩ := List.mem_flatMap.mp h
  exact (mem_plC' h).1
theorem plC_nodup (nm : List Nat) (ci : Nat) (c : List Int) : (plC nm ci c).Nodup := by
  unfold plC
  refine List.pairwise_flatMap.mpr ⟨fun y _ => plV_nodup _ _ _ _, (zi_pair c 0).imp fun {a b} ne => ?_⟩
  intro x hx y hy e
  have h1 := (mem_plV' hx).2.2
  have h2 := (mem_plV' hy).2.2
  rw [e] at h1
  exact ne (by omega)
theorem plB_nodup (b : List Nat × List (List Int)) : (plB b).Nodup := by
  unfold plB
  refine List.pairwise_flatMap.mpr ⟨fun y _ => plC_nodup _ _ _, (zi_pair b.2 0).imp fun {a b} ne => ?_⟩
  intro x hx y hy e
  have h1 := (mem_plC' hx).2
  have h2 := (mem_plC' hy).2
  rw [e] at h1
  exact ne (by omega)
theorem plOf_nodup {B : Bks} (h : (B.map (·.1)).Nodup) : (plOf B).Nodup := by
  unfold plOf
  refine List.pairwise_flatMap.mpr ⟨fun y _ => plB_nodup _, (List.pairwise_map.mp h).imp fun {a b} ne => ?_⟩
  intro x hx y hy e
  rw [e] at hx
  exact ne ((mem_plB' hx).symm.trans (mem_plB' hy))
theorem plK_inj {x y : Pl} (h : plK x = plK y) : x = y := by
  have h1 := (List.cons.inj h).1
  have h2 := (List.cons.inj (List.cons.inj h).2).1
  have h3 := (List.cons.inj (List.cons.inj (List.cons.inj h).2).2).1
  have h4 := (List.cons.inj (List.cons.inj (List.cons.inj (List.cons.inj h).2).2).2).1
  have e1 : x.nm = y.nm := SX.S_inj (Sum.inr.inj h1)
  have e2 : x.c = y.c := Sum.inl.inj h2
  have e3 : x.v = y.v := Sum.inl.inj h3
  have e4 : x.p = y.p := Sum.inl.inj h4
  cases x
  cases y
  simp only at e1 e2 e3 e4
  subst e1 e2 e3 e4
  rfl
theorem insK_all {P : List Pl} (nd : P.Nodup) {i : Nat} {x : Pl} (h : P[i]? = some x) : insK P ((plK x).take 4) = [(i : Int)] := by
  have hi : i < P.length := (List.getElem?_eq_some_iff.mp h).1
  have t4 : ∀ y : Pl, (plK y).take 4 = plK y := fun y => rfl
  have key : ∀ n, n ≤ P.length → insK (P.take n) ((plK x).take 4) = if i < n then [(i : Int)] else [] := by
    intro n
    induction n with
    | zero => intro _; rfl
    | succ n ih =>
      intro hn
      have hx : P[n]? = some P[n] := List.getElem?_eq_getElem (by omega)
      rw [insK_succ hx, ih (by omega)]
      have el : ((plK x).take 4).length = 4 := rfl
      rw [el, t4, t4]
      by_cases e : n = i
      · subst e
        rw [h] at hx
        have hx := Option.some.inj hx
        rw [← hx, if_pos rfl, if_neg (by omega), if_pos (by omega)]
        rfl
      · have ne : ¬ plK P[n] = plK x := fun z => by
          have z := plK_inj z
          rw [z, ← h] at hx
          exact e ((List.getElem?_inj (by omega) nd).mp hx)
        rw [if_neg ne]
        by_cases q : i < n
        · rw [if_pos q, if_pos (by omega)]
        · rw [if_neg q, if_neg (by omega)]
  have := key P.length (Nat.le_refl _)
  rwa [List.take_length, if_pos hi] at this
theorem insK_mem {P : List Pl} {i : Nat} {x : Pl} (h : P[i]? = some x) {m : Nat} (hm : m < 4) : (i : Int) ∈ insK P ((plK x).take (m + 1)) := by
  unfold insK
  have el : ((plK x).take (m + 1)).length = m + 1 := by
    rw [List.length_take, plK_len]
    omega
  refine List.mem_map.mpr ⟨(x, i), List.mem_filter.mpr ⟨List.mem_zipIdx_iff_getElem?.mpr h, ?_⟩, rfl⟩
  rw [el]
  exact decide_eq_true rfl
end My
set_option Elab.async false
set_option linter.all false
set_option maxRecDepth 100000
set_option maxHeartbeats 4000000
namespace My
open PySem PySem.Spec PyProof.Rows L2
def sp_size0 : Sp := fun vs H Q _ => ∃ (S0 : Av) (a : Addr) (Sh : List (List (List Int))), vs = [.ref a] ∧ At S0 H (.ref a) (shD Sh) ∧ okSh Sh ∧ ∀ H', Same H H' → Q (.int (Sh.map fun b => (b.map List.sum).sum).sum) H'
theorem At.row {S : Av} {H : Hp} {v : V} {c : List Int} (h : At S H v (rowD c)) : ∃ a, v = .ref a ∧ ¬ S a ∧ H a = some (.lst (c.map V.int)) := by
  cases h with
  | lst n e k => exact ⟨_, rfl, n, by rw [e, AtAll.ints_inv _ _ k]⟩
theorem At.book {S : Av} {H : Hp} {v : V} {b : List (List Int)} (h : At S H v (bookD b)) : ∃ a xs, v = .ref a ∧ ¬ S a ∧ H a = some (.lst xs) ∧ AtAll S H xs (b.map rowD) := by
  cases h with
  | lst n e k => exact ⟨_, _, rfl, n, e, k⟩
section
variable {P : Program} {w : World} {K : PySem.W.Frag} {mg : Str → Option Value} {base : Heap}
end
theorem hu80 {k : Nat} {A : Around} (r : Room k A) : A.units + 80 < cLine := by
  have := r.un
  omega
def lns (L : List Int) : Prop := ∀ z ∈ L, 0 ≤ z ∧ z < 10000
theorem short_int {z : Int} (h0 : 0 ≤ z) (h1 : z < 10000) : (PyData.shown (.int z)).length ≤ 13 := Nat.le_trans (toString_length_le h0 (k := 10) (by decide) (by omega)) (by decide)
theorem shown_ints {L : List Int} (h : lns L) (hl : L.length ≤ 1000) : (PyData.shown (.list (L.map PyData.int))).length ≤ sizeLine := by
  refine PyData.shown_fits_bulk (B := 13) (by decide) (by decide) ?_ ?_
  · show PyData.leavesShortAll 13 (L.map PyData.int) = true
    clear hl
    induction L with
    | nil => rfl
    | cons z r ih =>
      show (decide ((PyData.shown (.int z)).length ≤ 13) && PyData.leavesShortAll 13 (r.map PyData.int)) = true
      have hz := h z (List.mem_cons_self ..)
      rw [decide_eq_true (short_int hz.1 hz.2), Bool.true_and]
      exact ih fun x hx => h x (List.mem_cons_of_mem _ hx)
  · have e : ∀ r : List Int, PyData.bulkAll (r.map PyData.int) = r.length := fun r => by
      induction r with
      | nil => rfl
      | cons z r ih =>
        show 0 + 1 + PyData.bulkAll (r.map PyData.int) = _
        rw [ih, List.length_cons]
        omega
    show PyData.bulkAll (L.map PyData.int) ≤ 2 ^ 20
    rw [e]
    omega
theorem able_ints : ∀ {L : List Int}, lns L → PyData.showableAll (L.map PyData.int) = true
  | [], _ => rfl
  | z :: r, h => by
    show (decide (z.natAbs.log2 < 1920) && PyData.showableAll (r.map PyData.int)) = true
    have hz := h z (List.mem_cons_self ..)
    have : z.natAbs.log2 < 1920 := by
      by_cases e : z.natAbs = 0
      · rw [e]
        decide
      · rw [Nat.log2_lt e]
        exact Nat.lt_of_lt_of_le (show z.natAbs < 2 ^ 14 by omega) (Nat.pow_le_pow_right (by decide) (by decide))
    rw [decide_eq_true this, Bool.true_and]
    exact able_ints fun x hx => h x (List.mem_cons_of_mem _ hx)
theorem nod_ints : ∀ L : List Int, PyData.hasDict (.list (L.map PyData.int)) = false := fun L => by
  show PyData.hasDictAll (L.map PyData.int) = false
  induction L with
  | nil => rfl
  | cons z r ih => exact ih
theorem dep_ints (L : List Int) : PyData.depth (.list (L.map PyData.int)) ≤ 64 := by
  have := dep_map PyData.int 0 L fun x _ => Nat.le_refl _
  show PyData.depthAll _ + 1 ≤ 64
  omega
def shV : V → Str
  | .int i => toString i
  | _ => "None"
theorem call_repr_ni {X : Cx} : CallR X (.builtin "repr") (fun xs H Q => ∃ x, xs = [x] ∧ (x = .non ∨ ∃ i : Int, x = .int i ∧ i.natAbs.log2 < 1920) ∧ Q (.str (shV x)) H) := by
  intro pins s σ H xs us Q I r h
  obtain ⟨x, rfl, h, q⟩ := h
  rcases h with rfl | ⟨i, rfl, hz⟩
  · exact call_repr_none pins s σ H _ us Q I r ⟨rfl, q⟩
  · obtain ⟨u, rfl, t, rfl⟩ := vals1 r
    exact PySem.P.repr_of_int hz ⟨.str _, H, I.tok _, ⟨_, rfl⟩, q⟩
section
variable {P : Program} {w : World} {K : PySem.W.Frag} {mg : Str → Option Value} {base : Heap}
theorem plC_sum (nm : List Nat) (ci : Nat) : ∀ (c : List Int) (k : Nat), (∀ m ∈ c, 0 ≤ m) → ((((c.zipIdx k).flatMap fun x => plV nm ci x.2 x.1).length : Nat) : Int) = c.sum
  | [], _, _ => rfl
  | m :: r, k, h => by
    have h1 := plC_sum nm ci r (k + 1) fun x hx => h x (List.mem_cons_of_mem _ hx)
    have h2 := h m (List.mem_cons_self ..)
    rw [List.zipIdx_cons, List.flatMap_cons, List.length_append, plV_len, List.sum_cons]
    omega
theorem plB_sum (nm : List Nat) : ∀ (C : List (List Int)) (k : Nat), (∀ c ∈ C, ∀ m ∈ c, 0 ≤ m) → ((((C.zipIdx k).flatMap fun x => plC nm x.2 x.1).length : Nat) : Int) = (C.map List.sum).sum
  | [], _, _ => rfl
  | c :: r, k, h => by
    have h1 := plB_sum nm r (k + 1) fun x hx => h x (List.mem_cons_of_mem _ hx)
    have h2 := plC_sum nm k c 0 (h c (List.mem_cons_self ..))
    rw [List.zipIdx_cons, List.flatMap_cons, List.length_append, List.map_cons, List.sum_cons]
    show ((((c.zipIdx 0).flatMap fun x => plV nm k x.2 x.1).length + _ : Nat) : Int) = _
    omega
theorem plOf_sum : ∀ B : Bks, (∀ b ∈ B, ∀ c ∈ b.2, ∀ m ∈ c, 0 ≤ m) → (((plOf B).length : Nat) : Int) = (B.map fun b => (b.2.map List.sum).sum).sum
  | [], _ => rfl
  | b :: r, h => by
    have h1 := plOf_sum r fun x hx => h x (List.mem_cons_of_mem _ hx)
    have h2 := plB_sum b.1 b.2 0 (h b (List.mem_cons_self ..))
    unfold plOf at h1 ⊢
    rw [List.flatMap_cons, List.length_append, List.map_cons, List.sum_cons]
    show ((((b.2.zipIdx 0).flatMap fun x => plC b.1 x.2 x.1).length + _ : Nat) : Int) = _
    omega
theorem okBks_of {nms : List (List Nat)} {Sh : List (List (List Int))} (hN : okNames nms) (hS : okSh Sh) (hl : nms.length = Sh.length) : okBks (nms.zip Sh) := by
  have e1 : (nms.zip Sh).map (·.1) = nms := List.map_fst_zip (by omega)
  have e2 : (nms.zip Sh).map (·.2) = Sh := List.map_snd_zip (by omega)
  have lz : (nms.zip Sh).length = Sh.length := by rw [List.length_zip]; omega
  refine ⟨?_, ?_, ?_, ?_, ?_, ?_, ?_⟩
  · rw [lz]
    exact hS.s0
  · rw [lz]
    exact hS.s1
  · rw [e1]
    exact hN.nd
  · exact fun b hb => hN.ok _ (List.of_mem_zip hb).1
  · exact fun b hb => hS.b _ (List.of_mem_zip hb).2
  · have : (nms.zip Sh).map (fun b => b.2.length) = Sh.map List.length := by
      rw [← e2, List.map_map, e2]
      rfl
    rw [this]
    exact hS.chs
  · have : (nms.zip Sh).map (fun b => (b.2.map List.sum).sum) = Sh.map fun b => (b.map List.sum).sum := by
      rw [← e2, List.map_map, e2]
      rfl
    rw [this]
    exact hS.prs
theorem zip_sum {nms : List (List Nat)} {Sh : List (List (List Int))} (hS : okSh Sh) (hl : nms.length = Sh.length) : (((plOf (nms.zip Sh)).length : Nat) : Int) = (Sh.map fun b => (b.map List.sum).sum).sum := by
  have e2 : (nms.zip Sh).map (·.2) = Sh := List.map_snd_zip (by omega)
  rw [plOf_sum]
  · have : (nms.zip Sh).map (fun b => (b.2.map List.sum).sum) = Sh.map fun b => (b.map List.sum).sum := by
      rw [← e2, List.map_map, e2]
      rfl
    rw [this]
  · intro b hb c hc m hm
    have := ((hS.b _ (List.of_mem_zip hb).2).2.2 c hc).x m hm
    omega
/-- lines handed in, as data -/
def optD : Option (List (Int × Int)) → PyData
  | none => .none
  | some ps => .list (ps.map prD)
theorem optD_in {S : Av} {H : Hp} {v : V} {o : Option (List (Int × Int))} (h : At S H v (optD o)) : LnIn H v o := by
  cases o with
  | none =>
    cases h
    rfl
  | some ps =>
    cases h with
    | lst n e k =>
      refine ⟨_, _, rfl, .inl e, by rw [k.len, List.length_map], fun i x s h1 h2 => ?_⟩
      obtain ⟨s', h3, h4⟩ := k.at_ h1
      rw [h2] at h3
      cases h3
      obtain ⟨t, e1, _, e2⟩ := h4.pair
      exact ⟨t, e1, e2⟩
theorem chs_in {S : Av} {H : Hp} {v : V} {b : List (List Int)} (h : At S H v (bookD b)) : ∃ c xs, v = .ref c ∧ Rw H c xs ∧ ChsIn S H xs b := by
  obtain ⟨c, xs, e, n, h1, k⟩ := h.book
  refine ⟨c, xs, e, .inl h1, by rw [k.len, List.length_map], fun i x c' h2 h3 => ?_⟩
  obtain ⟨c2, h4, h5⟩ := k.at_ h2
  rw [h3] at h4
  cases h4
  obtain ⟨a, e1, n1, e2⟩ := h5.row
  exact ⟨a, e1, n1, .inl e2⟩
theorem lnP_nodup (s : Int × Int) : (lnP s).Nodup := by
  unfold lnP
  refine List.pairwise_map.mpr (List.Pairwise.imp ?_ (List.nodup_range (n := s.2.toNat)))
  intro a b h e
  exact h (by omega)
theorem lns_ok {o : Option (List (Int × Int))} {n : Int} (h : okLn o n) : (lnsD o n).Nodup ∧ ((lnsD o n).length : Int) = n ∧ lns (lnsD o n) := by
  obtain ⟨n0, n1, h⟩ := h
  cases o with
  | none =>
    refine ⟨lnP_nodup _, ?_, fun z hz => ?_⟩
    · show ((lnP (0, n)).length : Int) = n
      rw [lnP_len]
      show (n.toNat : Int) = n
      omega
    · have := mem_lnP (s := (0, n)) hz
      have h1 : (0 : Int) ≤ z := this.1
      have h2 : z < 0 + n := this.2
      omega
  | some ps =>
    have h : okPairs ps n := h
    refine ⟨?_, (lnOf_len ps fun s hs => (h.x s hs).2.1).trans h.sum, fun z hz => ?_⟩
    · show (ps.flatMap lnP).Nodup
      refine List.pairwise_flatMap.mpr ⟨fun s _ => lnP_nodup s, h.ap.imp fun {s t} ap => ?_⟩
      intro x hs y ht e
      have a := mem_lnP hs
      have b := mem_lnP ht
      rcases ap with ap | ap <;> omega
    · obtain ⟨s, hs, hz⟩ := List.mem_flatMap.mp hz
      have a := mem_lnP hz
      have b := h.x s hs
      omega
theorem LcA.occ1 {p : Addr} {n : Nat} {H H' : Hp} {D : Addr} {xs : List V} {ds : List PyData} (c : LcA (O1 p) p n H D xs ds H') : Occ (Plus (O1 p) D) H' := fun b z e => z.elim (fun q => by
  obtain ⟨i, j, k, e2, _⟩ := c.l.dr.box
  rw [q, e2] at e
  cases e) fun q => by
  rw [q, c.l.at_] at e
  cases e
theorem BksIn.plusN {S : Av} {H : Hp} {v : V} {B : Bks} {D : Addr} (h : BksIn S H v B) (g : H D = none) : BksIn (Plus S D) H v B := by
  obtain ⟨a, xs, e, r, l, k⟩ := h
  exact ⟨a, xs, e, r, l, fun i y b h1 h2 => (k i y b h1 h2).plusN g⟩
theorem occ1 {p : Addr} {n : Nat} {H : Hp} (h : Box n H p) : Occ (O1 p) H := fun b q e => by
  obtain ⟨i, j, k, e2, _⟩ := h
  rw [q, e2] at e
  cases e
/-- books handed in last where only the box changes -/
theorem BksIn.btp {p : Addr} {n : Nat} {H H' : Hp} {v : V} {B : Bks} (h : BksIn (O1 p) H v B) (ok : okBks B) (b : Bt p H H') (bx : Box n H p) : BksIn (O1 p) H' v B := by
  obtain ⟨i0, j0, k0, eb, _⟩ := bx
  obtain ⟨a, xs, e, r, l, k⟩ := h
  obtain ⟨b0, B0⟩ : ∃ b0, B[0]? = some b0 := ⟨_, List.getElem?_eq_getElem (show 0 < B.length from ok.l0)⟩
  have rowp : ∀ {a : Addr} {xs : List V}, Rw H a xs → (∀ x, xs[0]? = some x → ∃ q, x = .ref q) → 0 < xs.length → Rw H' a xs := by
    intro a xs r hx hl
    have na : a ≠ p := fun q => by
      obtain ⟨y, hy⟩ : ∃ y, xs[0]? = some y := ⟨_, List.getElem?_eq_getElem hl⟩
      obtain ⟨q', e'⟩ := hx y hy
      rcases r with r | r
      · rw [q, eb] at r
        cases r
        cases hy
        cases e'
      · rw [q, eb] at r
        cases r
    exact r.elim (fun r => .inl (b _ _ na r)) fun r => .inr (b _ _ na r)
  refine ⟨a, xs, e, rowp r (fun x hx => ?_) (by have := ok.l0; omega), l, fun i x bb h1 h2 => ?_⟩
  · obtain ⟨a2, _, _, e2, _⟩ := k 0 x _ hx B0
    exact ⟨a2, e2⟩
  · obtain ⟨a2, c2, ys, e2, f2, r2, l2, k2⟩ := k i x bb h1 h2
    have okc := ok.ch bb (List.mem_of_getElem? h2)
    refine ⟨a2, c2, ys, e2, b _ _ (fun q => by rw [q, eb] at f2; cases f2) f2, rowp r2 (fun y hy => ?_) (by omega), l2, fun j y c h3 h4 => ?_⟩
    · obtain ⟨a3, e3, _⟩ := k2 0 y _ hy (List.getElem?_eq_getElem (by omega))
      exact ⟨a3, e3⟩
    · obtain ⟨a3, e3, n3, r3⟩ := k2 j y c h3 h4
      exact ⟨a3, e3, n3, r3.elim (fun r => .inl (b _ _ n3 r)) fun r => .inr (b _ _ n3 r)⟩
theorem size_pos {B : Bks} (h : okBks B) : 1 ≤ (plOf B).length := by
  have e := plOf_sum B fun b hb c hc m hm => by
    have := (((h.ch b hb).2.2 c hc).x m hm).1
    omega
  have h1 := len_sum (B.map fun b => (b.2.map List.sum).sum) fun x hx => by
    obtain ⟨b, hb, rfl⟩ := List.mem_map.mp hx
    have h2 := len_sum (b.2.map List.sum) fun y hy => by
      obtain ⟨c, hc, rfl⟩ := List.mem_map.mp hy
      have okc := (h.ch b hb).2.2 c hc
      have h3 := len_sum c fun m hm => (okc.x m hm).1
      have := okc.l0
      omega
    have := (h.ch b hb).1
    rw [List.length_map] at h2
    omega
  have := h.l0
  rw [List.length_map] at h1
  omega
theorem EdAt.weak {S S' : Av} {H : Hp} {C e : Addr} {B : Bks} {L : List Int} (h : EdAt S H C e B L) (W : ∀ b, S' b → S b) : EdAt S' H C e B L := by
  obtain ⟨w, h⟩ := h
  exact ⟨w, { h with n0 := fun z => h.n0 (W _ z), n2 := fun z => h.n2 (W _ z), n3 := fun z => h.n3 (W _ z), n4 := fun z => h.n4 (W _ z), n5 := fun z => h.n5 (W _ z), n6 := fun z => h.n6 (W _ z), h1 := At.weak W _ _ h.h1, c2 := ⟨h.c2.k, AtAll.weak W _ _ h.c2.v⟩, c3 := AtAll.weak W _ _ h.c3, c4 := h.c4.weak W, h7 := At.weak W _ _ h.h7 }⟩
theorem eqv_intsL : ∀ L M : List Int, PyData.eqvAll (L.map PyData.int) (M.map PyData.int) = decide (L = M)
  | [], [] => rfl
  | [], _ :: _ => rfl
  | _ :: _, [] => rfl
  | a :: r, b :: t => by
    show ((a == b) && PyData.eqvAll (r.map PyData.int) (t.map PyData.int)) = _
    rw [eqv_intsL r t]
    by_cases e : a = b
    · subst e
      rw [beq_self_eq_true, Bool.true_and]
      exact decide_eq_decide.mpr ⟨fun h => by rw [h], fun h => (List.cons.inj h).2⟩
    · rw [beq_false_of_ne e, Bool.false_and]
      exact (decide_eq_false fun h => e (List.cons.inj h).1).symm
end
end My
set_option Elab.async false
set_option linter.all false
set_option maxRecDepth 100000
set_option maxHeartbeats 4000000
namespace My
open PySem PySem.Spec PyProof.Rows L2
theorem DictF.plusN {S : Av} {H : Hp} {kvs : List (List Key × V)} {f : StF} {D : Addr} (h : DictF S H kvs f) (g : H D = none) : DictF (Plus S D) H kvs f := fun k => by
  have := h k
  cases e : f k with
  | none =>
    rw [e] at this
    exact this
  | some s =>
    rw [e] at this
    obtain ⟨v, h1, h2⟩ := this
    exact ⟨v, h1, h2.plusN g⟩
theorem EdAt.plusN {S : Av} {H : Hp} {C e : Addr} {B : Bks} {L : List Int} {D : Addr} (h : EdAt S H C e B L) (g : H D = none) : EdAt (Plus S D) H C e B L := by
  obtain ⟨w, h⟩ := h
  have ne : ∀ {a : Addr} {o : HO}, H a = some o → ¬ S a → ¬ Plus S D a := fun e n z => z.elim n fun q => by
    rw [q, g] at e
    cases e
  exact ⟨w, { h with n0 := ne h.at_ h.n0, n2 := ne h.h2 h.n2, n3 := ne h.h3 h.n3, n4 := ne h.h4 h.n4, n5 := ne h.h5 h.n5, n6 := ne h.h6 h.n6, h1 := h.h1.plusN g, c2 := ⟨h.c2.k, h.c2.v.plusN g⟩, c3 := h.c3.plusN g, c4 := h.c4.plusN g, h7 := h.h7.plusN g }⟩
/-- an edition and its parts, as the law keeps them -/
def EnE (C : Addr) (S : Av) (H : Hp) (t : Addr) : Prop := ∃ e l B L rows, ¬ S t ∧ H t = some (.tup [.ref e, .ref l]) ∧ EdAt S H C e B L ∧ okBks B ∧ ¬ S l ∧ H l = some (.lst rows) ∧ AtAll S H rows ((plOf B).map plD) ∧ (plOf B).length ≤ 400
theorem EnE.bt {C : Addr} {S : Av} {H H' : Hp} {t : Addr} (h : EnE C S H t) (b : BtS S H H') : EnE C S H' t := by
  obtain ⟨e, l, B, L, rows, n, et, ed, ok, nl, el, a, l4⟩ := h
  exact ⟨e, l, B, L, rows, n, b _ _ n et, ed.bt b, ok, nl, b _ _ nl el, AtAll.bt b _ _ a, l4⟩
theorem EnE.plusN {C : Addr} {S : Av} {H : Hp} {t D : Addr} (h : EnE C S H t) (g : H D = none) : EnE C (Plus S D) H t := by
  obtain ⟨e, l, B, L, rows, n, et, ed, ok, nl, el, a, l4⟩ := h
  have ne : ∀ {a : Addr} {o : HO}, H a = some o → ¬ S a → ¬ Plus S D a := fun e n z => z.elim n fun q => by
    rw [q, g] at e
    cases e
  exact ⟨e, l, B, L, rows, ne et n, et, ed.plusN g, ok, ne el nl, el, a.plusN g, l4⟩
theorem EnE.weak {C : Addr} {S S' : Av} {H : Hp} {t : Addr} (h : EnE C S H t) (W : ∀ b, S' b → S b) : EnE C S' H t := by
  obtain ⟨e, l, B, L, rows, n, et, ed, ok, nl, el, a, l4⟩ := h
  exact ⟨e, l, B, L, rows, fun z => n (W _ z), et, ed.weak W, ok, fun z => nl (W _ z), el, AtAll.weak W _ _ a, l4⟩
/-- a book handed in, made anew -/
def BkX (S : Av) (H : Hp) (x : V) (b : List Nat × List (List Int)) : Prop := ∃ a c xs, x = .ref a ∧ ¬ S a ∧ H a = some (.tup [.str (SX.S b.1), .ref c]) ∧ ¬ S c ∧ H c = some (.lst xs) ∧ xs.length = b.2.length ∧
  ∀ (i : Nat) (y : V) (cc : List Int), xs[i]? = some y → b.2[i]? = some cc → ∃ a', y = .ref a' ∧ ¬ S a' ∧ H a' = some (.tup (cc.map V.int))
theorem BkX.bt {S : Av} {H H' : Hp} {x : V} {b : List Nat × List (List Int)} (h : BkX S H x b) (k : BtS S H H') : BkX S H' x b := by
  obtain ⟨a, c, xs, e, na, ea, nc, ec, l, f⟩ := h
  refine ⟨a, c, xs, e, na, k _ _ na ea, nc, k _ _ nc ec, l, fun i y cc h1 h2 => ?_⟩
  obtain ⟨a', e', n', h'⟩ := f i y cc h1 h2
  exact ⟨a', e', n', k _ _ n' h'⟩
theorem BkX.in_ {S S' : Av} {H : Hp} {x : V} {b : List Nat × List (List Int)} (h : BkX S H x b) (W : ∀ b, S' b → S b) : BkIn S' H x b.1 b.2 := by
  obtain ⟨a, c, xs, e, na, ea, nc, ec, l, f⟩ := h
  refine ⟨a, c, xs, e, ea, .inl ec, l, fun i y cc h1 h2 => ?_⟩
  obtain ⟨a', e', n', h'⟩ := f i y cc h1 h2
  exact ⟨a', e', fun z => n' (W _ z), .inr h'⟩
section
variable {P : Program} {w : World} {K : PySem.W.Frag} {mg : Str → Option Value} {base : Heap}
theorem Cl.imp {k : Nat} {x : Str} {ps : List Str} {sp sp' : Sp} (c : Cl P w K mg base k x ps sp) (h : ∀ vs H Q E, sp' vs H Q E → sp vs H Q E) : Cl P w K mg base k x ps sp' := by
  obtain ⟨f, fd, F, r⟩ := c
  exact ⟨f, fd, F.imp h, r⟩
theorem mem_cutV {xs : List V} {lo hi : Option Int} {x : V} (h : x ∈ cutV xs lo hi) : x ∈ xs := List.mem_of_mem_drop (List.mem_of_mem_take h)
end
end My
set_option Elab.async false
set_option linter.all false
set_option maxRecDepth 100000
set_option maxHeartbeats 4000000
namespace My
open PySem PySem.Spec PyProof.Rows L2
/-! P1: the numbers of stretches, the runs of numbers. -/
/-- L: the numbers of the stretches ps, rising -/
structure IsNums (ps : List (Int × Int)) (L : List Int) : Prop where
  pw : L.Pairwise (· < ·)
  mem : ∀ z, z ∈ L ↔ ∃ s ∈ ps, s.1 ≤ z ∧ z ≤ s.2
theorem rise_len : ∀ (L : List Int) (lo hi : Int), L.Pairwise (· < ·) → (∀ z ∈ L, lo ≤ z ∧ z < hi) → (L.length : Int) ≤ max 0 (hi - lo)
  | [], lo, hi, _, _ => by simp; omega
  | z :: r, lo, hi, h, k => by
    obtain ⟨h1, h2⟩ := List.pairwise_cons.mp h
    have kz := k z (List.mem_cons_self ..)
    have := rise_len r (z + 1) hi h2 fun y hy => by
      have a := h1 y hy
      have b := (k y (List.mem_cons_of_mem _ hy)).2
      omega
    rw [List.length_cons]
    omega
theorem rise_ext : ∀ {L M : List Int}, L.Pairwise (· < ·) → M.Pairwise (· < ·) → (∀ z, z ∈ L ↔ z ∈ M) → L = M
  | [], [], _, _, _ => rfl
  | [], y :: m, _, _, h => absurd ((h y).mpr (List.mem_cons_self ..)) (by simp)
  | x :: l, [], _, _, h => absurd ((h x).mp (List.mem_cons_self ..)) (by simp)
  | x :: l, y :: m, hl, hm, h => by
    obtain ⟨l1, l2⟩ := List.pairwise_cons.mp hl
    obtain ⟨m1, m2⟩ := List.pairwise_cons.mp hm
    have e : x = y := by
      rcases List.mem_cons.mp ((h x).mp (List.mem_cons_self ..)) with e | e
      · exact e
      · rcases List.mem_cons.mp ((h y).mpr (List.mem_cons_self ..)) with q | q
        · exact q.symm
        · have a := m1 x e
          have b := l1 y q
          omega
    subst e
    rw [rise_ext l2 m2 fun z => ?_]
    have hz := h z
    rw [List.mem_cons, List.mem_cons] at hz
    refine ⟨fun k => (hz.mp (.inr k)).resolve_left fun q => ?_, fun k => (hz.mpr (.inr k)).resolve_left fun q => ?_⟩
    · have := l1 z k
      omega
    · have := m1 z k
      omega
theorem IsNums.uniq {ps qs : List (Int × Int)} {L M : List Int} (h : IsNums ps L) (k : IsNums qs M) (e : ∀ s, s ∈ ps ↔ s ∈ qs) : L = M := rise_ext h.pw k.pw fun z => by
  rw [h.mem, k.mem]
  exact ⟨fun ⟨s, a, b⟩ => ⟨s, (e s).mp a, b⟩, fun ⟨s, a, b⟩ => ⟨s, (e s).mpr a, b⟩⟩
theorem IsNums.nil : IsNums [] [] := ⟨.nil, fun z => by simp⟩
theorem IsNums.len {ps : List (Int × Int)} {L : List Int} (h : IsNums ps L) (k : ∀ s ∈ ps, 0 ≤ s.1 ∧ s.2 < 1000) : L.length ≤ 1000 := by
  have := rise_len L 0 1000 h.pw fun z hz => by
    obtain ⟨s, a, b⟩ := (h.mem z).mp hz
    have := k s a
    omega
  omega
/-- the number behind the last one -/
def unf (L : List Int) : Int := match L.getLast? with | none => 0 | some z => z + 1
theorem unf_nil : unf [] = 0 := rfl
theorem unf_snoc (L : List Int) (z : Int) : unf (L ++ [z]) = z + 1 := by
  unfold unf
  rw [List.getLast?_concat]
theorem lnP_pw (s : Int × Int) : (lnP s).Pairwise (· < ·) := by
  unfold lnP
  rw [List.pairwise_map]
  exact List.pairwise_lt_range.imp fun h => by omega
theorem lnP_mem {s : Int × Int} {z : Int} : z ∈ lnP s ↔ s.1 ≤ z ∧ z < s.1 + s.2 := by
  refine ⟨mem_lnP, fun ⟨h0, h1⟩ => ?_⟩
  unfold lnP
  exact List.mem_map.mpr ⟨(z - s.1).toNat, List.mem_range.mpr (by omega), by omega⟩
theorem pw_last {L : List Int} {m : Int} (h : (L ++ [m]).Pairwise (· < ·)) : ∀ z ∈ L ++ [m], z ≤ m := fun z hz => by
  rcases List.mem_append.mp hz with q | q
  · have := (List.pairwise_append.mp h).2.2 z q m (List.mem_singleton.mpr rfl)
    omega
  · have := List.mem_singleton.mp q
    omega
theorem IsNums.step {ps : List (Int × Int)} {L : List Int} {s : Int × Int} (h : IsNums ps L) (k : ∀ t ∈ ps, t.1 ≤ s.1) (h0 : 0 ≤ s.1) : IsNums (ps ++ [s]) (L ++ lnP (max s.1 (unf L), s.2 + 1 - max s.1 (unf L))) := by
  rcases List.eq_nil_or_concat L with rfl | ⟨M, m, e⟩
  · rw [unf_nil, List.nil_append]
    refine ⟨lnP_pw _, fun z => ?_⟩
    rw [lnP_mem]
    have hz := h.mem z
    constructor
    · intro q
      exact ⟨s, by simp, by dsimp only at q; omega⟩
    · rintro ⟨t, ht, q⟩
      rcases List.mem_append.mp ht with ht | ht
      · exact absurd (hz.mpr ⟨t, ht, q⟩) (by simp)
      · cases List.mem_singleton.mp ht
        dsimp only
        omega
  · rw [List.concat_eq_append] at e
    subst e
    rw [unf_snoc]
    refine ⟨List.pairwise_append.mpr ⟨h.pw, lnP_pw _, fun a ha b hb => ?_⟩, fun z => ?_⟩
    · have := pw_last h.pw a ha
      have := mem_lnP hb
      dsimp only at this
      omega
    · rw [List.mem_append, lnP_mem]
      have hz := h.mem z
      constructor
      · rintro (q | q)
        · obtain ⟨t, ht, q⟩ := hz.mp q
          exact ⟨t, List.mem_append_left _ ht, q⟩
        · exact ⟨s, by simp, by dsimp only at q; omega⟩
      · rintro ⟨t, ht, q⟩
        rcases List.mem_append.mp ht with ht | ht
        · exact .inl (hz.mpr ⟨t, ht, q⟩)
        · cases List.mem_singleton.mp ht
          by_cases hm : z ≤ m
          · obtain ⟨t, ht, q2⟩ := (h.mem m).mp (by simp)
            have := k t ht
            exact .inl (hz.mpr ⟨t, ht, by omega⟩)
          · refine .inr ?_
            dsimp only
            omega
/-- pairs at hand: the items xs stand for ps -/
def PrsAt (H : Hp) (xs : List V) (ps : List (Int × Int)) : Prop := xs.length = ps.length ∧ ∀ (i : Nat) (x : V) (s : Int × Int), xs[i]? = some x → ps[i]? = some s → ∃ t, x = .ref t ∧ H t = some (.tup [.int s.1, .int s.2])
theorem PrsAt.same {H H' : Hp} {xs : List V} {ps : List (Int × Int)} (h : PrsAt H xs ps) (z : Same H H') : PrsAt H' xs ps := ⟨h.1, fun i x s a b => let ⟨t, e, f⟩ := h.2 i x s a b; ⟨t, e, z _ _ f⟩⟩
/-- the pair that stands at v -/
def pairAt (H : Hp) : V → Int × Int
  | .ref t => match H t with
    | some (.tup [.int i, .int j]) => (i, j)
    | _ => (0, 0)
  | _ => (0, 0)
theorem pairAt_eq {H : Hp} {t : Addr} {i j : Int} (h : H t = some (.tup [.int i, .int j])) : pairAt H (.ref t) = (i, j) := by
  show (match H t with | some (.tup [.int i, .int j]) => (i, j) | _ => (0, 0)) = _
  rw [h]
theorem PrsAt.map {H : Hp} {xs : List V} {ps : List (Int × Int)} (h : PrsAt H xs ps) : xs.map (pairAt H) = ps := by
  refine List.ext_getElem (by rw [List.length_map, h.1]) fun i h1 h2 => ?_
  rw [List.length_map] at h1
  obtain ⟨t, e, f⟩ := h.2 i xs[i] ps[i] (List.getElem?_eq_getElem h1) (List.getElem?_eq_getElem h2)
  rw [List.getElem_map, e, pairAt_eq f]
def sp_numsIn (K : PySem.W.Frag) : Sp := fun vs H Q _ => ∃ (l : Addr) (xs : List V) (ps : List (Int × Int)), vs = [.ref l] ∧ SqL K H l xs ∧ PrsAt H xs ps ∧ (∀ s ∈ ps, 0 ≤ s.1 ∧ s.1 ≤ s.2 ∧ s.2 < 1000) ∧ ∀ k L H', Same H H' → H k = none → H' k = some (.lst (L.map V.int)) → IsNums ps L → Q (.ref k) H'
/-- the runs so far with one number more -/
def rnStep (ps : List (Int × Int)) (z : Int) : List (Int × Int) := match ps.getLast? with
  | none => [(z, z)]
  | some s => if z = s.2 + 1 then ps.dropLast ++ [(s.1, z)] else ps ++ [(z, z)]
def runsD (L : List Int) : List (Int × Int) := L.foldl rnStep []
theorem rn_nil (z : Int) : rnStep [] z = [(z, z)] := rfl
theorem rn_snoc (ps : List (Int × Int)) (s : Int × Int) (z : Int) : rnStep (ps ++ [s]) z = if z = s.2 + 1 then ps ++ [(s.1, z)] else ps ++ [s] ++ [(z, z)] := by
  unfold rnStep
  rw [List.getLast?_concat, List.dropLast_concat]
theorem runsD_succ {L : List Int} {i : Nat} {z : Int} (h : L[i]? = some z) : runsD (L.take (i + 1)) = rnStep (runsD (L.take i)) z := by
  unfold runsD
  rw [List.take_add_one, h, List.foldl_append]
  rfl
theorem rn_len (ps : List (Int × Int)) (z : Int) : (rnStep ps z).length ≤ ps.length + 1 := by
  rcases List.eq_nil_or_concat ps with rfl | ⟨qs, s, rfl⟩
  · rw [rn_nil]
    exact Nat.le_refl _
  · rw [List.concat_eq_append, rn_snoc]
    split
    · simp
    · simp
theorem runsD_len : ∀ (L : List Int) (ps : List (Int × Int)), (L.foldl rnStep ps).length ≤ ps.length + L.length
  | [], ps => Nat.le_refl _
  | z :: r, ps => by
    have h1 := runsD_len r (rnStep ps z)
    have h2 := rn_len ps z
    rw [List.foldl_cons, List.length_cons]
    omega
def sp_runsOf (K : PySem.W.Frag) : Sp := fun vs H Q _ => ∃ (S : Av) (l : Addr) (L : List Int), vs = [.ref l] ∧ Occ S H ∧ SqL K H l (L.map V.int) ∧ L.length ≤ 1000 ∧ ∀ k rows H', Same H H' → H k = none → H' k = some (.lst rows) → AtAll S H' rows ((runsD L).map prD) → Q (.ref k) H'
section
variable {P : Program} {w : World} {K : PySem.W.Frag} {mg : Str → Option Value} {base : Heap}
theorem ok_numsIn (T : Txt K mg) (D : Df K mg "numbers_in" s_numbers_in ["stretches"]) : Cl P w K mg base 2 "numbers_in" ["stretches"] (sp_numsIn K) := by
  refine ok_of D sc_numbers_in (fun vs H Q E h => ?_) (fun f cdv A outer s H vs Q E hr h => ?_)
  · obtain ⟨l, xs, ps, rfl, _⟩ := h
    rfl
  · obtain ⟨l, xs, ps, rfl, hl, hx, ok, q⟩ := h
    refine ⟨_, (pss_cons (ps_set (i := 1) sc_numbers_in.nd rfl (.inl rfl) (pe_lst pa_nil))
      (pss_cons (ps_for PassesOwn.never rfl (pi_list (pe_callB cr_sortedPO (by rfl) T.b_sorted (by decide +kernel) (pa_cons (pv 0) pa_nil))) (pg_tup rfl (pgs_cons (pg_name (i := 2) sc_numbers_in.nd rfl (.inl rfl)) (pgs_cons (pg_name (i := 3) sc_numbers_in.nd rfl (.inl rfl)) pgs_nil)))
        (pss_cons (ps_set (i := 4) sc_numbers_in.nd rfl (.inl rfl) (pe_ifExp (pt_truth (pv 1) (by intro _; rfl)) (pe_op op_add (pe_ix ix_list (pv 1) (pe_un un_neg pe_int) (fun _ _ => rfl)) pe_int) pe_int))
        (pss_one (ps_expr (pe_bm PySem.F.plainAttrs_list PySem.F.slot_list_extend PySem.F.type_list_extend mt_extend (pv 1) (pa_cons (pe_listRg rfl (by rfl) T.b_list (prg_2 (by rfl) T.b_range (pe_callB (call_max2 rfl) (by rfl) T.b_max (by decide +kernel) (pa_cons (pv 2) (pa_cons (pv 4) pa_nil))) (pe_op op_add (pv 3) pe_int))) pa_nil))))))
      (pss_one (ps_ret (pv 1))))), ?_⟩
    refine ⟨Nat.zero_le _, fun k hk => ?_⟩
    have S1 := same_new (o := .lst []) hk
    have hx1 := hx.same S1
    refine ⟨.ref l, rfl, l, xs, pairAt (upd H k (.lst [])), rfl, S1.seq hl, fun x hm => ?_, fun ys p srt stb hp => ?_⟩
    · obtain ⟨i, hi, e⟩ := List.mem_iff_getElem.mp hm
      have hi2 : i < ps.length := by rw [← hx.1]; exact hi
      obtain ⟨t, e1, e2⟩ := hx1.2 i x ps[i] (List.getElem?_eq_some_iff.mpr ⟨hi, e⟩) (List.getElem?_eq_getElem hi2)
      exact ⟨t, e1, by rw [e1, pairAt_eq e2, e2]⟩
    have mp := hx1.map
    have hk1 : upd H k (.lst []) k = some (.lst []) := upd_same
    generalize upd H k (.lst []) = H1 at S1 hx1 srt stb hp mp hk1 ⊢
    have hy : PrsAt H1 ys (ys.map (pairAt H1)) := ⟨(List.length_map ..).symm, fun i x s a b => by
      rw [List.getElem?_map, a] at b
      cases b
      obtain ⟨j, hj, e⟩ := List.mem_iff_getElem.mp (stb.perm.mem_iff.mp (List.mem_of_getElem? a))
      have hj2 : j < ps.length := by rw [← hx.1]; exact hj
      obtain ⟨t, e1, e2⟩ := hx1.2 j x ps[j] (List.getElem?_eq_some_iff.mpr ⟨hj, e⟩) (List.getElem?_eq_getElem hj2)
      exact ⟨t, e1, by rw [e1, pairAt_eq e2, e2]⟩⟩
    have me : ∀ s, s ∈ ys.map (pairAt H1) ↔ s ∈ ps := fun s => by
      rw [← mp]
      exact (stb.perm.map (pairAt H1)).mem_iff
    have rise : ∀ (i j : Nat) (s t : Int × Int), i < j → (ys.map (pairAt H1))[i]? = some s → (ys.map (pairAt H1))[j]? = some t → s.1 ≤ t.1 := fun i j s t hij a b => by
      obtain ⟨hi, ei⟩ := List.getElem?_eq_some_iff.mp a
      obtain ⟨hj, ej⟩ := List.getElem?_eq_some_iff.mp b
      rw [List.length_map] at hi hj
      have z := SrtO.lexB_no.mp (List.pairwise_iff_getElem.mp srt i j hi hj hij)
      rw [List.getElem_map] at ei ej
      rw [ei, ej] at z
      omega
    have okq : ∀ s ∈ ys.map (pairAt H1), 0 ≤ s.1 ∧ s.1 ≤ s.2 ∧ s.2 < 1000 := fun s hs => ok s ((me s).mp hs)
    have S2 := same_new (o := .lst ys) hp
    have hp2 : upd H1 p (.lst ys) p = some (.lst ys) := upd_same
    have kp : k ≠ p := ne_of_none hk1 hp
    have hk2 := S2 _ _ hk1
    have hy2 := hy.same S2
    have S02 := S1.trans S2
    generalize ys.map (pairAt H1) = qs at hy2 me rise okq
    clear srt stb hy mp
    generalize upd H1 p (.lst ys) = H2 at S02 hp2 hk2 hy2 ⊢
    refine ⟨p, rfl, ⟨_, .inl (.inl hp2)⟩, for_it (walk_list (xs := ys)) (fun i σ H' => ∃ (t2 t3 t4 : Option V) (L : List Int), σ = [some (.ref l), some (.ref k), t2, t3, t4] ∧ Same H H' ∧ H' p = some (.lst ys) ∧ PrsAt H' ys qs ∧ H' k = some (.lst (L.map V.int)) ∧ IsNums (qs.take i) L) ⟨_, _, _, [], rfl, S02, hp2, hy2, hk2, by rw [List.take_zero]; exact IsNums.nil⟩ (fun i σ H' _ ⟨_, _, _, _, _, _, z, _⟩ => .inl (.inl z)) ?_ ?_⟩
    · rintro i x σ H3 H3' hi ⟨t2, t3, t4, L, rfl, S3, p3, y3, k3, nm⟩ ⟨rfl, hxi⟩
      obtain ⟨s, hqi⟩ : ∃ s, qs[i]? = some s := ⟨_, List.getElem?_eq_getElem (i := i) (by rw [← y3.1]; exact hi)⟩
      obtain ⟨t, rfl, et⟩ := y3.2 i x _ hxi hqi
      have oks := okq s (List.mem_of_getElem? hqi)
      have ls := nm.len fun s hs => by
        have := okq s (List.mem_of_mem_take hs)
        omega
      have nx := nm.step (s := s) (fun t ht => by
        obtain ⟨j, hj, e⟩ := List.mem_iff_getElem.mp ht
        rw [List.length_take] at hj
        rw [List.getElem_take] at e
        exact rise j i t s (by omega) (List.getElem?_eq_some_iff.mpr ⟨by omega, e⟩) hqi) oks.1
      have lx := nx.len fun s hs => by
        have := okq s (by
          rcases List.mem_append.mp hs with hs | hs
          · exact List.mem_of_mem_take hs
          · cases List.mem_singleton.mp hs
            exact List.mem_of_getElem? hqi)
        omega
      rw [List.length_append, lnP_len] at lx
      have et2 : qs.take (i + 1) = qs.take i ++ [s] := by rw [List.take_add_one, hqi]; rfl
      refine ⟨t, _, rfl, .inl (.inl et), rfl, _, _, rfl, _, _, rfl, rfl, ?_⟩
      rcases List.eq_nil_or_concat L with e | ⟨M, m, e⟩
      · subst e
        refine ⟨.ref k, rfl, false, .inl ⟨_, .inl (.inl k3), rfl⟩, ite2 (fun z => absurd z Bool.false_ne_true) fun _ => ?_⟩
        have mx : (if (0 : Int) > s.1 then (0 : Int) else s.1) = max s.1 0 := by split <;> omega
        refine ⟨.ref k, rfl, .inl ⟨rfl, _, .inl (.inl k3)⟩, _, rfl, _, rfl, _, _, rfl, _, rfl, _, _, rfl, rfl, _, _, rfl, rfl, RgOk.of_le (by first | omega | (rw [mx]; omega)) (by first | omega | (rw [mx]; omega)) (by first | omega | (rw [mx]; omega)) (by first | omega | (rw [mx]; omega)), fun n hn => ?_⟩
        rw [mx, rg_ln]
        rw [unf_nil] at nx lx
        dsimp only at lx
        have S4 := same_new (o := .lst ((lnP (max s.1 0, s.2 + 1 - max s.1 0)).map V.int)) hn
        have kn : k ≠ n := ne_of_none k3 hn
        refine ⟨k, n, _, _, rfl, rfl, S4 _ _ k3, upd_same, ?_, _, _, _, _, rfl, fun b o e => ?_, ?_, ?_, ?_, by rw [et2]; exact nx⟩
        · rw [List.length_map, List.length_map, lnP_len]
          exact Nat.le_of_lt (Evl.sz_lt (by dsimp only; omega))
        · have bk : b ≠ k := ne_of_none e hk
          rw [upd_ne bk]
          exact S4 _ _ (S3 b o e)
        · rw [upd_ne kp.symm]
          exact S4 _ _ p3
        · exact ⟨y3.1, fun j y u a b => let ⟨t, e1, e2⟩ := y3.2 j y u a b; ⟨t, e1, by
            rw [upd_ne (fun z => by rw [z, k3] at e2; cases e2)]
            exact S4 _ _ e2⟩⟩
        · rw [upd_same, ← List.map_append]
      · rw [List.concat_eq_append] at e
        subst e
        refine ⟨.ref k, rfl, true, .inl ⟨_, .inl (.inl k3), by cases M <;> rfl⟩, ite2 (fun _ => ?_) (fun z => absurd rfl z)⟩
        have mb : 0 ≤ m ∧ m < 1000 := by
          obtain ⟨s, a, b⟩ := (nm.mem m).mp (by simp)
          have := okq s (List.mem_of_mem_take a)
          omega
        have k3c := k3
        rw [List.map_append] at k3c
        refine ⟨_, rfl, _, rfl, k, _, -1, .int m, rfl, rfl, .inl (.inl k3c), atI_last _ _, m, 1, rfl, rfl, ?_⟩
        have mx : (if m + 1 > s.1 then m + 1 else s.1) = max s.1 (m + 1) := by split <;> omega
        refine ⟨.ref k, rfl, .inl ⟨rfl, _, .inl (.inl k3)⟩, _, rfl, _, rfl, _, _, rfl, _, rfl, _, _, rfl, rfl, _, _, rfl, rfl, RgOk.of_le (by first | omega | (rw [mx]; omega)) (by first | omega | (rw [mx]; omega)) (by first | omega | (rw [mx]; omega)) (by first | omega | (rw [mx]; omega)), fun n hn => ?_⟩
        rw [mx, rg_ln]
        rw [unf_snoc] at nx lx
        dsimp only at lx
        have S4 := same_new (o := .lst ((lnP (max s.1 (m + 1), s.2 + 1 - max s.1 (m + 1))).map V.int)) hn
        have kn : k ≠ n := ne_of_none k3 hn
        refine ⟨k, n, _, _, rfl, rfl, S4 _ _ k3, upd_same, ?_, _, _, _, _, rfl, fun b o e => ?_, ?_, ?_, ?_, by rw [et2]; exact nx⟩
        · rw [List.length_map, List.length_map, lnP_len]
          exact Nat.le_of_lt (Evl.sz_lt (by dsimp only; omega))
        · have bk : b ≠ k := ne_of_none e hk
          rw [upd_ne bk]
          exact S4 _ _ (S3 b o e)
        · rw [upd_ne kp.symm]
          exact S4 _ _ p3
        · exact ⟨y3.1, fun j y u a b => let ⟨t, e1, e2⟩ := y3.2 j y u a b; ⟨t, e1, by
            rw [upd_ne (fun z => by rw [z, k3] at e2; cases e2)]
            exact S4 _ _ e2⟩⟩
        · rw [upd_same, ← List.map_append]
    · rintro σ H3 ⟨t2, t3, t4, L, rfl, S3, p3, y3, k3, nm⟩
      rw [List.take_of_length_le (by rw [y3.1]; exact Nat.le_refl _)] at nm
      exact ⟨.ref k, rfl, q k L H3 S3 hk k3 ⟨nm.pw, fun z => by
        rw [nm.mem]
        exact ⟨fun ⟨s, a, b⟩ => ⟨s, (me s).mp a, b⟩, fun ⟨s, a, b⟩ => ⟨s, (me s).mpr a, b⟩⟩⟩⟩
theorem ok_runsOf (T : Txt K mg) (D : Df K mg "runs_of" s_runs_of ["numbers"]) : Cl P w K mg base 2 "runs_of" ["numbers"] (sp_runsOf K) := by
  refine ok_of D sc_runs_of (fun vs H Q E h => ?_) (fun f cdv A outer s H vs Q E hr h => ?_)
  · obtain ⟨S, l, L, rfl, _⟩ := h
    rfl
  · obtain ⟨S, l, L, rfl, ho, hL, lL, q⟩ := h
    refine ⟨_, (pss_cons (ps_set (i := 1) sc_runs_of.nd rfl (.inl rfl) (pe_lst pa_nil))
      (pss_cons (ps_for PassesOwn.never rfl (pi_list (pv 0)) (pg_name (i := 2) sc_runs_of.nd rfl (.inl rfl))
        (pss_one (ps_if (PW.pt (pw_and (pt_truth (pv 1) (by intro _; rfl)) (pw_and1 (pt_cmpR op_eq (pv 2) (pe_op op_add (pe_ix ix_tup (pe_ix ix_list (pv 1) (pe_un un_neg pe_int) (fun _ _ => rfl)) pe_int (fun _ _ => rfl)) pe_int) (nomark _))))) (pss_cons (ps_asg (pe_bm0 PySem.F.plainAttrs_list PySem.F.slot_list_pop PySem.F.type_list_pop mt_pop (pv 1)) (pg_tup rfl (pgs_cons (pg_name (i := 3) sc_runs_of.nd rfl (.inl rfl)) (pgs_cons (pg_name (i := 4) sc_runs_of.nd rfl (.inl rfl)) pgs_nil))))
          (pss_one (ps_expr (pe_bm PySem.F.plainAttrs_list PySem.F.slot_list_append PySem.F.type_list_append mt_append (pv 1) (pa_cons (pe_tup (pa_cons (pv 3) (pa_cons (pv 2) pa_nil))) pa_nil))))) (pss_one (ps_expr (pe_bm PySem.F.plainAttrs_list PySem.F.slot_list_append PySem.F.type_list_append mt_append (pv 1) (pa_cons (pe_tup (pa_cons (pv 2) (pa_cons (pv 2) pa_nil))) pa_nil)))))))
      (pss_one (ps_ret (pv 1))))), ?_⟩
    refine ⟨Nat.zero_le _, fun k hk => ?_⟩
    refine ⟨.ref l, rfl, l, rfl, ⟨_, (same_new hk).seq hL⟩, for_it (walk_list (xs := L.map V.int)) (fun i σ H' => ∃ (t2 t3 t4 : Option V) (rows : List V), σ = [some (.ref l), some (.ref k), t2, t3, t4] ∧ LcS S H k rows ((runsD (L.take i)).map prD) H') ⟨_, _, _, _, rfl, LcS.start hk⟩ (fun i σ H' _ ⟨_, _, _, _, _, L⟩ => L.s.seq hL) ?_ ?_⟩
    · rintro i x σ H2 H2' hi ⟨t2, t3, t4, rows, rfl, c⟩ ⟨rfl, hxi⟩
      rw [List.length_map] at hi
      have hLi : L[i]? = some L[i] := List.getElem?_eq_getElem hi
      rw [List.getElem?_map, hLi] at hxi
      cases hxi
      rw [runsD_succ hLi]
      have lr : rows.length ≤ 1000 := by
        have := runsD_len (L.take i) []
        rw [c.len, List.length_map]
        unfold runsD
        rw [List.length_take] at this
        have : min i L.length ≤ i := Nat.min_le_left ..
        simp at *
        omega
      rcases List.eq_nil_or_concat (runsD (L.take i)) with e | ⟨ps, s, e⟩
      · rw [e] at c ⊢
        have er : rows = [] := List.eq_nil_of_length_eq_zero (by rw [c.len]; rfl)
        subst er
        refine ⟨_, rfl, false, .inl ⟨_, .inl (.inl c.at_), rfl⟩, ite2 (fun z => absurd z Bool.false_ne_true) fun _ => ite2 (fun z => absurd z Bool.false_ne_true) fun _ => ?_⟩
        refine ⟨.ref k, rfl, .inl ⟨rfl, _, .inl (.inl c.at_)⟩, _, rfl, _, rfl, by show 2 ≤ sizeLine; decide, fun t ht => ?_⟩
        have c2 := c.keep (same_new (o := .tup [.int L[i], .int L[i]]) ht)
        refine ⟨k, _, _, rfl, rfl, c2.at_, by show 0 < sizeLine; decide, _, _, _, [.ref t], rfl, ?_⟩
        have nt : ¬ Plus S k t := (c.occ ho).free ht
        exact c2.step (.ofpair nt upd_same)
      · rw [List.concat_eq_append] at e
        rw [e] at c ⊢
        have ca := c.a
        rw [List.map_append] at ca
        obtain ⟨ys, y, rfl, a1, a2⟩ := AtAll.snoc ca
        obtain ⟨t, rfl, nt, et⟩ := a2.pair
        rw [rn_snoc]
        refine ⟨_, rfl, true, .inl ⟨_, .inl (.inl c.at_), by cases ys <;> rfl⟩, ite2 (fun _ => ?_) (fun z => absurd rfl z)⟩
        refine ⟨_, rfl, _, rfl, _, rfl, k, _, -1, .ref t, rfl, rfl, .inl (.inl c.at_), atI_last ys _, t, _, 1, _, rfl, rfl, .inl (.inl et), atI_nat (j := 1) rfl, s.2, 1, rfl, rfl, rfl, _, rfl, ?_⟩
        by_cases e3 : L[i] = s.2 + 1
        · rw [if_pos e3]
          refine ite2 (fun _ => ?_) (fun z => absurd (decide_eq_true (by rw [e3])) z)
          refine ⟨.ref k, rfl, .inl ⟨rfl, _, .inl (.inl c.at_)⟩, k, _, .ref t, rfl, rfl, c.at_, by simp, ?_⟩
          rw [List.dropLast_concat]
          have c1 := c.put (ys := ys) (es := ps.map prD) a1
          have tk : t ≠ k := fun z => nt (.inr z)
          refine ⟨t, _, rfl, .inl (.inl (by rw [upd_ne tk]; exact et)), rfl, _, _, rfl, _, _, rfl, rfl, ?_⟩
          refine ⟨.ref k, rfl, .inl ⟨rfl, _, .inl (.inl c1.at_)⟩, _, rfl, _, rfl, by show 2 ≤ sizeLine; decide, fun t' ht' => ?_⟩
          have c2 := c1.keep (same_new (o := .tup [.int s.1, .int L[i]]) ht')
          refine ⟨k, _, _, rfl, rfl, c2.at_, ?_, _, _, _, ys ++ [.ref t'], rfl, ?_⟩
          · rw [List.length_append] at lr
            exact Evl.sz_lt (by omega)
          · have nt' : ¬ Plus S k t' := (c1.occ ho).free ht'
            rw [List.map_append]
            exact c2.step (.ofpair nt' upd_same)
        · rw [if_neg e3]
          refine ite2 (fun z => absurd (V.int.inj (of_decide_eq_true z)) e3) (fun _ => ?_)
          refine ⟨.ref k, rfl, .inl ⟨rfl, _, .inl (.inl c.at_)⟩, _, rfl, _, rfl, by show 2 ≤ sizeLine; decide, fun t' ht' => ?_⟩
          have c2 := c.keep (same_new (o := .tup [.int L[i], .int L[i]]) ht')
          refine ⟨k, _, _, rfl, rfl, c2.at_, Evl.sz_lt (by omega), _, _, _, ys ++ [.ref t] ++ [.ref t'], rfl, ?_⟩
          have nt' : ¬ Plus S k t' := (c.occ ho).free ht'
          rw [List.map_append (l₂ := [(L[i], L[i])])]
          exact c2.step (.ofpair nt' upd_same)
    · rintro σ H2 ⟨t2, t3, t4, rows, rfl, c⟩
      rw [List.length_map, List.take_length] at c
      exact ⟨.ref k, rfl, q k rows H2 c.s hk c.at_ c.done⟩
end
end My
set_option Elab.async false
set_option linter.all false
set_option maxRecDepth 100000
set_option maxHeartbeats 4000000
namespace My
open PySem PySem.Spec PyProof.Rows L2
/-! P2: stretches handed in, Places. -/
/-- stretches that fit an edition of n parts -/
def okPrs (n : Int) (ps : List (Int × Int)) : Prop := ps.length ≤ 400 ∧ ∀ s ∈ ps, 0 ≤ s.1 ∧ s.1 ≤ s.2 ∧ s.2 < n
def sp_isStr : Sp := fun vs H Q _ => ∃ (t : Addr) (s : Int × Int) (n : Int), vs = [.ref t, .int n] ∧ H t = some (.tup [.int s.1, .int s.2]) ∧ 0 ≤ s.1 ∧ s.1 ≤ s.2 ∧ s.2 < n ∧ Q (.bl true) H
def sp_chkEd (C : Addr) : Sp := fun vs H Q _ => ∃ (S : Av) (e : Addr) (B : Bks) (L : List Int), vs = [.ref e] ∧ EdAt S H C e B L ∧ Q .non H
def prsO : Option (List (Int × Int)) → List (Int × Int)
  | none => []
  | some ps => ps
def sp_keptPr : Sp := fun vs H Q _ => ∃ (v : V) (o : Option (List (Int × Int))) (n : Int), vs = [v, .int n] ∧ LnIn H v o ∧ okPrs n (prsO o) ∧ ∀ k xs H', Same H H' → H k = none → H' k = some (.lst xs) → PrsAt H' xs (prsO o) → Q (.ref k) H'
section
variable {P : Program} {w : World} {K : PySem.W.Frag} {mg : Str → Option Value} {base : Heap}
theorem ok_isStr (T : Txt K mg) (c_is_whole : Cl P w K mg base 2 "is_whole" ["thing", "low", "high"] (sp_whole K)) (c_is_tuple : Cl P w K mg base 2 "is_tuple" ["thing", "fewest", "most"] sp_isTup) (D : Df K mg "is_stretch" s_is_stretch ["thing", "size"]) : Cl P w K mg base 3 "is_stretch" ["thing", "size"] sp_isStr := by
  refine ok_of D sc_is_stretch (fun vs H Q E h => ?_) (fun f cdv A outer s H vs Q E hr h => ?_)
  · obtain ⟨t, s, n, rfl, _⟩ := h
    rfl
  · obtain ⟨t, ⟨s1, s2⟩, n, rfl, ht, h0, h1, h2, q⟩ := h
    refine ⟨_, (pss_one (ps_ret (pe_and (pe_cl c_is_tuple hr (by decide) (by rfl) (pa_cons (pv 0) (pa_cons pe_int (pa_cons pe_int pa_nil)))) (pe_and (pe_cl c_is_whole hr (by decide) (by rfl) (pa_cons (pe_ix ix_tup (pv 0) pe_int (fun _ _ => rfl)) (pa_cons pe_int (pa_cons (pe_op op_sub (pv 1) pe_int) pa_nil)))) (pe_one (pe_cl c_is_whole hr (by decide) (by rfl) (pa_cons (pe_ix ix_tup (pv 0) pe_int (fun _ _ => rfl)) (pa_cons (pe_ix ix_tup (pv 0) pe_int (fun _ _ => rfl)) (pa_cons (pe_op op_sub (pv 1) pe_int) pa_nil))))))))), ?_⟩
    have h0 : 0 ≤ s1 := h0
    have h1 : s1 ≤ s2 := h1
    have h2 : s2 < n := h2
    have e1 : whole (.int s1) 0 (n - 1) = true := by
      show (decide (0 ≤ s1) && decide (s1 ≤ n - 1)) = true
      rw [decide_eq_true h0, decide_eq_true (by omega), Bool.true_and]
    have e2 : whole (.int s2) s1 (n - 1) = true := by
      show (decide (s1 ≤ s2) && decide (s2 ≤ n - 1)) = true
      rw [decide_eq_true h1, decide_eq_true (by omega), Bool.true_and]
    refine ⟨.ref t, rfl, t, _, 2, 2, rfl, ht, _, rfl, ite2 (fun _ => ?_) (fun z => absurd (show true = true from rfl) z)⟩
    refine ⟨_, rfl, t, _, 0, _, rfl, rfl, .inl (.inl ht), atI_nat (j := 0) rfl, _, rfl, n, 1, rfl, rfl, .int s1, 0, n - 1, rfl, .int _, ?_⟩
    rw [e1]
    refine ⟨_, rfl, ite2 (fun _ => ?_) (fun z => absurd rfl z)⟩
    refine ⟨_, rfl, t, _, 1, _, rfl, rfl, .inl (.inl ht), atI_nat (j := 1) rfl, _, rfl, t, _, 0, _, rfl, rfl, .inl (.inl ht), atI_nat (j := 0) rfl, _, rfl, n, 1, rfl, rfl, .int s2, s1, n - 1, rfl, .int _, ?_⟩
    rw [e2]
    exact q
theorem ok_chkEd {C : Addr} (T : Txt K mg) (EC : EdC K C) (O : OwnK K C) (kk : PySem.W.kitOne K (.ref C) (.ref C) = some true) (gC : ∃ u, mg "Edition" = some u ∧ RelV (.ref C) u) (D : Df K mg "check_edition" s_check_edition ["thing"]) : Cl P w K mg base 2 "check_edition" ["thing"] (sp_chkEd C) := by
  refine ok_of D sc_check_edition (fun vs H Q E h => ?_) (fun f cdv A outer s H vs Q E hr h => ?_)
  · obtain ⟨S, e, B, L, rfl, _⟩ := h
    rfl
  · obtain ⟨S, e, B, L, rfl, h1, q⟩ := h
    refine ⟨_, (pss_one (ps_if (pt_not (pt_val (pe_callB call_isb (by rfl) T.b_isinstance (by decide +kernel) (pa_cons (pv 0) (pa_cons (C8.pe_gc (by rfl) gC) pa_nil))))) (pss_one ps_never) pss_nil)), ?_⟩
    obtain ⟨w1, hw1⟩ := id h1
    exact ⟨.ref e, rfl, .inl ⟨.ref e, .ref C, _, _, true, rfl, .own C, .base (.ins hw1.at_ O.cl O.ha O.hn O.htk O.hm), kk, _, rfl, ite2 (fun z => absurd z (by decide)) fun _ => q⟩⟩
theorem ok_keptPr (T : Txt K mg) (c_is_row : Cl P w K mg base 2 "is_row" ["thing", "fewest", "most"] sp_isRow) (c_is_stretch : Cl P w K mg base 3 "is_stretch" ["thing", "size"] sp_isStr) (D : Df K mg "kept_pairs" s_kept_pairs ["pairs", "size"]) : Cl P w K mg base 4 "kept_pairs" ["pairs", "size"] sp_keptPr := by
  refine ok_of D sc_kept_pairs (fun vs H Q E h => ?_) (fun f cdv A outer s H vs Q E hr h => ?_)
  · obtain ⟨v, o, n, rfl, _⟩ := h
    rfl
  · obtain ⟨v, o, n, rfl, hi, ⟨l4, ok⟩, q⟩ := h
    refine ⟨_, (pss_cons (ps_if (pt_cmpR op_isN (pv 0) pe_non (nomark _)) (pss_one (ps_ret (pe_lst pa_nil))) pss_nil)
      (pss_cons (ps_if (pt_not (pt_val (pe_cl c_is_row hr (by decide) (by rfl) (pa_cons (pv 0) (pa_cons pe_int (pa_cons (C8.pe_gc (by rfl) T.g_MOST_PAIRS_places) pa_nil)))))) (pss_one ps_never) pss_nil)
      (pss_cons (ps_for PassesOwn.never rfl (pi_row (pv 0)) (pg_name (i := 2) sc_kept_pairs.nd rfl (.inl rfl))
        (pss_one (ps_if (pt_not (pt_val (pe_cl c_is_stretch hr (by decide) (by rfl) (pa_cons (pv 2) (pa_cons (pv 1) pa_nil))))) (pss_one ps_never) pss_nil)))
      (pss_one (ps_ret (pe_callTy call_list_of (by rfl) T.b_list (by decide +kernel) (pa_cons (pv 0) pa_nil))))))), ?_⟩
    cases o with
    | none =>
      cases (show v = .non from hi)
      refine ⟨_, rfl, rfl, _, rfl, ite2 (fun _ => ?_) (fun z => absurd (decide_eq_true rfl) z)⟩
      exact ⟨Nat.zero_le _, fun k hk => q k [] _ (same_new hk) hk upd_same ⟨rfl, fun i x s h => by rw [List.getElem?_nil] at h; cases h⟩⟩
    | some ps =>
      obtain ⟨a, xs, rfl, ra, lx, hx⟩ := hi
      refine ⟨_, rfl, rfl, _, rfl, ite2 (fun z => nomatch (show V.ref a = V.non from of_decide_eq_true z)) (fun _ => ?_)⟩
      have l1 : (xs.length : Int) ≤ 400 := by
        have : ps.length ≤ 400 := l4
        omega
      refine ⟨.ref a, rfl, a, _, 0, 400, rfl, ra, fun H1 S1 => ?_⟩
      rw [decide_eq_true (show (0 : Int) ≤ (xs.length : Int) by omega), decide_eq_true l1]
      refine ⟨_, rfl, ite2 (fun z => absurd z (by decide)) fun _ => ?_⟩
      obtain ⟨bb, hq⟩ := ra.sq (K := K)
      refine ⟨.ref a, rfl, a, bb, _, rfl, Sq.same hq S1, for_it walk_row (fun i σ H' => ∃ (t2 : Option V), σ = [some (.ref a), some (.int n), t2] ∧ Same H H') ⟨_, rfl, S1⟩ (fun i σ H' _ ⟨_, _, z⟩ => Sq.same hq z) ?_ ?_⟩
      · rintro i x σ H2 H2' hi ⟨t2, rfl, S2⟩ ⟨rfl, hxi⟩
        have hpi : ps[i]? = some ps[i] := List.getElem?_eq_getElem (by omega)
        obtain ⟨t, rfl, et⟩ := hx i x _ hxi hpi
        have okm := ok ps[i] (List.getElem_mem _)
        refine ⟨.ref t, rfl, _, rfl, t, ps[i], n, rfl, S2 _ _ et, okm.1, okm.2.1, okm.2.2, ?_⟩
        exact ⟨_, rfl, ite2 (fun z => absurd z (by decide)) fun _ => ⟨_, rfl, S2⟩⟩
      · rintro σ H2 ⟨t2, rfl, S2⟩
        have hq2 := Sq.same hq S2
        refine ⟨.ref a, rfl, a, xs, rfl, ?_, fun k hk => ?_⟩
        · rcases ra.same S2 with z | z
          · exact .inl (.inl (.inl z))
          · exact .inr (.inl (.inl z))
        · have S3 := S2.trans (same_new (o := .lst xs) hk)
          exact q k xs _ S3 (Same.fresh S2 hk) upd_same ⟨lx, fun i x s h1 h2 => let ⟨t, e1, e2⟩ := hx i x s h1 h2; ⟨t, e1, S3 _ _ e2⟩⟩
end
end My
set_option Elab.async false
set_option linter.all false
set_option maxRecDepth 100000
set_option maxHeartbeats 4000000
namespace My
open PySem PySem.Spec PyProof.Rows L2
/-! P3: Places: its __init__, what it tells. -/
structure PlC (K : PySem.W.Frag) (C : Addr) : Prop where
  cl : Cls K C
  n1 : NoAttr K C "_edition"
  n2 : NoAttr K C "_numbers"
  n3 : NoAttr K C "_runs"
  n4 : NoAttr K C "_held"
structure PcW where
  dx : Addr
  dn : Addr
  dr : Addr
  rows : List V
  dh : Addr
def pcF (e : Addr) (w : PcW) : List (Str × V) := [("_edition", .ref e), ("_numbers", .ref w.dn), ("_runs", .ref w.dr), ("_held", .ref w.dh)]
/-- places of the edition at e, the numbers N, stand at x -/
structure PcIn (S : Av) (H : Hp) (C x e : Addr) (N : List Int) (w : PcW) : Prop where
  at_ : H x = some (.ins C w.dx (pcF e w))
  n0 : ¬ S x
  n1 : ¬ S w.dn
  n2 : ¬ S w.dr
  n3 : ¬ S w.dh
  h1 : H w.dn = some (.lst (N.map V.int))
  h2 : H w.dr = some (.lst w.rows)
  c2 : AtAll S H w.rows ((runsD N).map prD)
  h3 : H w.dh = some (.dK (tkD N))
def PcAt (S : Av) (H : Hp) (C x e : Addr) (N : List Int) : Prop := ∃ w, PcIn S H C x e N w
theorem PcAt.bt {S : Av} {H H' : Hp} {C x e : Addr} {N : List Int} (h : PcAt S H C x e N) (b : BtS S H H') : PcAt S H' C x e N := by
  obtain ⟨w, h⟩ := h
  exact ⟨w, { h with at_ := b _ _ h.n0 h.at_, h1 := b _ _ h.n1 h.h1, h2 := b _ _ h.n2 h.h2, c2 := AtAll.bt b _ _ h.c2, h3 := b _ _ h.n3 h.h3 }⟩
theorem PcAt.plusN {S : Av} {H : Hp} {C x e : Addr} {N : List Int} {D : Addr} (h : PcAt S H C x e N) (g : H D = none) : PcAt (Plus S D) H C x e N := by
  obtain ⟨w, h⟩ := h
  have ne : ∀ {b : Addr} {o : HO}, H b = some o → ¬ S b → ¬ Plus S D b := fun e n z => z.elim n fun q => by rw [q, g] at e; cases e
  exact ⟨w, { h with n0 := ne h.at_ h.n0, n1 := ne h.h1 h.n1, n2 := ne h.h2 h.n2, n3 := ne h.h3 h.n3, c2 := h.c2.plusN g }⟩
def sp_initP (CP C : Addr) : Sp := fun vs H Q _ => ∃ (S : Av) (x dx e : Addr) (lv0 : V) (B : Bks) (L : List Int) (o : Option (List (Int × Int))), vs = [.ref x, .ref e, lv0] ∧ ¬ S x ∧ Occ S H ∧ H x = some (.ins CP dx []) ∧ EdAt (Plus S x) H C e B L ∧ (plOf B).length ≤ 400 ∧ LnIn H lv0 o ∧ okPrs (plOf B).length (prsO o) ∧
  ∀ H' N, Bt x H H' → IsNums (prsO o) N → PcAt S H' CP x e N → Q .non H'
def sp_pcEd (CP : Addr) : Sp := fun vs H Q _ => ∃ (S : Av) (x e : Addr) (N : List Int), vs = [.ref x] ∧ PcAt S H CP x e N ∧ Q (.ref e) H
def sp_pcRuns (CP : Addr) : Sp := fun vs H Q _ => ∃ (S : Av) (x e : Addr) (N : List Int), vs = [.ref x] ∧ PcAt S H CP x e N ∧ ∀ l rows, H l = none → AtAll S H rows ((runsD N).map prD) → Q (.ref l) (upd H l (.lst rows))
def sp_pcNums (CP : Addr) : Sp := fun vs H Q _ => ∃ (S : Av) (x e : Addr) (N : List Int), vs = [.ref x] ∧ PcAt S H CP x e N ∧ ∀ l, H l = none → Q (.ref l) (upd H l (.lst (N.map V.int)))
/-- whether a thing is a number among N -/
def inN (N : List Int) : V → Bool
  | .int z => decide (z ∈ N)
  | _ => false
def sp_pcHas (K : PySem.W.Frag) (CP : Addr) : Sp := fun vs H Q _ => ∃ (S : Av) (x e : Addr) (N : List Int) (v : V), vs = [.ref x, v] ∧ PcAt S H CP x e N ∧ Th K H v ∧ Q (.bl (inN N v)) H
section
variable {P : Program} {w : World} {K : PySem.W.Frag} {mg : Str → Option Value} {base : Heap}
theorem ok_pcEd {C f : Addr} {fd : FuncData} (T : Txt K mg) (PC : PlC K C) (F : Fun K "edition" "Places.edition" s_Places_edition f fd) : FnOk P w K mg base CX0 2 f fd ["self"] (sp_pcEd C) := by
  refine F.ok sc_Places_edition (fun vs H Q E h => ?_) (fun cdv A outer s H vs Q E hr h => ?_)
  · obtain ⟨S, x, e, N, rfl, _⟩ := h
    rfl
  · obtain ⟨S, x, e, N, rfl, ⟨w, h⟩, q⟩ := h
    refine ⟨_, (pss_one (ps_ret (pe_fld (pv 0) rfl))), ?_⟩
    exact ⟨.ref x, rfl, x, C, _, _, _, rfl, h.at_, PC.cl, PC.n1, rfl, q⟩
theorem ok_pcRuns {C f : Addr} {fd : FuncData} (T : Txt K mg) (PC : PlC K C) (F : Fun K "runs" "Places.runs" s_Places_runs f fd) : FnOk P w K mg base CX0 2 f fd ["self"] (sp_pcRuns C) := by
  refine F.ok sc_Places_runs (fun vs H Q E h => ?_) (fun cdv A outer s H vs Q E hr h => ?_)
  · obtain ⟨S, x, e, N, rfl, _⟩ := h
    rfl
  · obtain ⟨S, x, e, N, rfl, ⟨w, h⟩, q⟩ := h
    refine ⟨_, (pss_one (ps_ret (pe_callTy call_list_of (by rfl) T.b_list (by decide +kernel) (pa_cons (pe_fld (pv 0) rfl) pa_nil)))), ?_⟩
    exact ⟨.ref x, rfl, x, C, _, _, _, rfl, h.at_, PC.cl, PC.n3, rfl, _, _, rfl, .inl (.inl (.inl h.h2)), fun l hl => q l w.rows hl h.c2⟩
theorem ok_pcNums {C f : Addr} {fd : FuncData} (T : Txt K mg) (PC : PlC K C) (F : Fun K "numbers" "Places.numbers" s_Places_numbers f fd) : FnOk P w K mg base CX0 2 f fd ["self"] (sp_pcNums C) := by
  refine F.ok sc_Places_numbers (fun vs H Q E h => ?_) (fun cdv A outer s H vs Q E hr h => ?_)
  · obtain ⟨S, x, e, N, rfl, _⟩ := h
    rfl
  · obtain ⟨S, x, e, N, rfl, ⟨w, h⟩, q⟩ := h
    refine ⟨_, (pss_one (ps_ret (pe_callTy call_list_of (by rfl) T.b_list (by decide +kernel) (pa_cons (pe_fld (pv 0) rfl) pa_nil)))), ?_⟩
    exact ⟨.ref x, rfl, x, C, _, _, _, rfl, h.at_, PC.cl, PC.n2, rfl, _, _, rfl, .inl (.inl (.inl h.h1)), q⟩
theorem ok_pcHas {C f : Addr} {fd : FuncData} (T : Txt K mg) (PC : PlC K C) (c_is_number : Cl P w K mg base 1 "is_number" ["thing"] (sp_num K)) (F : Fun K "has" "Places.has" s_Places_has f fd) : FnOk P w K mg base CX0 2 f fd ["self", "number"] (sp_pcHas K C) := by
  refine F.ok sc_Places_has (fun vs H Q E h => ?_) (fun cdv A outer s H vs Q E hr h => ?_)
  · obtain ⟨S, x, e, N, v, rfl, _⟩ := h
    rfl
  · obtain ⟨S, x, e, N, v, rfl, ⟨w, h⟩, hv, q⟩ := h
    refine ⟨_, (pss_one (ps_ret (pe_and (pe_cl c_is_number hr (by decide) (by rfl) (pa_cons (pv 1) pa_nil)) (pe_one (pe_cmp (pc_din (hu_of hr) (pv 1) (pe_fld (pv 0) rfl))))))), ?_⟩
    refine ⟨v, rfl, v, rfl, hv, _, rfl, ite2 (fun z => ?_) (fun z => ?_)⟩
    · cases v with
      | int i =>
        refine ⟨_, rfl, .ref x, rfl, x, C, _, _, _, rfl, h.at_, PC.cl, PC.n4, rfl, w.dh, _, rfl, DGet.k (k := Sum.inl i) h.h3, ?_⟩
        have e : (valV (tkD N) (Sum.inl i : Key)).isSome = decide (i ∈ N) := by
          by_cases m : i ∈ N
          · rw [decide_eq_true m]
            have := tk_any N i
            rw [decide_eq_true m] at this
            unfold valV
            cases hf : (tkD N).find? (fun kv => decide (kv.1 = (Sum.inl i : Key))) with
            | none =>
              rw [List.find?_eq_none] at hf
              obtain ⟨kv, a, b⟩ := List.any_eq_true.mp this
              exact absurd b (hf kv a)
            | some kv => rfl
          · rw [decide_eq_false m, tk_val m]
            rfl
        have q : Q (.bl (decide (i ∈ N))) H := q
        rw [← e] at q
        exact q
      | _ => exact absurd z Bool.false_ne_true
    · cases v with
      | int i => exact absurd rfl z
      | _ => exact q
theorem ok_initP {CP C f : Addr} {fd : FuncData} (T : Txt K mg) (PC : PlC K CP) (EC : EdC K C) (c_check_edition : Cl P w K mg base 2 "check_edition" ["thing"] (sp_chkEd C)) (c_kept_pairs : Cl P w K mg base 4 "kept_pairs" ["pairs", "size"] sp_keptPr) (c_numbers_in : Cl P w K mg base 2 "numbers_in" ["stretches"] (sp_numsIn K)) (c_runs_of : Cl P w K mg base 2 "runs_of" ["numbers"] (sp_runsOf K)) (m_size : C8.Met P w K mg base 2 C "size" (sp_size C) []) {dvs : List V} {kws : List (Str × V)} (F : FunD K "__init__" "Places.__init__" (defArgs s_Places___init__) (defBody s_Places___init__) (defScope s_Places___init__) dvs kws f fd) : FnOk P w K mg base CX0 5 f fd ["self", "edition", "pairs"] (sp_initP CP C) := by
  refine funD_ok0 F sc_Places___init__ (fun vs H Q E h => ?_) (fun cdv A outer s H vs Q E hr h => ?_)
  · obtain ⟨S, x, dx, e, lv0, B, L, o, rfl, _⟩ := h
    rfl
  · obtain ⟨S, x, dx, e, lv0, B, L, o, rfl, nx, ho, hx, hE, l4, hP, ok, q⟩ := h
    refine ⟨_, (pss_cons (ps_expr (pe_cl c_check_edition hr (by decide) (by rfl) (pa_cons (pv 1) pa_nil)))
      (pss_cons (ps_fld (pv 0) (pv 1) rfl)
      (pss_cons (ps_fld (pv 0) (pe_cl c_numbers_in hr (by decide) (by rfl) (pa_cons (pe_cl c_kept_pairs hr (by decide) (by rfl) (pa_cons (pv 2) (pa_cons (C8.pe_mt0 m_size hr (by decide) (pv 1)) pa_nil))) pa_nil)) rfl)
      (pss_cons (ps_fld (pv 0) (pe_cl c_runs_of hr (by decide) (by rfl) (pa_cons (pe_fld (pv 0) rfl) pa_nil)) rfl)
      (pss_one (ps_fld (pv 0) (pe_dc (own := [("number", 3)]) rfl sc_Places___init__.nd (pi_list (pe_fld (pv 0) rfl)) (blkOk_by (own := [("number", 3)]) (N := N_Places___init__) (sc := defScope s_Places___init__) (by decide +kernel)) (fun _ _ _ _ _ => (pg_name (i := 3) sc_Places___init__.nd rfl (.inl rfl))) (fun _ _ _ _ _ => pts_nil) (fun _ _ _ _ _ => (pv 3)) (fun _ _ _ _ _ => pe_bl)) rfl)))))), ?_⟩
    have oS : Occ (Plus S x) H := ho.plus hx
    refine ⟨.ref e, rfl, _, e, B, L, rfl, hE, ?_⟩
    refine ⟨.ref e, rfl, .ref x, rfl, x, CP, dx, [], rfl, hx, PC.cl, PC.n1, by decide, ?_⟩
    have Ua := BtS.upd (S := Plus S x) (H := H) (p := x) (o := .ins CP dx (putF "_edition" (.ref e) [])) (.inr rfl)
    have Ea := hE.bt Ua
    have La := hP.btx hx (Bt.upd (H := H) (p := x) (o := .ins CP dx (putF "_edition" (.ref e) [])))
    have xa : upd H x (.ins CP dx (putF "_edition" (.ref e) [])) x = some (.ins CP dx [("_edition", .ref e)]) := upd_same
    have oa : Occ (Plus S x) (upd H x (.ins CP dx (putF "_edition" (.ref e) []))) := oS.upd
    have ba : Bt x H (upd H x (.ins CP dx (putF "_edition" (.ref e) []))) := Bt.upd
    generalize upd H x (.ins CP dx (putF "_edition" (.ref e) [])) = Ha at Ea La xa oa ba ⊢
    obtain ⟨we, hwe⟩ := id Ea
    -- the numbers
    refine ⟨lv0, rfl, .ref e, rfl, e, _, _, rfl, hwe.at_, rfl, Plus S x, e, B, L, rfl, Ea, lv0, o, _, rfl, La, ok, fun k xs H1 S1 hk ek px => ?_⟩
    have bnd : ∀ s ∈ prsO o, 0 ≤ s.1 ∧ s.1 ≤ s.2 ∧ s.2 < 1000 := fun s hs => by
      have := ok.2 s hs
      omega
    refine ⟨k, xs, prsO o, rfl, .inl (.inl ek), px, bnd, fun l N H2 S2 hl el nm => ?_⟩
    have ln := nm.len fun s hs => by
      have := bnd s hs
      omega
    have S12 := S1.trans S2
    refine ⟨.ref x, rfl, x, CP, dx, _, rfl, S12 _ _ xa, PC.cl, PC.n2, by show 1 < 1000; decide, ?_⟩
    have nl : ¬ Plus S x l := oa.free (Same.fresh S1 hl)
    have U2 := BtS.upd (S := Plus S x) (H := H2) (p := x) (o := .ins CP dx (putF "_numbers" (.ref l) [("_edition", .ref e)])) (.inr rfl)
    have l2 := U2 _ _ nl el
    have xb : upd H2 x (.ins CP dx (putF "_numbers" (.ref l) [("_edition", .ref e)])) x = some (.ins CP dx [("_edition", .ref e), ("_numbers", .ref l)]) := upd_same
    have ob : Occ (Plus S x) (upd H2 x (.ins CP dx (putF "_numbers" (.ref l) [("_edition", .ref e)]))) := (oa.same S12).upd
    have bb : Bt x H (upd H2 x (.ins CP dx (putF "_numbers" (.ref l) [("_edition", .ref e)]))) := (ba.trans (Bt.same S12)).trans Bt.upd
    generalize upd H2 x (.ins CP dx (putF "_numbers" (.ref l) [("_edition", .ref e)])) = Hb at l2 xb ob bb ⊢
    -- the runs
    refine ⟨.ref x, rfl, x, CP, dx, _, .ref l, rfl, xb, PC.cl, PC.n2, rfl, Plus S x, l, N, rfl, ob, .inl (.inl l2), ln, fun k2 rows H3 S3 hk3 ek3 ar => ?_⟩
    refine ⟨.ref x, rfl, x, CP, dx, _, rfl, S3 _ _ xb, PC.cl, PC.n3, by show 2 < 1000; decide, ?_⟩
    have nk : ¬ Plus S x k2 := ob.free hk3
    have U3 := BtS.upd (S := Plus S x) (H := H3) (p := x) (o := .ins CP dx (putF "_runs" (.ref k2) [("_edition", .ref e), ("_numbers", .ref l)])) (.inr rfl)
    have l3 := (Same.btS S3).trans U3 _ _ nl l2
    have k3 := U3 _ _ nk ek3
    have a3 := AtAll.bt U3 _ _ ar
    have xc : upd H3 x (.ins CP dx (putF "_runs" (.ref k2) [("_edition", .ref e), ("_numbers", .ref l)])) x = some (.ins CP dx [("_edition", .ref e), ("_numbers", .ref l), ("_runs", .ref k2)]) := upd_same
    have oc : Occ (Plus S x) (upd H3 x (.ins CP dx (putF "_runs" (.ref k2) [("_edition", .ref e), ("_numbers", .ref l)]))) := (ob.same S3).upd
    have bc : Bt x H (upd H3 x (.ins CP dx (putF "_runs" (.ref k2) [("_edition", .ref e), ("_numbers", .ref l)]))) := (bb.trans (Bt.same S3)).trans Bt.upd
    generalize upd H3 x (.ins CP dx (putF "_runs" (.ref k2) [("_edition", .ref e), ("_numbers", .ref l)])) = Hc at l3 k3 a3 xc oc bc ⊢
    -- what is held
    refine ⟨.ref x, rfl, x, CP, dx, _, .ref l, rfl, xc, PC.cl, PC.n2, rfl, l, rfl, ⟨_, .inl (.inl l3)⟩, fun D hD => ?_⟩
    refine dc_it (walk_list (xs := N.map V.int)) (fun i H' => Same Hc H' ∧ H' D = some (.dK (tkD (N.take i)))) ⟨same_new hD, upd_same⟩ (fun i H' _ ⟨z, _⟩ => .inl (.inl (z _ _ l3))) ?_ ?_
    · rintro i y H6 H6' hi ⟨S6, hD6⟩ ⟨rfl, hy⟩
      rw [List.length_map] at hi
      have hNi : N[i]? = some N[i] := List.getElem?_eq_getElem hi
      rw [List.getElem?_map, hNi] at hy
      cases hy
      have nin : N[i] ∉ N.take i := fun z => by
        obtain ⟨j, hj, e⟩ := List.mem_iff_getElem.mp z
        rw [List.length_take] at hj
        rw [List.getElem_take] at e
        have := List.pairwise_iff_getElem.mp nm.pw j i (by omega) hi (by omega)
        omega
      refine ⟨rfl, _, rfl, tkD (N.take i), .inl N[i], rfl, hD6, Evl.sz_lt ?_, ?_, ?_⟩
      · unfold tkD
        rw [List.length_map, List.length_take]
        omega
      · exact fun q o e => by
          rw [upd_ne (ne_of_none e hD)]
          exact S6 q o e
      · rw [upd_same, tk_put nin, List.take_add_one, hNi]
        rfl
    · rintro H6 ⟨S6, hD6⟩
      rw [List.length_map, List.take_length] at hD6
      refine ⟨.ref x, rfl, x, CP, dx, _, rfl, S6 _ _ xc, PC.cl, PC.n4, by show 3 < 1000; decide, ?_⟩
      have nD : ¬ Plus S x D := oc.free hD
      have U6 := BtS.upd (S := Plus S x) (H := H6) (p := x) (o := .ins CP dx (putF "_held" (.ref D) [("_edition", .ref e), ("_numbers", .ref l), ("_runs", .ref k2)])) (.inr rfl)
      have W6 := (Same.btS S6).trans U6
      have wk : ∀ b, S b → Plus S x b := fun _ z => .inl z
      have nn : ∀ {b}, ¬ Plus S x b → ¬ S b := fun n z => n (.inl z)
      refine q _ N ((bc.trans (Bt.same S6)).trans Bt.upd) nm ⟨⟨dx, l, k2, rows, D⟩, ?_⟩
      exact { at_ := upd_same, n0 := nx, n1 := nn nl, n2 := nn nk, n3 := nn nD
              h1 := W6 _ _ nl l3, h2 := W6 _ _ nk k3, c2 := AtAll.weak wk _ _ (AtAll.bt W6 _ _ a3), h3 := U6 _ _ nD hD6 }
end
end My
set_option Elab.async false
set_option linter.all false
set_option maxRecDepth 100000
set_option maxHeartbeats 4000000
namespace My
open PySem PySem.Spec PyProof.Rows L2
def sp_told (C : Addr) : Sp := fun vs H Q _ => ∃ (S : Av) (e : Addr) (B : Bks) (L : List Int), vs = [.ref e] ∧ Occ S H ∧ EdAt S H C e B L ∧ L.length ≤ 1000 ∧ ∀ v H', Same H H' → At S H' v (.tuple [bksD B, .tuple ((fewest L).map prD)]) → Q v H'
section
variable {P : Program} {w : World} {K : PySem.W.Frag} {mg : Str → Option Value} {base : Heap}
theorem ok_told {C f : Addr} {fd : FuncData} (T : Txt K mg) (EC : EdC K C) (F : Fun K "told" "Edition.told" s_Edition_told f fd) : FnOk P w K mg base CX0 3 f fd ["self"] (sp_told C) := by
  refine F.ok sc_Edition_told (fun vs H Q E h => ?_) (fun cdv A outer s H vs Q E hr h => ?_)
  · obtain ⟨S, e, B, L, rfl, _⟩ := h
    rfl
  · obtain ⟨S, e, B, L, rfl, ho, h, ll, q⟩ := h
    refine ⟨_, (pss_one (ps_ret (pe_fld (pv 0) rfl))), ?_⟩
    obtain ⟨w, hw⟩ := id h
    exact ⟨.ref e, rfl, e, C, _, _, _, rfl, hw.at_, EC.cl, EC.n7, rfl, q _ _ (Same.refl H) hw.h7⟩
end
end My
set_option Elab.async false
set_option linter.all false
set_option maxRecDepth 100000
set_option maxHeartbeats 4000000
namespace My
open PySem PySem.Spec PyProof.Rows L2
def sp_same (C : Addr) : Sp := fun vs H Q _ => ∃ (S : Av) (e e2 : Addr) (B B2 : Bks) (L L2 : List Int), vs = [.ref e, .ref e2] ∧ Occ S H ∧ EdAt S H C e B L ∧ EdAt S H C e2 B2 L2 ∧ L.length ≤ 1000 ∧ L2.length ≤ 1000 ∧ (∀ b ∈ B, okName b.1) ∧ (∀ b ∈ B2, okName b.1) ∧ ∀ H', Same H H' → Q (.bl (PyData.eqv (toldD B L) (toldD B2 L2))) H'
section
variable {P : Program} {w : World} {K : PySem.W.Frag} {mg : Str → Option Value} {base : Heap}
theorem ok_same {C f : Addr} {fd : FuncData} (T : Txt K mg) (EC : EdC K C) (O : OwnK K C) (kk : PySem.W.kitOne K (.ref C) (.ref C) = some true) (gC : ∃ u, mg "Edition" = some u ∧ RelV (.ref C) u) (m_told : C8.Met P w K mg base 3 C "told" (sp_told C) []) (F : Fun K "same" "Edition.same" s_Edition_same f fd) : FnOk P w K mg base CX0 4 f fd ["self", "thing"] (sp_same C) := by
  refine F.ok sc_Edition_same (fun vs H Q E h => ?_) (fun cdv A outer s H vs Q E hr h => ?_)
  · obtain ⟨S, e, e2, B, B2, L, M, rfl, _⟩ := h
    rfl
  · obtain ⟨S, e, e2, B, B2, L, M, rfl, ho, h1, h2, l1, l2, n1, n2, q⟩ := h
    refine ⟨_, (pss_one (ps_ret (pe_and (pe_callB call_isb (by rfl) T.b_isinstance (by decide +kernel) (pa_cons (pv 1) (pa_cons (C8.pe_gc (by rfl) gC) pa_nil))) (pe_one (pe_cmpR (op_eqD hr.units) (C8.pe_mt0 m_told hr (by decide) (pv 0)) (C8.pe_mt0 m_told hr (by decide) (pv 1)) (nomark _)))))), ?_⟩
    obtain ⟨w1, hw1⟩ := id h1
    obtain ⟨w2, hw2⟩ := id h2
    refine ⟨.ref e2, rfl, .inl ⟨.ref e2, .ref C, _, _, true, rfl, .own C, .base (.ins hw2.at_ O.cl O.ha O.hn O.htk O.hm), kk, _, rfl, ite2 (fun _ => ?_) (fun z => absurd rfl z)⟩⟩
    refine ⟨.ref e, rfl, e, _, _, rfl, hw1.at_, rfl, S, e, B, L, rfl, ho, h1, l1, fun v H1 S1 hv => ?_⟩
    refine ⟨.ref e2, rfl, e2, _, _, rfl, S1 _ _ hw2.at_, rfl, S, e2, B2, M, rfl, ho.same S1, h2.bt (Same.btS S1), l2, fun v2 H2 S2 hv2 => ?_⟩
    exact ⟨toldD B L, toldD B2 M, At.dp _ _ (At.same hv S2), At.dp _ _ hv2, shaped_told n1 L, shaped_told n2 M, q H2 (S1.trans S2)⟩
end
end My
set_option Elab.async false
set_option linter.all false
set_option maxRecDepth 100000
set_option maxHeartbeats 4000000
namespace My
open PySem PySem.Spec PyProof.Rows L2
/-! P4: places of numbers. -/
theorem runs_last : ∀ {N : List Int}, N.Pairwise (· < ·) → IsNums (runsD N) N ∧ (∀ s ∈ runsD N, s.1 ≤ s.2) ∧ (runsD N).getLast?.map (·.2) = N.getLast? := by
  intro N
  have key : ∀ i, i ≤ N.length → N.Pairwise (· < ·) → IsNums (runsD (N.take i)) (N.take i) ∧ (∀ s ∈ runsD (N.take i), s.1 ≤ s.2) ∧ (runsD (N.take i)).getLast?.map (·.2) = (N.take i).getLast? := by
    intro i
    induction i with
    | zero =>
      intro _ _
      rw [List.take_zero]
      exact ⟨IsNums.nil, (fun s h => nomatch h), rfl⟩
    | succ i ih =>
      intro hi pw
      obtain ⟨h1, h2, h3⟩ := ih (by omega) pw
      have hz : N[i]? = some N[i] := List.getElem?_eq_getElem (by omega)
      have et : N.take (i + 1) = N.take i ++ [N[i]] := by rw [List.take_add_one, hz]; rfl
      have pw2 : (N.take i ++ [N[i]]).Pairwise (· < ·) := by rw [← et]; exact pw.sublist (List.take_sublist ..)
      rw [runsD_succ hz, et, List.getLast?_concat]
      generalize N[i] = z at pw2
      generalize N.take i = T at h1 h2 h3 pw2
      generalize runsD T = R at h1 h2 h3
      rcases List.eq_nil_or_concat R with e | ⟨ps, s, e⟩
      · subst e
        rw [rn_nil]
        refine ⟨⟨pw2, fun y => ?_⟩, fun s hs => by cases List.mem_singleton.mp hs; exact Int.le_refl _, rfl⟩
        rw [List.mem_append, h1.mem, List.mem_singleton]
        constructor
        · rintro (⟨s, hs, _⟩ | rfl)
          · cases hs
          · exact ⟨(y, y), by simp, by simp⟩
        · rintro ⟨s, hs, a, b⟩
          cases List.mem_singleton.mp hs
          exact .inr (by dsimp only at a b; omega)
      · rw [List.concat_eq_append] at e
        subst e
        rw [List.getLast?_concat] at h3
        have hs := h2 s (by simp)
        rw [rn_snoc]
        by_cases e : z = s.2 + 1
        · rw [if_pos e]
          refine ⟨⟨pw2, fun y => ?_⟩, fun t ht => ?_, by rw [List.getLast?_concat]; rfl⟩
          · rw [List.mem_append, h1.mem, List.mem_singleton]
            constructor
            · rintro (⟨t, ht, a, b⟩ | rfl)
              · rcases List.mem_append.mp ht with ht | ht
                · exact ⟨t, List.mem_append_left _ ht, a, b⟩
                · cases List.mem_singleton.mp ht
                  exact ⟨(s.1, z), by simp, a, by dsimp only; omega⟩
              · exact ⟨(s.1, y), by simp, by dsimp only; omega, Int.le_refl _⟩
            · rintro ⟨t, ht, a, b⟩
              rcases List.mem_append.mp ht with ht | ht
              · exact .inl ⟨t, List.mem_append_left _ ht, a, b⟩
              · cases List.mem_singleton.mp ht
                dsimp only at a b
                by_cases q : y = z
                · exact .inr q
                · exact .inl ⟨s, by simp, a, by omega⟩
          · rcases List.mem_append.mp ht with ht | ht
            · exact h2 t (List.mem_append_left _ ht)
            · cases List.mem_singleton.mp ht
              dsimp only
              omega
        · rw [if_neg e]
          refine ⟨⟨pw2, fun y => ?_⟩, fun t ht => ?_, by rw [List.getLast?_concat]; rfl⟩
          · rw [List.mem_append, h1.mem, List.mem_singleton]
            constructor
            · rintro (⟨t, ht, a, b⟩ | rfl)
              · exact ⟨t, List.mem_append_left _ ht, a, b⟩
              · exact ⟨(y, y), by simp, by simp⟩
            · rintro ⟨t, ht, a, b⟩
              rcases List.mem_append.mp ht with ht | ht
              · exact .inl ⟨t, ht, a, b⟩
              · cases List.mem_singleton.mp ht
                exact .inr (by dsimp only at a b; omega)
          · rcases List.mem_append.mp ht with ht | ht
            · exact h2 t ht
            · cases List.mem_singleton.mp ht
              exact Int.le_refl _
  intro pw
  have := key N.length (Nat.le_refl _) pw
  rw [List.take_length] at this
  exact this
/-- places made anew, of any stretches -/
theorem mk_pcI {S : Av} {H : Hp} {CP C e x dx : Addr} {B : Bks} {L : List Int} {pr : V} {o : Option (List (Int × Int))} {Q : VK} {E : XK} (ho : Occ S H) (ed : EdAt S H C e B L) (l4 : (plOf B).length ≤ 400) (hl : LnIn H pr o) (ok : okPrs (plOf B).length (prsO o)) (hx : H x = none) (hdx : H dx = none) (ne : dx ≠ x)
    (q : ∀ H' N, Same H H' → IsNums (prsO o) N → PcAt S H' CP x e N → Q .non H') : sp_initP CP C [.ref x, .ref e, pr] (upd (upd H dx (.own x)) x (.ins CP dx [])) Q E := by
  have S8 : Same H (upd (upd H dx (.own x)) x (.ins CP dx [])) := (same_new hdx).trans (same_new (by rw [upd_ne ne.symm]; exact hx))
  exact ⟨S, x, dx, e, pr, B, L, o, rfl, ho.free hx, ho.same S8, upd_same, (ed.plusN hx).bt (Same.btS S8), l4, hl.same S8, ok, fun H' N b nm pc => q H' N (fun p ob eo => b p ob (ne_of_none eo hx) (S8 p ob eo)) nm pc⟩
theorem all_prs {S : Av} {H : Hp} : ∀ {xs : List V} {ps : List (Int × Int)}, AtAll S H xs (ps.map prD) → PrsAt H xs ps := fun h => ⟨by rw [h.len, List.length_map], fun i x s a b => by
  obtain ⟨s', h1, h2⟩ := h.at_ a
  rw [b] at h1
  cases h1
  obtain ⟨t, e, _, f⟩ := h2.pair
  exact ⟨t, e, f⟩⟩
def sp_ofStr (K : PySem.W.Frag) (CP C : Addr) : Sp := fun vs H Q _ => ∃ (S : Av) (e l : Addr) (xs : List V) (ps : List (Int × Int)) (B : Bks) (L : List Int), vs = [.ref e, .ref l] ∧ Occ S H ∧ EdAt S H C e B L ∧ (plOf B).length ≤ 400 ∧ SqL K H l xs ∧ PrsAt H xs ps ∧ (∀ s ∈ ps, 0 ≤ s.1 ∧ s.1 ≤ s.2 ∧ s.2 < ((plOf B).length : Nat)) ∧ ∀ y N H', Same H H' → H y = none → IsNums ps N → PcAt S H' CP y e N → Q (.ref y) H'
/-- places of the numbers M, in any order, also more than once -/
def sp_ofNum (K : PySem.W.Frag) (CP C : Addr) : Sp := fun vs H Q _ => ∃ (S : Av) (e l : Addr) (M : List Int) (B : Bks) (L : List Int), vs = [.ref e, .ref l] ∧ Occ S H ∧ EdAt S H C e B L ∧ (plOf B).length ≤ 400 ∧ SqL K H l (M.map V.int) ∧ M.length ≤ 1000 ∧ (∀ z ∈ M, 0 ≤ z ∧ z < ((plOf B).length : Nat)) ∧ ∀ y N H', Same H H' → H y = none → N.Pairwise (· < ·) → (∀ z, z ∈ N ↔ z ∈ M) → PcAt S H' CP y e N → Q (.ref y) H'
/-- places of an edition that is the same as this one -/
def sp_isPl (CP C : Addr) : Sp := fun vs H Q _ => ∃ (S : Av) (e y e2 : Addr) (N : List Int) (B : Bks) (L : List Int), vs = [.ref e, .ref y] ∧ Occ S H ∧ EdAt S H C e B L ∧ PcAt S H CP y e2 N ∧ EdAt S H C e2 B L ∧ L.length ≤ 1000 ∧ (∀ b ∈ B, okName b.1) ∧ ∀ H', Same H H' → Q (.bl true) H'
section
variable {P : Program} {w : World} {K : PySem.W.Frag} {mg : Str → Option Value} {base : Heap}
theorem ok_ofStr {CP C : Addr} (T : Txt K mg) (c_numbers_in : Cl P w K mg base 2 "numbers_in" ["stretches"] (sp_numsIn K)) (c_runs_of : Cl P w K mg base 2 "runs_of" ["numbers"] (sp_runsOf K)) (c_Places : C8.Mak P w K mg base 5 "Places" CP (sp_initP CP C) []) (D : Df K mg "places_of_stretches" s_places_of_stretches ["edition", "stretches"]) : Cl P w K mg base 7 "places_of_stretches" ["edition", "stretches"] (sp_ofStr K CP C) := by
  refine ok_of D sc_places_of_stretches (fun vs H Q E h => ?_) (fun f cdv A outer s H vs Q E hr h => ?_)
  · obtain ⟨S, e, l, xs, ps, B, L, rfl, _⟩ := h
    rfl
  · obtain ⟨S, e, l, xs, ps, B, L, rfl, ho, he, l4, hl, hp, ok, q⟩ := h
    refine ⟨_, (pss_one (ps_ret (C8.pe_mk c_Places hr (by decide) (by rfl) (pa_cons (pv 0) (pa_cons (pe_cl c_runs_of hr (by decide) (by rfl) (pa_cons (pe_cl c_numbers_in hr (by decide) (by rfl) (pa_cons (pv 1) pa_nil)) pa_nil)) pa_nil))))), ?_⟩
    have bnd : ∀ s ∈ ps, 0 ≤ s.1 ∧ s.1 ≤ s.2 ∧ s.2 < 1000 := fun s hs => by
      have := ok s hs
      omega
    refine ⟨_, rfl, _, rfl, l, xs, ps, rfl, hl, hp, bnd, fun k N H1 S1 hk ek nm => ?_⟩
    have lN := nm.len fun s hs => by
      have := bnd s hs
      omega
    have lN4 : (N.length : Int) ≤ 400 := by
      have := rise_len N 0 ((plOf B).length : Nat) nm.pw fun z hz => by
        obtain ⟨s, a, b⟩ := (nm.mem z).mp hz
        have := ok s a
        omega
      omega
    refine ⟨S, k, N, rfl, ho.same S1, .inl (.inl ek), lN, fun k2 rows H2 S2 hk2 ek2 ar => ?_⟩
    obtain ⟨r1, r2, _⟩ := runs_last nm.pw
    have S12 := S1.trans S2
    have lR : (runsD N).length ≤ N.length := by
      have := runsD_len N []
      unfold runsD
      simp at *
      omega
    have okR : okPrs ((plOf B).length : Nat) (runsD N) := ⟨by omega, fun s hs => by
      have a := r2 s hs
      obtain ⟨t, ht, c1⟩ := (nm.mem s.1).mp ((r1.mem s.1).mpr ⟨s, hs, Int.le_refl _, a⟩)
      obtain ⟨u, hu, c2⟩ := (nm.mem s.2).mp ((r1.mem s.2).mpr ⟨s, hs, a, Int.le_refl _⟩)
      have k1 := ok t ht
      have k2 := ok u hu
      omega⟩
    have pr := all_prs ar
    exact fun x dx hx hdx ne => mk_pcI (S := S) (o := some (runsD N)) (ho.same S12) (he.bt (Same.btS S12)) l4 ⟨k2, rows, rfl, .inl ek2, pr.1, pr.2⟩ okR hx hdx ne fun H3 N2 S3 n2 pc => ⟨rfl, by
      have e2 : N2 = N := rise_ext n2.pw nm.pw fun z => by rw [n2.mem, r1.mem]; exact Iff.rfl
      rw [e2] at pc
      exact q x N H3 (S12.trans S3) (Same.fresh S12 hx) nm pc⟩
theorem ok_ofNum {CP C : Addr} (T : Txt K mg) (c_places_of_stretches : Cl P w K mg base 7 "places_of_stretches" ["edition", "stretches"] (sp_ofStr K CP C)) (D : Df K mg "places_of_numbers" s_places_of_numbers ["edition", "numbers"]) : Cl P w K mg base 8 "places_of_numbers" ["edition", "numbers"] (sp_ofNum K CP C) := by
  refine ok_of D sc_places_of_numbers (fun vs H Q E h => ?_) (fun f cdv A outer s H vs Q E hr h => ?_)
  · obtain ⟨S, e, l, M, B, L, rfl, _⟩ := h
    rfl
  · obtain ⟨S, e, l, M, B, L, rfl, ho, he, l4, hl, lM, ok, q⟩ := h
    refine ⟨_, (pss_one (ps_ret (pe_cl c_places_of_stretches hr (by decide) (by rfl) (pa_cons (pv 0) (pa_cons (pe_lc (own := [("number", 2)]) rfl sc_places_of_numbers.nd (pi_list (pv 1)) (blkOk_by (own := [("number", 2)]) (N := N_places_of_numbers) (sc := defScope s_places_of_numbers) (by decide +kernel)) (fun _ _ _ _ _ => (pg_name (i := 2) sc_places_of_numbers.nd rfl (.inl rfl))) (fun _ _ _ _ _ => pts_nil) (fun _ _ _ _ _ => (pe_tup (pa_cons (pv 2) (pa_cons (pv 2) pa_nil))))) pa_nil))))), ?_⟩
    refine ⟨_, rfl, _, rfl, l, rfl, ⟨_, hl⟩, fun k hk => ?_⟩
    refine lc_it (walk_list (xs := M.map V.int)) (fun i H' => ∃ rows : List V, LcS S H k rows (((M.take i).map fun z => (z, z)).map prD) H') ⟨[], LcS.start hk⟩ (fun i H' _ ⟨_, c⟩ => c.s.seq hl) ?_ ?_
    · rintro i y H1x H1 hi ⟨rows, c⟩ ⟨rfl, hy⟩
      rw [List.length_map] at hi
      have hz : M[i]? = some M[i] := List.getElem?_eq_getElem hi
      rw [List.getElem?_map, hz] at hy
      cases hy
      have lr : rows.length ≤ i := by
        rw [c.len, List.length_map, List.length_map, List.length_take]
        omega
      refine ⟨rfl, _, rfl, _, rfl, by show 2 ≤ sizeLine; decide, fun t ht => ?_⟩
      have c2 := c.keep (same_new (o := .tup [.int M[i], .int M[i]]) ht)
      refine ⟨rows, c2.at_, sz1000 (by omega), rows ++ [.ref t], ?_⟩
      rw [List.take_add_one, hz, List.map_append, List.map_append]
      exact c2.step (.ofpair ((c.occ ho).free ht) upd_same)
    · rintro H1 ⟨rows, c⟩
      rw [List.length_map, List.take_length] at c
      refine ⟨S, e, k, rows, M.map fun z => (z, z), B, L, rfl, ho.same c.s, he.bt (Same.btS c.s), l4, .inl (.inl c.at_), all_prs c.done, fun s hs => ?_, fun y N H' s' hy nm pc => ?_⟩
      · obtain ⟨z, hz, rfl⟩ := List.mem_map.mp hs
        have := ok z hz
        exact ⟨this.1, Int.le_refl _, this.2⟩
      · refine q y N H' (c.s.trans s') (Same.fresh c.s hy) nm.pw (fun z => ?_) pc
        rw [nm.mem]
        constructor
        · rintro ⟨s, hs, a, b⟩
          obtain ⟨u, hu, rfl⟩ := List.mem_map.mp hs
          have e2 : z = u := by dsimp only at a b; omega
          rw [e2]
          exact hu
        · exact fun hz => ⟨(z, z), List.mem_map_of_mem hz, Int.le_refl _, Int.le_refl _⟩
theorem ok_isPl {CP C : Addr} (T : Txt K mg) (OP : OwnK K CP) (kkP : PySem.W.kitOne K (.ref CP) (.ref CP) = some true) (gCP : ∃ u, mg "Places" = some u ∧ RelV (.ref CP) u) (m_edition : C8.Met P w K mg base 2 CP "edition" (sp_pcEd CP) []) (m_same : C8.Met P w K mg base 4 C "same" (sp_same C) []) (D : Df K mg "is_places_of" s_is_places_of ["edition", "thing"]) : Cl P w K mg base 5 "is_places_of" ["edition", "thing"] (sp_isPl CP C) := by
  refine ok_of D sc_is_places_of (fun vs H Q E h => ?_) (fun f cdv A outer s H vs Q E hr h => ?_)
  · obtain ⟨S, e, y, e2, N, B, L, rfl, _⟩ := h
    rfl
  · obtain ⟨S, e, y, e2, N, B, L, rfl, ho, he, hp, he2, lL, nm, q⟩ := h
    refine ⟨_, (pss_one (ps_ret (pe_and (pe_callB call_isb (by rfl) T.b_isinstance (by decide +kernel) (pa_cons (pv 1) (pa_cons (C8.pe_gc (by rfl) gCP) pa_nil))) (pe_one (C8.pe_mt m_same hr (by decide) (pv 0) (pa_cons (C8.pe_mt0 m_edition hr (by decide) (pv 1)) pa_nil)))))), ?_⟩
    obtain ⟨w1, hw1⟩ := id hp
    obtain ⟨w2, hw2⟩ := id he
    refine ⟨.ref y, rfl, .inl ⟨.ref y, .ref CP, _, _, true, rfl, .own CP, .base (.ins hw1.at_ OP.cl OP.ha OP.hn OP.htk OP.hm), kkP, _, rfl, ite2 (fun _ => ?_) (fun z => absurd rfl z)⟩⟩
    refine ⟨.ref e, rfl, e, _, _, rfl, hw2.at_, rfl, .ref y, rfl, y, _, _, rfl, hw1.at_, rfl, S, y, e2, N, rfl, hp, ?_⟩
    refine ⟨S, e, e2, B, B, L, L, rfl, ho, he, he2, lL, lL, nm, nm, fun H1 S1 => ?_⟩
    rw [eqv_told B nm, decide_eq_true rfl]
    exact q H1 S1
end
end My
set_option Elab.async false
set_option linter.all false
set_option maxRecDepth 100000
set_option maxHeartbeats 4000000
namespace My
open PySem PySem.Spec PyProof.Rows L2
/-! P5: joined, met, without, apart, rest, within. -/
/-- two sets of places of one edition, told twice perhaps -/
structure Two (S : Av) (H : Hp) (CP C x y e e2 : Addr) (N M : List Int) (B : Bks) (L : List Int) : Prop where
  occ : Occ S H
  x : PcAt S H CP x e N
  y : PcAt S H CP y e2 M
  e : EdAt S H C e B L
  e2 : EdAt S H C e2 B L
  lL : L.length ≤ 1000
  nm : ∀ b ∈ B, okName b.1
  l4 : (plOf B).length ≤ 400
  nN : ∀ z ∈ N, 0 ≤ z ∧ z < ((plOf B).length : Nat)
  nM : ∀ z ∈ M, 0 ≤ z ∧ z < ((plOf B).length : Nat)
  pN : N.Pairwise (· < ·)
  pM : M.Pairwise (· < ·)
theorem Two.same {S : Av} {H H' : Hp} {CP C x y e e2 : Addr} {N M : List Int} {B : Bks} {L : List Int} (h : Two S H CP C x y e e2 N M B L) (z : Same H H') : Two S H' CP C x y e e2 N M B L :=
  { h with occ := h.occ.same z, x := h.x.bt (Same.btS z), y := h.y.bt (Same.btS z), e := h.e.bt (Same.btS z), e2 := h.e2.bt (Same.btS z) }
theorem Two.swap {S : Av} {H : Hp} {CP C x y e e2 : Addr} {N M : List Int} {B : Bks} {L : List Int} (h : Two S H CP C x y e e2 N M B L) : Two S H CP C y x e2 e M N B L :=
  ⟨h.occ, h.y, h.x, h.e2, h.e, h.lL, h.nm, h.l4, h.nM, h.nN, h.pM, h.pN⟩
theorem rise_le {N : List Int} {n : Nat} (p : N.Pairwise (· < ·)) (h : ∀ z ∈ N, 0 ≤ z ∧ z < (n : Int)) : N.length ≤ n := by
  have := rise_len N 0 n p h
  omega
def sp_chkO (CP C : Addr) : Sp := fun vs H Q _ => ∃ (S : Av) (x y e e2 : Addr) (N M : List Int) (B : Bks) (L : List Int), vs = [.ref x, .ref y] ∧ Two S H CP C x y e e2 N M B L ∧ ∀ H', Same H H' → Q .non H'
/-- what is made of two: places of x's edition, of the numbers that p asks -/
def sp_deed (CP C : Addr) (p : List Int → List Int → Int → Prop) : Sp := fun vs H Q _ => ∃ (S : Av) (x y e e2 : Addr) (N M : List Int) (B : Bks) (L : List Int), vs = [.ref x, .ref y] ∧ Two S H CP C x y e e2 N M B L ∧ ∀ v R H', Same H H' → H v = none → R.Pairwise (· < ·) → (∀ z, z ∈ R ↔ p N M z) → PcAt S H' CP v e R → Q (.ref v) H'
section
variable {P : Program} {w : World} {K : PySem.W.Frag} {mg : Str → Option Value} {base : Heap}
theorem ok_chkO {CP C f : Addr} {fd : FuncData} (T : Txt K mg) (PC : PlC K CP) (c_is_places_of : Cl P w K mg base 5 "is_places_of" ["edition", "thing"] (sp_isPl CP C)) (F : Fun K "_check_other" "Places._check_other" s_Places__check_other f fd) : FnOk P w K mg base CX0 6 f fd ["self", "other"] (sp_chkO CP C) := by
  refine F.ok sc_Places__check_other (fun vs H Q E h => ?_) (fun cdv A outer s H vs Q E hr h => ?_)
  · obtain ⟨S, x, y, e, e2, N, M, B, L, rfl, _⟩ := h
    rfl
  · obtain ⟨S, x, y, e, e2, N, M, B, L, rfl, t, q⟩ := h
    refine ⟨_, (pss_one (ps_if (pt_not (pt_val (pe_cl c_is_places_of hr (by decide) (by rfl) (pa_cons (pe_fld (pv 0) rfl) (pa_cons (pv 1) pa_nil))))) (pss_one ps_never) pss_nil)), ?_⟩
    obtain ⟨w, h⟩ := id t.x
    exact ⟨.ref x, rfl, x, CP, _, _, _, rfl, h.at_, PC.cl, PC.n1, rfl, _, rfl, S, e, y, e2, M, B, L, rfl, t.occ, t.e, t.y, t.e2, t.lL, t.nm, fun H1 S1 => ⟨_, rfl, ite2 (fun z => absurd z (by decide)) fun _ => q H1 S1⟩⟩
theorem ok_without {CP C f : Addr} {fd : FuncData} (T : Txt K mg) (PC : PlC K CP) (c_places_of_numbers : Cl P w K mg base 8 "places_of_numbers" ["edition", "numbers"] (sp_ofNum K CP C)) (m__check_other : C8.Met P w K mg base 6 CP "_check_other" (sp_chkO CP C) []) (m_has : C8.Met P w K mg base 2 CP "has" (sp_pcHas K CP) []) (F : Fun K "without" "Places.without" s_Places_without f fd) : FnOk P w K mg base CX0 9 f fd ["self", "other"] (sp_deed CP C fun N M z => z ∈ N ∧ z ∉ M) := by
  refine F.ok sc_Places_without (fun vs H Q E h => ?_) (fun cdv A outer s H vs Q E hr h => ?_)
  · obtain ⟨S, x, y, e, e2, N, M, B, L, rfl, _⟩ := h
    rfl
  · obtain ⟨S, x, y, e, e2, N, M, B, L, rfl, t, q⟩ := h
    refine ⟨_, (pss_cons (ps_expr (C8.pe_mt m__check_other hr (by decide) (pv 0) (pa_cons (pv 1) pa_nil)))
      (pss_one (ps_ret (pe_cl c_places_of_numbers hr (by decide) (by rfl) (pa_cons (pe_fld (pv 0) rfl) (pa_cons (pe_lc (own := [("number", 2)]) rfl sc_Places_without.nd (pi_list (pe_fld (pv 0) rfl)) (blkOk_by (own := [("number", 2)]) (N := N_Places_without) (sc := defScope s_Places_without) (by decide +kernel)) (fun _ _ _ _ _ => (pg_name (i := 2) sc_Places_without.nd rfl (.inl rfl))) (fun _ _ _ _ _ => (pts_one (pt_not (pt_val (C8.pe_mt m_has hr (by decide) (pv 1) (pa_cons (pv 2) pa_nil)))))) (fun _ _ _ _ _ => (pv 2))) pa_nil)))))), ?_⟩
    obtain ⟨wx, hx⟩ := id t.x
    refine ⟨.ref x, rfl, x, _, _, rfl, hx.at_, rfl, _, rfl, S, x, y, e, e2, N, M, B, L, rfl, t, fun H1 S1 => ?_⟩
    have t1 := t.same S1
    obtain ⟨wx, hx⟩ := id t1.x
    have lN := rise_le t1.pN t1.nN
    have l4 := t1.l4
    refine ⟨.ref x, rfl, x, CP, _, _, _, rfl, hx.at_, PC.cl, PC.n1, rfl, .ref x, rfl, x, CP, _, _, _, rfl, hx.at_, PC.cl, PC.n2, rfl, wx.dn, rfl, ⟨_, .inl (.inl hx.h1)⟩, fun k hk => ?_⟩
    refine lc_it (walk_list (xs := N.map V.int)) (fun i H' => Same H1 H' ∧ H' k = some (.lst (((N.take i).filter fun z => !decide (z ∈ M)).map V.int))) ⟨same_new hk, upd_same⟩ (fun i H' _ ⟨z, _⟩ => .inl (.inl (z _ _ hx.h1))) ?_ ?_
    · rintro i y0 H2x H2 hi ⟨S2, ek⟩ ⟨rfl, hy0⟩
      rw [List.length_map] at hi
      obtain ⟨z, hz⟩ : ∃ z, N[i]? = some z := ⟨_, List.getElem?_eq_getElem hi⟩
      rw [List.getElem?_map, hz] at hy0
      cases hy0
      have t2 := t1.same S2
      obtain ⟨wy, hy⟩ := id t2.y
      have ef : (N.take (i + 1)).filter (fun z => !decide (z ∈ M)) = (N.take i).filter (fun z => !decide (z ∈ M)) ++ (if (!decide (z ∈ M)) = true then [z] else []) := by
        rw [List.take_add_one, hz, List.filter_append]
        congr 1
        show [z].filter _ = _
        rw [List.filter_cons, List.filter_nil]
      have lf : ((N.take i).filter (fun z => !decide (z ∈ M))).length ≤ N.length := Nat.le_trans (List.length_filter_le ..) (by rw [List.length_take]; omega)
      refine ⟨rfl, .ref y, rfl, y, _, _, rfl, hy.at_, rfl, _, rfl, S, y, e2, M, .int z, rfl, t2.y, .int _, _, rfl, ite2 (fun c => ?_) (fun c => ?_)⟩
      · rw [ef, if_pos (show (!decide (z ∈ M)) = true from c)]
        refine ⟨_, rfl, _, ek, Evl.sz_lt (by rw [List.length_map]; omega), ?_, ?_⟩
        · exact fun b o eo => by
            rw [upd_ne (ne_of_none eo hk)]
            exact S2 b o eo
        · rw [upd_same, List.map_append]
          rfl
      · rw [ef, if_neg (show ¬ (!decide (z ∈ M)) = true from c), List.append_nil]
        exact ⟨S2, ek⟩
    · rintro H2 ⟨S2, ek⟩
      rw [List.length_map, List.take_length] at ek
      have t2 := t1.same S2
      have lf : (N.filter (fun z => !decide (z ∈ M))).length ≤ N.length := List.length_filter_le ..
      refine ⟨S, e, k, N.filter (fun z => !decide (z ∈ M)), B, L, rfl, t2.occ, t2.e, l4, .inl (.inl ek), by omega, fun z hz => t1.nN z (List.mem_filter.mp hz).1, fun v R H' s' hv pw mem pc => ?_⟩
      exact q v R H' ((S1.trans S2).trans s') (Same.fresh (S1.trans S2) hv) pw (fun z => by
        rw [mem, List.mem_filter]
        rw [Bool.not_eq_true', decide_eq_false_iff_not]) pc
end
end My
set_option Elab.async false
set_option linter.all false
set_option maxRecDepth 100000
set_option maxHeartbeats 4000000
namespace My
open PySem PySem.Spec PyProof.Rows L2
/-! P6: apart, all of an edition, rest, within. -/
def sp_allOf (CP C : Addr) : Sp := fun vs H Q _ => ∃ (S : Av) (e : Addr) (B : Bks) (L : List Int), vs = [.ref e] ∧ Occ S H ∧ EdAt S H C e B L ∧ (plOf B).length ≤ 400 ∧ 1 ≤ (plOf B).length ∧ ∀ v R H', Same H H' → H v = none → R.Pairwise (· < ·) → (∀ z : Int, z ∈ R ↔ 0 ≤ z ∧ z < ((plOf B).length : Nat)) → PcAt S H' CP v e R → Q (.ref v) H'
def sp_rest (CP C : Addr) : Sp := fun vs H Q _ => ∃ (S : Av) (x e : Addr) (N : List Int) (B : Bks) (L : List Int), vs = [.ref x] ∧ Two S H CP C x x e e N N B L ∧ 1 ≤ (plOf B).length ∧ ∀ v R H', Same H H' → H v = none → R.Pairwise (· < ·) → (∀ z : Int, z ∈ R ↔ (0 ≤ z ∧ z < ((plOf B).length : Nat)) ∧ z ∉ N) → PcAt S H' CP v e R → Q (.ref v) H'
def sp_within (CP C : Addr) : Sp := fun vs H Q _ => ∃ (S : Av) (x y e e2 : Addr) (N M : List Int) (B : Bks) (L : List Int), vs = [.ref x, .ref y] ∧ Two S H CP C x y e e2 N M B L ∧ ∀ H', Same H H' → Q (.bl (N.all fun z => decide (z ∈ M))) H'
section
variable {P : Program} {w : World} {K : PySem.W.Frag} {mg : Str → Option Value} {base : Heap}
theorem ok_allOf {CP C : Addr} (T : Txt K mg) (c_check_edition : Cl P w K mg base 2 "check_edition" ["thing"] (sp_chkEd C)) (c_Places : C8.Mak P w K mg base 5 "Places" CP (sp_initP CP C) []) (m_size : C8.Met P w K mg base 2 C "size" (sp_size C) []) (D : Df K mg "all_of" s_all_of ["edition"]) : Cl P w K mg base 7 "all_of" ["edition"] (sp_allOf CP C) := by
  refine ok_of D sc_all_of (fun vs H Q E h => ?_) (fun f cdv A outer s H vs Q E hr h => ?_)
  · obtain ⟨S, e, B, L, rfl, _⟩ := h
    rfl
  · obtain ⟨S, e, B, L, rfl, ho, he, l4, l1, q⟩ := h
    refine ⟨_, (pss_cons (ps_expr (pe_cl c_check_edition hr (by decide) (by rfl) (pa_cons (pv 0) pa_nil)))
      (pss_one (ps_ret (C8.pe_mk c_Places hr (by decide) (by rfl) (pa_cons (pv 0) (pa_cons (pe_lst (pa_cons (pe_tup (pa_cons pe_int (pa_cons (pe_op op_sub (C8.pe_mt0 m_size hr (by decide) (pv 0)) pe_int) pa_nil))) pa_nil)) pa_nil)))))), ?_⟩
    obtain ⟨we, hwe⟩ := id he
    refine ⟨.ref e, rfl, S, e, B, L, rfl, he, ?_⟩
    refine ⟨.ref e, rfl, .ref e, rfl, e, _, _, rfl, hwe.at_, rfl, S, e, B, L, rfl, he, _, 1, rfl, rfl, by show 2 ≤ sizeLine; decide, fun t1 ht1 => ⟨by show 1 ≤ sizeLine; decide, fun l1 hl1 => fun x dx hx hdx ne => ?_⟩⟩
    have Sl1 := same_new (o := .lst [.ref t1]) hl1
    have SB := (same_new (o := .tup [.int 0, .int (((plOf B).length : Nat) - 1)]) ht1).trans Sl1
    refine mk_pcI (S := S) (o := some [(0, (((plOf B).length : Nat) : Int) - 1)]) (ho.same SB) (he.bt (Same.btS SB)) l4 ⟨l1, [.ref t1], rfl, .inl upd_same, rfl, fun i x s h1 h2 => ?_⟩ ⟨by show 1 ≤ 400; decide, fun s hs => ?_⟩ hx hdx ne fun HE N SE nm pc => ⟨rfl, ?_⟩
    · have hi : i < 1 := (List.getElem?_eq_some_iff.mp h1).1
      have : i = 0 := by omega
      subst this
      cases h1
      cases h2
      exact ⟨t1, rfl, Sl1 _ _ upd_same⟩
    · cases List.mem_singleton.mp hs
      show (0 : Int) ≤ 0 ∧ (0 : Int) ≤ (((plOf B).length : Nat) : Int) - 1 ∧ (((plOf B).length : Nat) : Int) - 1 < ((plOf B).length : Nat)
      omega
    · refine q x N HE (SB.trans SE) (Same.fresh SB hx) nm.pw (fun z => ?_) pc
      rw [nm.mem]
      constructor
      · rintro ⟨s, hs, a, b⟩
        cases List.mem_singleton.mp hs
        dsimp only at a b
        omega
      · exact fun h => ⟨_, List.mem_singleton.mpr rfl, h.1, by dsimp only; omega⟩
theorem ok_rest {CP C f : Addr} {fd : FuncData} (T : Txt K mg) (PC : PlC K CP) (c_all_of : Cl P w K mg base 7 "all_of" ["edition"] (sp_allOf CP C)) (m_without : C8.Met P w K mg base 9 CP "without" (sp_deed CP C fun N M z => z ∈ N ∧ z ∉ M) []) (F : Fun K "rest" "Places.rest" s_Places_rest f fd) : FnOk P w K mg base CX0 10 f fd ["self"] (sp_rest CP C) := by
  refine F.ok sc_Places_rest (fun vs H Q E h => ?_) (fun cdv A outer s H vs Q E hr h => ?_)
  · obtain ⟨S, x, e, N, B, L, rfl, _⟩ := h
    rfl
  · obtain ⟨S, x, e, N, B, L, rfl, t, l1, q⟩ := h
    refine ⟨_, (pss_one (ps_ret (C8.pe_mt m_without hr (by decide) (pe_cl c_all_of hr (by decide) (by rfl) (pa_cons (pe_fld (pv 0) rfl) pa_nil)) (pa_cons (pv 0) pa_nil)))), ?_⟩
    obtain ⟨wx, hx⟩ := id t.x
    refine ⟨.ref x, rfl, x, CP, _, _, _, rfl, hx.at_, PC.cl, PC.n1, rfl, S, e, B, L, rfl, t.occ, t.e, t.l4, l1, fun v1 R1 H1 S1 hv1 p1 m1 c1 => ?_⟩
    obtain ⟨wv, hv⟩ := id c1
    have t1 := t.same S1
    refine ⟨v1, _, _, rfl, hv.at_, rfl, _, rfl, S, v1, x, e, e, R1, N, B, L, rfl, { t1 with x := c1, nN := fun z hz => (m1 z).mp hz, pN := p1 }, fun v R H' s' hv pw mem pc => ?_⟩
    exact q v R H' (S1.trans s') (Same.fresh S1 hv) pw (fun z => by
      rw [mem]
      show (z ∈ R1 ∧ z ∉ N) ↔ _
      rw [m1]) pc
theorem ok_within {CP C f : Addr} {fd : FuncData} (T : Txt K mg) (PC : PlC K CP) (m__check_other : C8.Met P w K mg base 6 CP "_check_other" (sp_chkO CP C) []) (m_has : C8.Met P w K mg base 2 CP "has" (sp_pcHas K CP) []) (F : Fun K "within" "Places.within" s_Places_within f fd) : FnOk P w K mg base CX0 9 f fd ["self", "other"] (sp_within CP C) := by
  refine F.ok sc_Places_within (fun vs H Q E h => ?_) (fun cdv A outer s H vs Q E hr h => ?_)
  · obtain ⟨S, x, y, e, e2, N, M, B, L, rfl, _⟩ := h
    rfl
  · obtain ⟨S, x, y, e, e2, N, M, B, L, rfl, t, q⟩ := h
    refine ⟨_, (pss_cons (ps_expr (C8.pe_mt m__check_other hr (by decide) (pv 0) (pa_cons (pv 1) pa_nil)))
      (pss_one (ps_ret (pe_callB (cr_all rfl) (by rfl) T.b_all (by decide +kernel) (pa_cons (pe_lc (own := [("number", 2)]) rfl sc_Places_within.nd (pi_list (pe_fld (pv 0) rfl)) (blkOk_by (own := [("number", 2)]) (N := N_Places_within) (sc := defScope s_Places_within) (by decide +kernel)) (fun _ _ _ _ _ => (pg_name (i := 2) sc_Places_within.nd rfl (.inl rfl))) (fun _ _ _ _ _ => pts_nil) (fun _ _ _ _ _ => (C8.pe_mt m_has hr (by decide) (pv 1) (pa_cons (pv 2) pa_nil)))) pa_nil))))), ?_⟩
    obtain ⟨wx0, hx0⟩ := id t.x
    refine ⟨.ref x, rfl, x, _, _, rfl, hx0.at_, rfl, _, rfl, S, x, y, e, e2, N, M, B, L, rfl, t, fun H1 S1 => ?_⟩
    have t1 := t.same S1
    obtain ⟨wx, hx⟩ := id t1.x
    have lN := rise_le t1.pN t1.nN
    have l4 := t1.l4
    refine ⟨.ref x, rfl, x, CP, _, _, _, rfl, hx.at_, PC.cl, PC.n2, rfl, wx.dn, rfl, ⟨_, .inl (.inl hx.h1)⟩, fun k hk => ?_⟩
    refine lc_it (walk_list (xs := N.map V.int)) (fun i H' => Same H1 H' ∧ H' k = some (.lst (((N.take i).map fun z => decide (z ∈ M)).map V.bl))) ⟨same_new hk, upd_same⟩ (fun i H' _ ⟨z, _⟩ => .inl (.inl (z _ _ hx.h1))) ?_ ?_
    · rintro i y0 H2x H2 hi ⟨S2, ek⟩ ⟨rfl, hy0⟩
      rw [List.length_map] at hi
      obtain ⟨z, hz⟩ : ∃ z, N[i]? = some z := ⟨_, List.getElem?_eq_getElem hi⟩
      rw [List.getElem?_map, hz] at hy0
      cases hy0
      have t2 := t1.same S2
      obtain ⟨wy, hy⟩ := id t2.y
      refine ⟨rfl, .ref y, rfl, y, _, _, rfl, hy.at_, rfl, _, rfl, S, y, e2, M, .int z, rfl, t2.y, .int _, _, ek, Evl.sz_lt ?_, ?_, ?_⟩
      · rw [List.length_map, List.length_map, List.length_take]
        omega
      · exact fun b o eo => by
          rw [upd_ne (ne_of_none eo hk)]
          exact S2 b o eo
      · rw [upd_same, List.take_add_one, hz, List.map_append, List.map_append]
        rfl
    · rintro H2 ⟨S2, ek⟩
      rw [List.length_map, List.take_length] at ek
      refine ⟨k, _, rfl, .inl (.inl ek), ?_⟩
      have ea : (N.map fun z => decide (z ∈ M)).all id = N.all fun z => decide (z ∈ M) := by
        rw [List.all_map]
        rfl
      rw [ea]
      exact q H2 (S1.trans S2)
end
end My
set_option Elab.async false
set_option linter.all false
set_option maxRecDepth 100000
set_option maxHeartbeats 4000000
namespace My
open PySem PySem.Spec PyProof.Rows L2
def prtV (L : List Int) : V → V
  | .int z => if whole (.int z) 0 9999 = true then (valV (numD L) (Sum.inl z)).getD .non else .non
  | _ => .non
def sp_partOf (K : PySem.W.Frag) (C : Addr) : Sp := fun vs H Q _ => ∃ (S : Av) (e : Addr) (B : Bks) (L : List Int) (x : V), vs = [.ref e, x] ∧ EdAt S H C e B L ∧ Th K H x ∧ Q (prtV L x) H
section
variable {P : Program} {w : World} {K : PySem.W.Frag} {mg : Str → Option Value} {base : Heap}
theorem ok_partOf {C f : Addr} {fd : FuncData} (T : Txt K mg) (EC : EdC K C) (c_is_whole : Cl P w K mg base 2 "is_whole" ["thing", "low", "high"] (sp_whole K)) (F : Fun K "part_of" "Edition.part_of" s_Edition_part_of f fd) : FnOk P w K mg base CX0 3 f fd ["self", "thing"] (sp_partOf K C) := by
  refine F.ok sc_Edition_part_of (fun vs H Q E h => ?_) (fun cdv A outer s H vs Q E hr h => ?_)
  · obtain ⟨S, e, B, L, x, rfl, _⟩ := h
    rfl
  · obtain ⟨S, e, B, L, x, rfl, h, hx, q⟩ := h
    refine ⟨_, (pss_cons (ps_if (pt_not (pt_val (pe_cl c_is_whole hr (by decide) (by rfl) (pa_cons (pv 1) (pa_cons pe_int (pa_cons (C8.pe_gc (by rfl) T.g_LAST_LINE) pa_nil)))))) (pss_one (ps_ret pe_non)) pss_nil)
      (pss_one (ps_ret (pe_dget1 (hu_of hr) (pe_fld (pv 0) rfl) (pv 1) ⟨rfl, rfl, rfl, rfl⟩)))), ?_⟩
    obtain ⟨w, hw⟩ := id h
    refine ⟨_, rfl, x, 0, 9999, rfl, hx, _, rfl, ?_⟩
    cases ew : whole x 0 9999 with
    | true =>
      refine ite2 (fun z => absurd z (by decide)) fun _ => ?_
      cases x with
      | int z =>
        have q : Q (if whole (.int z) 0 9999 = true then (valV (numD L) (Sum.inl z)).getD .non else .non) H := q
        rw [if_pos ew] at q
        exact ⟨.ref e, rfl, e, C, _, _, _, rfl, hw.at_, EC.cl, EC.n6, rfl, _, rfl, .inl ⟨_, .inl hw.h6⟩, _, rfl, _, DGet.k (k := Sum.inl z) hw.h6, q⟩
      | _ => exact absurd ew Bool.false_ne_true
    | false =>
      refine ite2 (fun _ => ?_) fun z => absurd rfl z
      cases x with
      | int z =>
        have q : Q (if whole (.int z) 0 9999 = true then (valV (numD L) (Sum.inl z)).getD .non else .non) H := q
        rw [if_neg (by rw [ew]; exact Bool.false_ne_true)] at q
        exact q
      | _ => exact q
end
end My
set_option Elab.async false
set_option linter.all false
set_option maxRecDepth 100000
set_option maxHeartbeats 4000000
namespace My
open PySem PySem.Spec PyProof.Rows L2
theorem num_val {L : List Int} (nd : L.Nodup) {i : Nat} {z : Int} (h : L[i]? = some z) : valV (numD L) (Sum.inl z : Key) = some (.int (i : Nat)) := by
  have e : ∀ n, i < n → valV (numD (L.take n)) (Sum.inl z : Key) = some (.int (i : Nat)) := by
    intro n
    induction n with
    | zero => intro h; omega
    | succ n ih =>
      intro hn
      by_cases q : n < L.length
      · have hq : L[n]? = some L[n] := List.getElem?_eq_getElem q
        have new : valV (numD (L.take n)) (Sum.inl L[n] : Key) = none := by
          refine val_no ?_
          rw [numD_keys]
          intro y
          obtain ⟨z', hz', e'⟩ := List.mem_map.mp y
          rw [Sum.inl.inj e'] at hz'
          exact nodup_take_not nd hq hz'
        rw [numD_succ hq, valV_snoc _ _ _ _ new]
        by_cases e : i = n
        · subst e
          rw [hq] at h
          cases h
          rw [if_pos rfl]
        · rw [if_neg (fun y => ?_), ih (by omega)]
          have y := Sum.inl.inj y
          rw [y] at h
          exact e ((List.getElem?_inj (i := i) (List.getElem?_eq_some_iff.mp h).1 nd).mp (h.trans hq.symm))
      · rw [List.take_of_length_le (by omega), ← List.take_of_length_le (l := L) (i := n) (by omega)]
        exact ih (by have := (List.getElem?_eq_some_iff.mp h).1; omega)
  have := e L.length (List.getElem?_eq_some_iff.mp h).1
  rwa [List.take_length] at this
theorem num_no {L : List Int} {z : Int} (h : z ∉ L) : valV (numD L) (Sum.inl z : Key) = none := by
  refine val_no ?_
  rw [numD_keys]
  intro y
  obtain ⟨z', hz', e'⟩ := List.mem_map.mp y
  rw [Sum.inl.inj e'] at hz'
  exact h hz'
end My
set_option Elab.async false
set_option linter.all false
set_option maxRecDepth 100000
set_option maxHeartbeats 4000000
namespace My
open PySem PySem.Spec PyProof.Rows L2
def sp_cellAt (K : PySem.W.Frag) : Sp := fun vs H Q _ => ∃ (a : Addr) (ns : List Int) (k : Int), vs = [.ref a, .int k] ∧ SqL K H a (ns.map V.int) ∧ 0 ≤ k ∧ ∀ z, Q (.int z) H
def sp_row : Sp := fun vs H Q _ => ∃ (c : Int) (m : Nat) (sl : Int), vs = [.int c, .int (m : Nat), .int sl] ∧ m ≤ 1000 ∧ 0 ≤ sl ∧ sl ≤ 100000 ∧
  ∀ (ns : List Int) l H', ns.length = m → (∀ z ∈ ns, 0 ≤ z ∧ z < 134217728) → H l = none → Same H H' → H' l = some (.lst (ns.map V.int)) → Q (.ref l) H'
section
variable {P : Program} {w : World} {K : PySem.W.Frag} {mg : Str → Option Value} {base : Heap}
theorem ok_cellAt (T : Txt K mg) (D : Df K mg "_law_cell_at" s__law_cell_at ["script", "k"]) : Cl P w K mg base 2 "_law_cell_at" ["script", "k"] (sp_cellAt K) := by
  refine ok_of D sc__law_cell_at (fun vs H Q E h => ?_) (fun f cdv A outer s H vs Q E hr h => ?_)
  · obtain ⟨a, ns, k, rfl, _⟩ := h
    rfl
  · obtain ⟨a, ns, k, rfl, hS, hk, q⟩ := h
    refine ⟨_, (pss_cons (ps_if (pt_cmpR op_lt (pv 1) (pe_callB call_len (by rfl) T.b_len (by decide +kernel) (pa_cons (pv 0) pa_nil)) (nomark _)) (pss_one (ps_ret (pe_ix ix_list (pv 0) (pv 1) (fun _ _ => rfl)))) pss_nil)
      (pss_one (ps_ret pe_int))), ?_⟩
    refine ⟨.int k, rfl, .ref a, rfl, _, _, rfl, .inl ⟨_, hS, rfl⟩, k, _, rfl, rfl, _, rfl, ite2 (fun e => ?_) (fun e => ?_)⟩
    · have e1 : k < ((ns.map V.int).length : Int) := of_decide_eq_true e
      rw [List.length_map] at e1
      have hj : k.toNat < ns.length := by omega
      have hx : (ns.map V.int)[k.toNat]? = some (.int ns[k.toNat]) := by
        rw [List.getElem?_map, List.getElem?_eq_getElem hj]
        rfl
      exact ⟨.ref a, rfl, .int k, rfl, a, _, k, _, rfl, rfl, hS, at_of (j := k.toNat) (by omega) hx, q _⟩
    · exact q 0
theorem ok_rowL (T : Txt K mg) (D : Df K mg "_law_row" s__law_row ["cell", "many", "salt"]) : Cl P w K mg base 2 "_law_row" ["cell", "many", "salt"] sp_row := by
  refine ok_of D sc__law_row (fun vs H Q E h => ?_) (fun f cdv A outer s H vs Q E hr h => ?_)
  · obtain ⟨c, m, sl, rfl, _⟩ := h
    rfl
  · obtain ⟨c, m, sl, rfl, hm, s0, s1, q⟩ := h
    refine ⟨_, (pss_cons (ps_set (i := 3) sc__law_row.nd rfl (.inl rfl) (pe_lst pa_nil))
      (pss_cons (ps_set (i := 4) sc__law_row.nd rfl (.inl rfl) pe_int)
      (C8.pss_cut (ps_if (pt_cmpR op_ge (pe_callB call_abs (by rfl) T.b_abs (by decide +kernel) (pa_cons (pv 0) pa_nil)) (pe_op op_pow pe_int pe_int) (nomark _)) (pss_one (ps_set (i := 4) sc__law_row.nd rfl (.inl rfl) (pe_callB call_abs (by rfl) T.b_abs (by decide +kernel) (pa_cons (pv 0) pa_nil)))) pss_nil)
      (pss_cons (ps_for PassesOwn.never rfl (pi_range1 (by rfl) T.b_range (pa_cons (pv 1) pa_nil)) (pg_name (i := 5) sc__law_row.nd rfl (.inl rfl))
        (pss_one (ps_if (pt_cmpR op_gt (pv 4) pe_int (nomark _)) (pss_cons (ps_expr (pe_bm PySem.F.plainAttrs_list PySem.F.slot_list_append PySem.F.type_list_append mt_append (pv 3) (pa_cons (pe_op op_mod (pv 4) pe_int) pa_nil)))
          (pss_one (ps_set (i := 4) sc__law_row.nd rfl (.inl rfl) (pe_op op_fdiv (pv 4) pe_int)))) (pss_cons (ps_set (i := 6) sc__law_row.nd rfl (.inl rfl) (pe_op op_add (pe_op op_add (pe_op op_mul (pe_op op_add (pe_op op_mod (pv 0) pe_int) pe_int) (pe_op op_add (pv 2) (pe_op op_mul pe_int (pv 5)))) (pe_op op_mul pe_int (pv 5))) (pv 2)))
          (pss_cons (ps_set (i := 6) sc__law_row.nd rfl (.inl rfl) (pe_op op_mod (pe_op op_pow (pe_op op_mod (pv 6) pe_int) pe_int) pe_int))
          (pss_one (ps_expr (pe_bm PySem.F.plainAttrs_list PySem.F.slot_list_append PySem.F.type_list_append mt_append (pv 3) (pa_cons (pe_op op_fdiv (pe_op op_mod (pe_op op_pow (pe_op op_add (pv 6) (pv 5)) pe_int) pe_int) pe_int) pa_nil)))))))))
      (pss_one (ps_ret (pv 3))))))), ?_⟩
    refine ⟨Nat.zero_le _, fun l hl => ?_⟩
    have S0 := same_new (o := .lst []) hl
    refine ⟨fun σ' H' => ∃ r : Int, σ' = [some (.int c), some (.int (m : Nat)), some (.int sl), some (.ref l), some (.int r), none, none] ∧ 0 ≤ r ∧ H' = upd H l (.lst []), ?_, ?_⟩
    · refine ⟨_, rfl, c, rfl, 10, 18, rfl, rfl, ⟨by decide, by decide, by decide⟩, _, _, rfl, rfl, _, rfl, ite2 (fun e => ?_) (fun e => ?_)⟩
      · exact ⟨_, rfl, c, rfl, _, rfl, by omega, rfl⟩
      · exact ⟨0, rfl, Int.le_refl _, rfl⟩
    · rintro σ H1 ⟨r, rfl, r0, rfl⟩
      refine ⟨_, rfl, _, rfl, by omega, by omega, ?_⟩
      rw [Int.toNat_natCast]
      refine for_range (lo := 0) (n := m) (fun i σ H' => ∃ (r : Int) (ns : List Int) (t5 t6 : Option V), σ = [some (.int c), some (.int (m : Nat)), some (.int sl), some (.ref l), some (.int r), t5, t6] ∧ 0 ≤ r ∧ Same H H' ∧ H' l = some (.lst (ns.map V.int)) ∧ ns.length = i ∧ ∀ z ∈ ns, 0 ≤ z ∧ z < 134217728) ⟨r, [], _, _, rfl, r0, S0, upd_same, rfl, fun _ z => nomatch z⟩ ?_ ?_
      · rintro i σ H2 hi ⟨r, ns, t5, t6, rfl, r0, S2, h2, ln, hz⟩
        have step : ∀ z : Int, 0 ≤ z → z < 134217728 → Same H (upd H2 l (.lst (ns.map V.int ++ [.int z]))) ∧ upd H2 l (.lst (ns.map V.int ++ [.int z])) l = some (.lst ((ns ++ [z]).map V.int)) ∧ (ns ++ [z]).length = i + 1 ∧ ∀ y ∈ ns ++ [z], 0 ≤ y ∧ y < 134217728 := fun z z0 z1 => by
          refine ⟨fun b o e => ?_, by rw [upd_same, List.map_append]; rfl, by rw [List.length_append, ln]; rfl, fun y hy => ?_⟩
          · rw [upd_ne (ne_of_none e hl)]
            exact S2 b o e
          · rcases List.mem_append.mp hy with hy | hy
            · exact hz y hy
            · rw [List.mem_singleton.mp hy]
              exact ⟨z0, z1⟩
        refine ⟨_, rfl, _, _, rfl, rfl, _, rfl, ite2 (fun e => ?_) (fun e => ?_)⟩
        · have c0 := Int.emod_nonneg r (show (1000003 : Int) ≠ 0 by decide)
          have c1 := Int.emod_lt_of_pos r (show (0 : Int) < 1000003 by decide)
          obtain ⟨a1, a2, a3, a4⟩ := step (r % 1000003) c0 (by omega)
          refine ⟨_, rfl, .inl ⟨rfl, _, .inl (.inl h2)⟩, _, rfl, r, 1000003, rfl, rfl, (by show (0 : Int) < 1000003; decide), l, _, _, rfl, rfl, h2, by rw [List.length_map]; exact Evl.sz_lt (by omega), ?_⟩
          exact ⟨_, rfl, r, 1000003, rfl, rfl, ⟨by decide, by decide⟩, _, _, _, _, rfl, Int.ediv_nonneg r0 (by decide), a1, a2, a3, a4⟩
        · have c0 := Int.emod_nonneg c (show (2147483629 : Int) ≠ 0 by decide)
          have c1 := Int.emod_lt_of_pos c (show (0 : Int) < 2147483629 by decide)
          refine ⟨_, rfl, c, 2147483629, rfl, rfl, (by show (0 : Int) < 2147483629; decide), _, 1, rfl, rfl, _, rfl, _, rfl, 48271, _, rfl, rfl, .inl (by decide), _, _, rfl, rfl, _, _, rfl, rfl, .inl ⟨by omega, by omega⟩, _, rfl, 69621, _, rfl, rfl, .inl (by decide), _, _, rfl, rfl, _, rfl, _, _, rfl, rfl, ?_⟩
          refine ⟨_, rfl, _, 2147483647, rfl, rfl, (by show (0 : Int) < 2147483647; decide), _, 5, rfl, rfl, ⟨by decide, by decide, by omega⟩, _, 2147483647, rfl, rfl, (by show (0 : Int) < 2147483647; decide), ?_⟩
          refine ⟨_, rfl, .inl ⟨rfl, _, .inl (.inl h2)⟩, _, rfl, _, rfl, _, _, rfl, rfl, _, 5, rfl, rfl, ⟨by decide, by decide, by omega⟩, _, 2147483629, rfl, rfl, (by show (0 : Int) < 2147483629; decide), _, 16, rfl, rfl, ⟨by decide, by decide⟩, l, _, _, rfl, rfl, h2, by rw [List.length_map]; exact Evl.sz_lt (by omega), ?_⟩
          obtain ⟨a1, a2, a3, a4⟩ := step (((((c % 2147483629 + 1) * (sl + 48271 * (0 + (i : Int))) + 69621 * (0 + (i : Int)) + sl) % 2147483647) ^ Int.toNat 5 % 2147483647 + (0 + (i : Int))) ^ Int.toNat 5 % 2147483629 / 16) (by omega) (by omega)
          exact ⟨_, _, _, _, rfl, r0, a1, a2, a3, a4⟩
      · rintro σ H2 ⟨r, ns, t5, t6, rfl, r0, S2, h2, ln, hz⟩
        exact ⟨_, rfl, q ns l H2 ln hz hl S2 h2⟩
end
end My
set_option Elab.async false
set_option linter.all false
set_option maxRecDepth 100000
set_option maxHeartbeats 4000000
namespace My
open PySem PySem.Spec PyProof.Rows L2
theorem slice_mid {a : List Nat} {i j : Int} (h0 : 0 ≤ i) (h1 : i ≤ j) (h2 : i ≤ a.length) : Txt.slice (SX.S a) (some i) (some j) = SX.S ((a.drop i.toNat).take (j - i).toNat) := by
  rw [← C8.cutS_slice]
  unfold cutS
  have e1 : HT.sIx (SX.S a).length 0 (some i) = i.toNat := by
    rw [SX.S_len]
    show (if i < 0 then _ else min i.toNat _) = _
    rw [if_neg (by omega)]
    omega
  have e2 : HT.sIx (SX.S a).length (SX.S a).length (some j) = min j.toNat a.length := by
    rw [SX.S_len]
    show (if j < 0 then _ else min j.toNat _) = _
    rw [if_neg (by omega)]
  rw [e1, e2]
  show SX.S ((a.drop i.toNat).take (min j.toNat a.length - i.toNat)) = _
  congr 1
  by_cases h : j.toNat ≤ a.length
  · rw [Nat.min_eq_left h]
    congr 1
    omega
  · rw [Nat.min_eq_right (by omega), List.take_of_length_le (by rw [List.length_drop]; omega), List.take_of_length_le (by rw [List.length_drop]; omega)]
/-- the names that the law makes -/
structure NmK (st : List Nat) (at_ : Nat) (ch : Nat → Nat) (tl : Nat → List Nat) : Prop where
  l5 : st.length = 5
  a5 : at_ ≤ 5
  sl : ∀ c ∈ st, c ∈ letters26
  cl : ∀ k, ch k ∈ letters26
  ci : ∀ i j, i < 6 → j < 6 → ch i = ch j → i = j
  ta : ∀ k, ∀ c ∈ tl k, c ∈ letters26
  tn : ∀ k, at_ + 1 + (tl k).length ≤ 6
def nmK (st : List Nat) (at_ : Nat) (ch : Nat → Nat) (tl : Nat → List Nat) (k : Nat) : List Nat := st.take at_ ++ [ch k] ++ tl k
theorem NmK.at_ {st : List Nat} {a : Nat} {ch : Nat → Nat} {tl : Nat → List Nat} (h : NmK st a ch tl) (k : Nat) : (nmK st a ch tl k)[a]? = some (ch k) := by
  unfold nmK
  have := h.a5
  have := h.l5
  rw [List.getElem?_append_left (by rw [List.length_append, List.length_take]; show a < min a st.length + 1; omega), List.getElem?_append_right (by rw [List.length_take]; omega)]
  rw [List.length_take]
  have e : a - min a st.length = 0 := by omega
  rw [e]
  rfl
theorem NmK.ok {st : List Nat} {a : Nat} {ch : Nat → Nat} {tl : Nat → List Nat} (h : NmK st a ch tl) (k : Nat) : okName (nmK st a ch tl k) := by
  have l5 := h.l5
  have a5 := h.a5
  have tn := h.tn k
  refine ⟨?_, ?_, fun c hc => ?_⟩
  · unfold nmK
    rw [List.length_append, List.length_append]
    show 1 ≤ _ + 1 + _
    omega
  · unfold nmK
    rw [List.length_append, List.length_append, List.length_take]
    show min a st.length + 1 + (tl k).length ≤ 6
    omega
  · unfold nmK at hc
    rcases List.mem_append.mp hc with hc | hc
    · rcases List.mem_append.mp hc with hc | hc
      · exact h.sl c (List.mem_of_mem_take hc)
      · rw [List.mem_singleton.mp hc]
        exact h.cl k
    · exact h.ta k c hc
theorem NmK.names {st : List Nat} {a : Nat} {ch : Nat → Nat} {tl : Nat → List Nat} (h : NmK st a ch tl) {n : Nat} (hn : n ≤ 6) : okNames ((List.range n).map (nmK st a ch tl)) := by
  refine ⟨List.pairwise_map.mpr ((List.nodup_range (n := n)).imp_of_mem fun {i j} hi hj ne e => ?_), fun w hw => ?_⟩
  · have h1 := h.at_ i
    rw [e, h.at_ j] at h1
    have := h.ci j i (by have := List.mem_range.mp hj; omega) (by have := List.mem_range.mp hi; omega) (Option.some.inj h1)
    exact ne this.symm
  · obtain ⟨k, _, rfl⟩ := List.mem_map.mp hw
    exact h.ok k
/-- six names, the second one another -/
def six (f : Nat → List Nat) (a b : List Nat) : List (List Nat) := [a, b, f 2, f 3, f 4, f 5]
theorem NmK.more {st : List Nat} {a : Nat} {ch : Nat → Nat} {tl : Nat → List Nat} (h : NmK st a ch tl) {c : Nat} (hc : c ∈ letters26) (l6 : (nmK st a ch tl 0).length < 6) :
    okNames (six (nmK st a ch tl) (nmK st a ch tl 0) (nmK st a ch tl 0 ++ [c])) ∧ okNames (six (nmK st a ch tl) (nmK st a ch tl 0 ++ [c]) (nmK st a ch tl 0)) := by
  have o0 := h.ok 0
  have o1 : okName (nmK st a ch tl 0 ++ [c]) := by
    refine ⟨by rw [List.length_append]; show 1 ≤ _ + 1; omega, by rw [List.length_append]; show _ + 1 ≤ 6; omega, fun x hx => ?_⟩
    rcases List.mem_append.mp hx with hx | hx
    · exact o0.a x hx
    · rw [List.mem_singleton.mp hx]
      exact hc
  have ne0 : nmK st a ch tl 0 ≠ nmK st a ch tl 0 ++ [c] := fun z => by
    have := congrArg List.length z
    rw [List.length_append] at this
    have : (nmK st a ch tl 0).length = (nmK st a ch tl 0).length + 1 := this
    omega
  have at1 : (nmK st a ch tl 0 ++ [c])[a]? = some (ch 0) := by
    have h0 := h.at_ 0
    rw [List.getElem?_append_left (List.getElem?_eq_some_iff.mp h0).1]
    exact h0
  have nek : ∀ i j, i < 6 → j < 6 → i ≠ j → nmK st a ch tl i ≠ nmK st a ch tl j := fun i j hi hj ne e => by
    have h1 := h.at_ i
    rw [e, h.at_ j] at h1
    exact ne (h.ci j i hj hi (Option.some.inj h1)).symm
  have ne1 : ∀ j, j < 6 → j ≠ 0 → nmK st a ch tl 0 ++ [c] ≠ nmK st a ch tl j := fun j hj ne e => by
    rw [e, h.at_ j] at at1
    exact ne (h.ci j 0 hj (by decide) (Option.some.inj at1))
  constructor
  · refine ⟨?_, fun w hw => ?_⟩
    · unfold six
      simp only [List.nodup_cons, List.mem_cons, List.not_mem_nil, or_false, not_or, List.nodup_nil, and_true]
      refine ⟨⟨ne0, nek 0 2 (by decide) (by decide) (by decide), nek 0 3 (by decide) (by decide) (by decide), nek 0 4 (by decide) (by decide) (by decide), nek 0 5 (by decide) (by decide) (by decide)⟩, ⟨ne1 2 (by decide) (by decide), ne1 3 (by decide) (by decide), ne1 4 (by decide) (by decide), ne1 5 (by decide) (by decide)⟩, ⟨nek 2 3 (by decide) (by decide) (by decide), nek 2 4 (by decide) (by decide) (by decide), nek 2 5 (by decide) (by decide) (by decide)⟩, ⟨nek 3 4 (by decide) (by decide) (by decide), nek 3 5 (by decide) (by decide) (by decide)⟩, nek 4 5 (by decide) (by decide) (by decide), fun z => z⟩
    · unfold six at hw
      simp only [List.mem_cons, List.not_mem_nil, or_false] at hw
      rcases hw with rfl | rfl | rfl | rfl | rfl | rfl
      · exact o0
      · exact o1
      all_goals exact h.ok _
  · refine ⟨?_, fun w hw => ?_⟩
    · unfold six
      simp only [List.nodup_cons, List.mem_cons, List.not_mem_nil, or_false, not_or, List.nodup_nil, and_true]
      refine ⟨⟨ne0.symm, ne1 2 (by decide) (by decide), ne1 3 (by decide) (by decide), ne1 4 (by decide) (by decide), ne1 5 (by decide) (by decide)⟩, ⟨nek 0 2 (by decide) (by decide) (by decide), nek 0 3 (by decide) (by decide) (by decide), nek 0 4 (by decide) (by decide) (by decide), nek 0 5 (by decide) (by decide) (by decide)⟩, ⟨nek 2 3 (by decide) (by decide) (by decide), nek 2 4 (by decide) (by decide) (by decide), nek 2 5 (by decide) (by decide) (by decide)⟩, ⟨nek 3 4 (by decide) (by decide) (by decide), nek 3 5 (by decide) (by decide) (by decide)⟩, nek 4 5 (by decide) (by decide) (by decide), fun z => z⟩
    · unfold six at hw
      simp only [List.mem_cons, List.not_mem_nil, or_false] at hw
      rcases hw with rfl | rfl | rfl | rfl | rfl | rfl
      · exact o1
      · exact o0
      all_goals exact h.ok _
theorem okNames.take {ws : List (List Nat)} (h : okNames ws) (n : Nat) : okNames (ws.take n) := ⟨h.nd.sublist (List.take_sublist n ws), fun w hw => h.ok w (List.mem_of_mem_take hw)⟩
def sp_namesK : Sp := fun vs H Q _ => ∃ (rl : Addr) (ns : List Int), vs = [.ref rl, .int 6] ∧ H rl = some (.lst (ns.map V.int)) ∧ 10 ≤ ns.length ∧ ns.length ≤ 1000 ∧ (∀ z ∈ ns, 0 ≤ z ∧ z < 134217728) ∧
  ∀ (ws : List (List Nat)) l H', okNames ws → ws.length = 6 → H l = none → Same H H' → H' l = some (.lst (nmV ws)) → Q (.ref l) H'
theorem let_at {z : Int} (h0 : 0 ≤ z) (h1 : z < 26) : ∃ c, atI letters26 z = some c ∧ c ∈ letters26 ∧ letters26[z.toNat]? = some c := by
  obtain ⟨c, hc, mc⟩ := ix_some letters26 h0 (by rw [len26]; exact h1)
  refine ⟨c, hc, mc, ?_⟩
  have : z.toNat < letters26.length := by rw [len26]; omega
  have e : letters26[z.toNat]? = some letters26[z.toNat] := List.getElem?_eq_getElem this
  have h := atI_nat e
  rw [Int.toNat_of_nonneg h0, hc] at h
  rw [e, ← h]
/-- the letters of six names are unlike -/
theorem ch_inj {st r : Int} (hs : st = 7 ∨ st = 19 ∨ st = 3 ∨ st = 23) {i j : Nat} (hi : i < 6) (hj : j < 6) (h : (letters26[((r + st * (i : Int)) % 26).toNat]?).getD 97 = (letters26[((r + st * (j : Int)) % 26).toNat]?).getD 97) : i = j := by
  have b1 := Int.emod_nonneg (r + st * (i : Int)) (show (26 : Int) ≠ 0 by decide)
  have b2 := Int.emod_lt_of_pos (r + st * (i : Int)) (show (0 : Int) < 26 by decide)
  have b3 := Int.emod_nonneg (r + st * (j : Int)) (show (26 : Int) ≠ 0 by decide)
  have b4 := Int.emod_lt_of_pos (r + st * (j : Int)) (show (0 : Int) < 26 by decide)
  obtain ⟨c1, _, _, h1⟩ := let_at b1 b2
  obtain ⟨c2, _, _, h2⟩ := let_at b3 b4
  rw [h1, h2] at h
  have h : c1 = c2 := h
  subst h
  have e := (List.getElem?_inj (by rw [len26]; omega) nd26).mp (h1.trans h2.symm)
  have e : (r + st * (i : Int)) % 26 = (r + st * (j : Int)) % 26 := by omega
  rcases hs with rfl | rfl | rfl | rfl <;> omega
section
variable {P : Program} {w : World} {K : PySem.W.Frag} {mg : Str → Option Value} {base : Heap}
theorem ok_namesK (T : Txt K mg) (D : Df K mg "_law_names" s__law_names ["row", "many"]) : Cl P w K mg base 2 "_law_names" ["row", "many"] sp_namesK := by
  refine ok_of D sc__law_names (fun vs H Q E h => ?_) (fun f cdv A outer s H vs Q E hr h => ?_)
  · obtain ⟨rl, ns, rfl, _⟩ := h
    rfl
  · obtain ⟨rl, ns, rfl, hl, n10, n1000, hz, q⟩ := h
    refine ⟨_, (pss_cons (ps_set (i := 2) sc__law_names.nd rfl (.inr rfl) pe_str)
      (pss_cons (ps_set (i := 3) sc__law_names.nd rfl (.inl rfl) (pe_join pe_str (pe_lc (own := [("number", 10)]) rfl sc__law_names.nd (pi_list (pe_slice sl_list (pv 0) po_none (po_some pe_int))) (blkOk_by (own := [("number", 10)]) (N := N__law_names) (sc := defScope s__law_names) (by decide +kernel)) (fun _ _ _ _ _ => (pg_name (i := 10) sc__law_names.nd rfl (.inl rfl))) (fun _ _ _ _ _ => pts_nil) (fun _ _ _ _ _ => (pe_ix ix_str (pv 2) (pe_op op_mod (pv 10) pe_int) (fun _ _ => rfl))))))
      (pss_cons (ps_set (i := 4) sc__law_names.nd rfl (.inl rfl) (pe_op op_mod (pe_ix ix_list (pv 0) pe_int (fun _ _ => rfl)) pe_int))
      (pss_cons (ps_set (i := 5) sc__law_names.nd rfl (.inl rfl) (pe_ix ix_list (pe_lst (pa_cons pe_int (pa_cons pe_int (pa_cons pe_int (pa_cons pe_int pa_nil))))) (pe_op op_mod (pe_ix ix_list (pv 0) pe_int (fun _ _ => rfl)) pe_int) (fun _ _ => rfl)))
      (pss_cons (ps_set (i := 6) sc__law_names.nd rfl (.inl rfl) (pe_lst pa_nil))
      (pss_cons (ps_for PassesOwn.never rfl (pi_range1 (by rfl) T.b_range (pa_cons (pv 1) pa_nil)) (pg_name (i := 7) sc__law_names.nd rfl (.inl rfl))
        (pss_cons (ps_set (i := 8) sc__law_names.nd rfl (.inl rfl) (pe_op op_mod (pe_op op_fdiv (pe_ix ix_list (pv 0) pe_int (fun _ _ => rfl)) (pe_op op_add pe_int (pe_op op_mul pe_int (pv 7)))) (pe_op op_sub pe_int (pv 4))))
        (pss_cons (ps_set (i := 9) sc__law_names.nd rfl (.inl rfl) (pe_ix ix_str (pv 2) (pe_op op_mod (pe_op op_add (pe_ix ix_list (pv 0) pe_int (fun _ _ => rfl)) (pe_op op_mul (pv 5) (pv 7))) pe_int) (fun _ _ => rfl)))
        (pss_one (ps_expr (pe_bm PySem.F.plainAttrs_list PySem.F.slot_list_append PySem.F.type_list_append mt_append (pv 6) (pa_cons (pe_op op_add_str (pe_op op_add_str (pe_slice C8.sl_txt (pv 3) po_none (po_some (pv 4))) (pv 9)) (pe_slice C8.sl_txt (pv 3) (po_some (pv 4)) (po_some (pe_op op_add (pv 4) (pv 8))))) pa_nil)))))))
      (C8.pss_cut (ps_if (PW.pt (pw_and (pt_cmpR op_gt (pv 1) pe_int (nomark _)) (pw_and (pt_cmpR op_eq (pe_op op_mod (pe_ix ix_list (pv 0) pe_int (fun _ _ => rfl)) pe_int) pe_int (nomark _)) (pw_and1 (pt_cmpR op_lt (pe_callB call_len (by rfl) T.b_len (by decide +kernel) (pa_cons (pe_ix ix_list (pv 6) pe_int (fun _ _ => rfl)) pa_nil)) pe_int (nomark _)))))) (pss_cons (ps_asg (pe_op op_add_str (pe_ix ix_list (pv 6) pe_int (fun _ _ => rfl)) (pe_ix ix_str (pv 2) (pe_op op_mod (pe_op op_fdiv (pe_ix ix_list (pv 0) pe_int (fun _ _ => rfl)) pe_int) pe_int) (fun _ _ => rfl))) (pg_sub (pv 6) pe_int set_list))
        (pss_one (ps_if (pt_cmpR op_eq (pe_op op_mod (pe_op op_fdiv (pe_ix ix_list (pv 0) pe_int (fun _ _ => rfl)) pe_int) pe_int) pe_int (nomark _)) (pss_one (ps_asg (pe_tup (pa_cons (pe_ix ix_list (pv 6) pe_int (fun _ _ => rfl)) (pa_cons (pe_ix ix_list (pv 6) pe_int (fun _ _ => rfl)) pa_nil))) (pg_tup rfl (pgs_cons (pg_sub (pv 6) pe_int set_list) (pgs_cons (pg_sub (pv 6) pe_int set_list) pgs_nil))))) pss_nil))) pss_nil)
      (pss_one (ps_ret (pv 6)))))))))), ?_⟩
    have lns : (ns.map V.int).length = ns.length := List.length_map ..
    have get : ∀ i, i < 10 → ∃ z, (ns.map V.int)[i]? = some (.int z) ∧ 0 ≤ z ∧ z < 134217728 := fun i hi => by
      have h1 : ns[i]? = some ns[i] := List.getElem?_eq_getElem (by omega)
      exact ⟨ns[i], by rw [List.getElem?_map, h1]; rfl, hz _ (List.getElem_mem _)⟩
    -- stem
    refine ⟨⟨_, rfl⟩, _, rfl, 5, rfl, rl, _, rfl, .inl (.inl hl), fun sl hsl => ?_⟩
    have S1 := same_new (o := .lst (cutV (ns.map V.int) none (some 5))) hsl
    have c5 : cutV (ns.map V.int) none (some 5) = (ns.take 5).map V.int := by
      unfold cutV
      have e2 : HT.sIx (ns.map V.int).length (ns.map V.int).length (some 5) = 5 := by
        show (if (5 : Int) < 0 then ((5 : Int) + ((ns.map V.int).length : Int)).toNat else min (5 : Int).toNat (ns.map V.int).length) = 5
        rw [if_neg (by decide), lns]
        show min 5 ns.length = 5
        omega
      rw [e2, HT.sIx_none, List.drop_zero, List.map_take]
    have es := upd_same (H := H) (a := sl) (o := .lst (cutV (ns.map V.int) none (some 5)))
    rw [c5] at S1 es
    rw [c5]
    generalize upd H sl (.lst ((ns.take 5).map V.int)) = H1 at S1 es ⊢
    refine ⟨sl, rfl, ⟨_, .inl (.inl es)⟩, fun Dl hDl => ?_⟩
    refine lc_it (walk_list (xs := (ns.take 5).map V.int)) (fun i H' => ∃ cs : List Nat, cs.length = i ∧ (∀ c ∈ cs, c ∈ letters26) ∧ Same H1 H' ∧ H' Dl = some (.lst (cs.map fun c => .str ⟨#[c]⟩))) ⟨[], rfl, (fun _ z => nomatch z), same_new hDl, upd_same⟩ (fun i H' _ ⟨_, _, _, z, _⟩ => .inl (.inl (z _ _ es))) ?_ ?_
    · rintro i y H2' H2 hi ⟨cs, lc, ca, S2, hD⟩ ⟨rfl, hy⟩
      rw [List.length_map, List.length_take] at hi
      obtain ⟨z, hni⟩ : ∃ z, (ns.take 5)[i]? = some z := ⟨_, List.getElem?_eq_getElem (by rw [List.length_take]; exact hi)⟩
      have hy : ((ns.take 5).map V.int)[i]? = some y := hy
      rw [List.getElem?_map, hni] at hy
      cases hy
      obtain ⟨c, hc, mc, _⟩ := let_at (Int.emod_nonneg z (show (26 : Int) ≠ 0 by decide)) (Int.emod_lt_of_pos z (show (0 : Int) < 26 by decide))
      refine ⟨rfl, _, rfl, _, rfl, z, 26, rfl, rfl, (by show (0 : Int) < 26; decide), _, _, c, rfl, rfl, by decide +kernel, hc, _, hD, ?_, cs ++ [c], by rw [List.length_append, lc]; rfl, fun x hx => ?_, ?_, by rw [upd_same, List.map_append]; rfl⟩
      · rw [List.length_map]
        exact sz1000 (by omega)
      · rcases List.mem_append.mp hx with hx | hx
        · exact ca x hx
        · rw [List.mem_singleton.mp hx]
          exact mc
      · exact fun q o e => by
          rw [upd_ne (ne_of_none e hDl)]
          exact S2 q o e
    · rintro H2 ⟨st, lst, sta, S2, hD⟩
      have l5 : st.length = 5 := by
        rw [lst, List.length_map, List.length_take]
        omega
      refine ⟨_, Dl, st.map fun c => (⟨#[c]⟩ : Str), rfl, rfl, .inl (.inl (.inl (by rw [hD, List.map_map]; rfl))), ?_, ?_⟩
      · rw [lens1]
        show st.length + _ * 0 ≤ 16777216
        omega
      rw [join_signs]
      have S12 := S1.trans S2
      have hl2 := S12 _ _ hl
      obtain ⟨r5, g5, z5, _⟩ := get 5 (by decide)
      obtain ⟨r6, g6, z6, _⟩ := get 6 (by decide)
      obtain ⟨r7, g7, z7, _⟩ := get 7 (by decide)
      obtain ⟨r8, g8, z8, _⟩ := get 8 (by decide)
      obtain ⟨r9, g9, z9, _⟩ := get 9 (by decide)
      -- at, step
      refine ⟨_, rfl, rl, _, 5, _, rfl, rfl, .inl (.inl hl2), atI_nat (j := 5) g5, r5, 6, rfl, rfl, (by show (0 : Int) < 6; decide), ?_⟩
      have a0 := Int.emod_nonneg r5 (show (6 : Int) ≠ 0 by decide)
      have a1 := Int.emod_lt_of_pos r5 (show (0 : Int) < 6 by decide)
      refine ⟨by show 4 ≤ sizeLine; decide, fun ql hql => ?_⟩
      have S3 := S12.trans (same_new (o := .lst [.int 7, .int 19, .int 3, .int 23]) hql)
      have hl3 := S3 _ _ hl
      have b0 := Int.emod_nonneg r8 (show (4 : Int) ≠ 0 by decide)
      have b1 := Int.emod_lt_of_pos r8 (show (0 : Int) < 4 by decide)
      obtain ⟨sp, hsp, msp⟩ := ix_int (ns := [7, 19, 3, 23]) b0 b1
      have hsp4 : sp = 7 ∨ sp = 19 ∨ sp = 3 ∨ sp = 23 := by
        simp only [List.mem_cons, List.not_mem_nil, or_false] at msp
        exact msp
      refine ⟨_, rfl, rl, _, 8, _, rfl, rfl, .inl (.inl hl3), atI_nat (j := 8) g8, r8, 4, rfl, rfl, (by show (0 : Int) < 4; decide), ql, _, _, _, rfl, rfl, .inl (.inl upd_same), hsp, ?_⟩
      generalize upd H2 ql (.lst [.int 7, .int 19, .int 3, .int 23]) = H3 at S3 hl3 ⊢
      refine ⟨Nat.zero_le _, fun nl hnl => ?_⟩
      have S4 := S3.trans (same_new (o := .lst []) hnl)
      have hl4 := S4 _ _ hl
      have NK : NmK st (r5 % 6).toNat (fun k => (letters26[((r7 + sp * (k : Int)) % 26).toNat]?).getD 97) (fun k => (st.drop (r5 % 6).toNat).take (r6 / (1 + 2 * (k : Int)) % (6 - r5 % 6)).toNat) := by
        refine ⟨l5, by omega, sta, fun k => ?_, fun i j hi hj h => ch_inj hsp4 hi hj h, fun k c hc => sta c (List.mem_of_mem_drop (List.mem_of_mem_take hc)), fun k => ?_⟩
        · obtain ⟨c, _, mc, h1⟩ := let_at (Int.emod_nonneg (r7 + sp * (k : Int)) (show (26 : Int) ≠ 0 by decide)) (Int.emod_lt_of_pos (r7 + sp * (k : Int)) (show (0 : Int) < 26 by decide))
          show (letters26[((r7 + sp * (k : Int)) % 26).toNat]?).getD 97 ∈ letters26
          rw [h1]
          exact mc
        · show _ + 1 + ((st.drop (r5 % 6).toNat).take _).length ≤ 6
          have := List.length_take_le (r6 / (1 + 2 * (k : Int)) % (6 - r5 % 6)).toNat (st.drop (r5 % 6).toNat)
          have h2 : ((st.drop (r5 % 6).toNat).take (r6 / (1 + 2 * (k : Int)) % (6 - r5 % 6)).toNat).length ≤ (st.drop (r5 % 6).toNat).length := List.length_take_le' ..
          rw [List.length_drop, l5] at h2
          omega
      generalize hch : (fun k : Nat => (letters26[((r7 + sp * (k : Int)) % 26).toNat]?).getD 97) = ch at NK
      generalize htl : (fun k : Nat => (st.drop (r5 % 6).toNat).take (r6 / (1 + 2 * (k : Int)) % (6 - r5 % 6)).toNat) = tl at NK
      generalize hA : (r5 % 6).toNat = A at NK htl
      have lst5 : st.length ≤ 1000 := by omega
      refine ⟨_, rfl, _, rfl, by decide, by decide, for_range (lo := 0) (n := 6) (fun i σ H' => ∃ (t7 t8 t9 t10 : Option V), σ = [some (.ref rl), some (.int 6), some (.str "abcdefghijklmnopqrstuvwxyz"), some (.str (SX.S st)), some (.int (r5 % 6)), some (.int sp), some (.ref nl), t7, t8, t9, t10] ∧ Same H H' ∧ H' nl = some (.lst (nmV ((List.range i).map (nmK st A ch tl))))) ⟨_, _, _, _, rfl, S4, upd_same⟩ ?_ ?_⟩
      · rintro i σ H5 hi ⟨t7, t8, t9, t10, rfl, S5, h5⟩
        have hl5 := S5 _ _ hl
        have zi : (0 : Int) + (i : Int) = i := Int.zero_add _
        obtain ⟨c, hc, mc, hc'⟩ := let_at (Int.emod_nonneg (r7 + sp * (0 + (i : Int))) (show (26 : Int) ≠ 0 by decide)) (Int.emod_lt_of_pos (r7 + sp * (0 + (i : Int))) (show (0 : Int) < 26 by decide))
        have lg0 := Int.emod_nonneg (r6 / (1 + 2 * (0 + (i : Int)))) (show (6 - r5 % 6 : Int) ≠ 0 by omega)
        refine ⟨_, rfl, rl, _, 6, _, rfl, rfl, .inl (.inl hl5), atI_nat (j := 6) g6, _, rfl, 2, _, rfl, rfl, .inl (by decide), 1, _, rfl, rfl, _, _, rfl, rfl, ⟨by omega, by omega⟩, _, rfl, 6, _, rfl, rfl, _, _, rfl, rfl, (by show (0 : Int) < 6 - r5 % 6; omega), ?_⟩
        refine ⟨_, rfl, _, rfl, rl, _, 7, _, rfl, rfl, .inl (.inl hl5), atI_nat (j := 7) g7, _, rfl, _, rfl, _, _, rfl, rfl, .inl (by rcases hsp4 with h | h | h | h <;> rw [h] <;> decide), _, _, rfl, rfl, _, 26, rfl, rfl, (by show (0 : Int) < 26; decide), _, _, c, rfl, rfl, by decide +kernel, hc, ?_⟩
        refine ⟨_, rfl, .inl ⟨rfl, _, .inl (.inl h5)⟩, _, rfl, _, rfl, _, rfl, SX.S st, rfl, S_le lst5, _, rfl, _, _, rfl, rfl, ?_, ?_⟩
        · rw [SX.slice_to a0, SX.S_len, List.length_take]
          exact Evl.sz_of (show min _ _ + 1 ≤ _ by omega)
        · rw [SX.slice_to a0, show (⟨#[c]⟩ : Str) = SX.S [c] from rfl, SX.S_cat]
          refine ⟨_, rfl, _, rfl, _, rfl, _, rfl, _, rfl, _, _, rfl, rfl, _, rfl, SX.S st, rfl, S_le lst5, ?_⟩
          rw [slice_mid (i := r5 % 6) (j := r5 % 6 + r6 / (1 + 2 * (0 + (i : Int))) % (6 - r5 % 6)) a0 (by omega) (by omega)]
          have e1 : (st.drop (r5 % 6).toNat).take (r5 % 6 + r6 / (1 + 2 * (0 + (i : Int))) % (6 - r5 % 6) - r5 % 6).toNat = tl i := by
            rw [← htl, zi, hA]
            show _ = (st.drop A).take (r6 / (1 + 2 * (i : Int)) % (6 - r5 % 6)).toNat
            congr 1
            omega
          rw [e1, hA]
          have e2 : c = ch i := by
            rw [← hch]
            show c = (letters26[((r7 + sp * (i : Int)) % 26).toNat]?).getD 97
            rw [← zi, hc']
            rfl
          rw [e2]
          have okn := NK.ok i
          have okl := okn.l1
          refine ⟨_, _, rfl, rfl, ?_, ?_⟩
          · rw [SX.S_len, SX.S_len]
            unfold nmK at okl
            rw [List.length_append] at okl
            exact Evl.sz_of (by omega)
          · rw [SX.S_cat]
            refine ⟨nl, _, _, rfl, rfl, h5, ?_, ?_⟩
            · unfold nmV
              rw [List.length_map, List.length_map, List.length_range]
              exact Evl.sz_lt (by omega)
            · refine ⟨_, _, _, _, rfl, fun b o e => ?_, ?_⟩
              · rw [upd_ne (ne_of_none e (Same.fresh S3 hnl))]
                exact S5 b o e
              · rw [upd_same, List.range_succ, List.map_append]
                unfold nmV
                rw [List.map_append]
                rfl
      · rintro σ H5 ⟨t7, t8, t9, t10, rfl, S5, h5⟩
        -- the second one
        have ok6 := NK.names (Nat.le_refl 6)
        have hnl0 : H nl = none := Same.fresh S3 hnl
        have e6 : (List.range 6).map (nmK st A ch tl) = six (nmK st A ch tl) (nmK st A ch tl 0) (nmK st A ch tl 1) := rfl
        have hl5 := S5 _ _ hl
        rw [e6] at h5
        refine ⟨fun σ' H' => ∃ (ws : List (List Nat)) (t7 t8 t9 t10 : Option V), σ' = [some (.ref rl), some (.int 6), some (.str "abcdefghijklmnopqrstuvwxyz"), some (.str (SX.S st)), some (.int (r5 % 6)), some (.int sp), some (.ref nl), t7, t8, t9, t10] ∧ okNames ws ∧ ws.length = 6 ∧ Same H H' ∧ H' nl = some (.lst (nmV ws)), ?_, ?_⟩
        · have fin0 : ∃ (ws : List (List Nat)) (t7' t8' t9' t10' : Option V), [some (V.ref rl), some (.int 6), some (.str "abcdefghijklmnopqrstuvwxyz"), some (.str (SX.S st)), some (.int (r5 % 6)), some (.int sp), some (.ref nl), t7, t8, t9, t10] = [some (V.ref rl), some (.int 6), some (.str "abcdefghijklmnopqrstuvwxyz"), some (.str (SX.S st)), some (.int (r5 % 6)), some (.int sp), some (.ref nl), t7', t8', t9', t10'] ∧ okNames ws ∧ ws.length = 6 ∧ Same H H5 ∧ H5 nl = some (.lst (nmV ws)) := ⟨_, _, _, _, _, rfl, e6 ▸ ok6, rfl, S5, h5⟩
          have SQ5 : H5 nl = some (.lst (nmV (six (nmK st A ch tl) (nmK st A ch tl 0) (nmK st A ch tl 1)))) := h5
          refine ⟨_, rfl, _, _, rfl, rfl, _, rfl, ite2 (fun _ => ?_) (fun _ => ite2 (fun z => absurd z Bool.false_ne_true) fun _ => fin0)⟩
          refine ⟨_, rfl, rl, _, 9, _, rfl, rfl, .inl (.inl hl5), atI_nat (j := 9) g9, _, 3, rfl, rfl, (by show (0 : Int) < 3; decide), rfl, _, rfl, ite2 (fun _ => ?_) (fun _ => ite2 (fun z => absurd z Bool.false_ne_true) fun _ => fin0)⟩
          have okn0 := NK.ok 0
          have okl0 := okn0.l1
          refine ⟨_, rfl, nl, _, 0, .str (SX.S (nmK st A ch tl 0)), rfl, rfl, .inl (.inl h5), atI_nat (j := 0) rfl, _, _, rfl, ⟨S_le (by omega), rfl⟩, _, 6, rfl, rfl, _, rfl, ite2 (fun e9 => ?_) (fun _ => fin0)⟩
          have l6 : (nmK st A ch tl 0).length < 6 := by
            have := of_decide_eq_true e9
            rw [SX.S_len] at this
            omega
          obtain ⟨c2, hc2, mc2, _⟩ := let_at (Int.emod_nonneg (r9 / 3) (show (26 : Int) ≠ 0 by decide)) (Int.emod_lt_of_pos (r9 / 3) (show (0 : Int) < 26 by decide))
          obtain ⟨okA, okB⟩ := NK.more mc2 l6
          refine ⟨_, rfl, nl, _, 0, .str (SX.S (nmK st A ch tl 0)), rfl, rfl, .inl (.inl h5), atI_nat (j := 0) rfl, _, rfl, _, rfl, rl, _, 9, _, rfl, rfl, .inl (.inl hl5), atI_nat (j := 9) g9, _, 3, rfl, rfl, ⟨by decide, by decide⟩, _, 26, rfl, rfl, (by show (0 : Int) < 26; decide), _, _, c2, rfl, rfl, by decide +kernel, hc2, _, _, rfl, rfl, ?_, ?_⟩
          · rw [SX.S_len]
            exact Evl.sz_of (show _ + 1 ≤ _ by omega)
          rw [show (⟨#[c2]⟩ : Str) = SX.S [c2] from rfl, SX.S_cat]
          refine ⟨_, rfl, nl, _, 1, 1, rfl, rfl, h5, rfl, ?_⟩
          have h6 : upd H5 nl (.lst ((nmV (six (nmK st A ch tl) (nmK st A ch tl 0) (nmK st A ch tl 1))).set 1 (.str (SX.S (nmK st A ch tl 0 ++ [c2]))))) nl = some (.lst (nmV (six (nmK st A ch tl) (nmK st A ch tl 0) (nmK st A ch tl 0 ++ [c2])))) := upd_same
          have S6 : Same H (upd H5 nl (.lst ((nmV (six (nmK st A ch tl) (nmK st A ch tl 0) (nmK st A ch tl 1))).set 1 (.str (SX.S (nmK st A ch tl 0 ++ [c2])))))) := fun b o e => by
            rw [upd_ne (ne_of_none e hnl0)]
            exact S5 b o e
          generalize upd H5 nl (.lst ((nmV (six (nmK st A ch tl) (nmK st A ch tl 0) (nmK st A ch tl 1))).set 1 (.str (SX.S (nmK st A ch tl 0 ++ [c2]))))) = H6 at h6 S6 ⊢
          have hl6 := S6 _ _ hl
          refine ⟨_, rfl, rl, _, 9, _, rfl, rfl, .inl (.inl hl6), atI_nat (j := 9) g9, _, 78, rfl, rfl, ⟨by decide, by decide⟩, _, 2, rfl, rfl, (by show (0 : Int) < 2; decide), rfl, _, rfl, ite2 (fun _ => ?_) (fun _ => ⟨_, _, _, _, _, rfl, okA, rfl, S6, h6⟩)⟩
          refine ⟨_, rfl, nl, _, 1, .str (SX.S (nmK st A ch tl 0 ++ [c2])), rfl, rfl, .inl (.inl h6), atI_nat (j := 1) rfl, _, rfl, nl, _, 0, .str (SX.S (nmK st A ch tl 0)), rfl, rfl, .inl (.inl h6), atI_nat (j := 0) rfl, by show 2 ≤ sizeLine; decide, fun t ht => ?_⟩
          have S7 := same_new (o := .tup [.str (SX.S (nmK st A ch tl 0 ++ [c2])), .str (SX.S (nmK st A ch tl 0))]) ht
          have h7 := S7 _ _ h6
          refine ⟨t, _, rfl, .inl (.inl upd_same), rfl, _, _, rfl, _, rfl, nl, _, 0, 0, rfl, rfl, h7, rfl, _, _, rfl, _, rfl, nl, _, 1, 1, rfl, rfl, upd_same, rfl, rfl, ?_⟩
          refine ⟨_, _, _, _, _, rfl, okB, rfl, fun b o e => ?_, upd_same⟩
          rw [upd_ne (ne_of_none e hnl0), upd_ne (ne_of_none e hnl0)]
          exact S7 _ _ (S6 b o e)
        · rintro σ H6 ⟨ws, t7, t8, t9, t10, rfl, okw, lw, S6, h6⟩
          exact ⟨_, rfl, q ws nl H6 okw lw hnl0 S6 h6⟩
end
end My
set_option Elab.async false
set_option linter.all false
set_option maxRecDepth 100000
set_option maxHeartbeats 4000000
namespace My
open PySem PySem.Spec PyProof.Rows L2
/-- a book as the law makes it -/
def bkLD (b : List Nat × List (List Int)) : PyData := .tuple [.str (SX.S b.1), bookD b.2]
def bksLD (B : Bks) : PyData := .list (B.map bkLD)
structure smBk (b : List Nat × List (List Int)) : Prop where
  c0 : 1 ≤ b.2.length
  c1 : b.2.length ≤ 3
  r : ∀ c ∈ b.2, 1 ≤ c.length ∧ c.length ≤ 5 ∧ ∀ x ∈ c, 1 ≤ x ∧ x ≤ 4
theorem smBk.ok {B : Bks} (h : ∀ b ∈ B, smBk b) (nm : okNames (B.map (·.1))) (l0 : 1 ≤ B.length) (l1 : B.length ≤ 6) : okBks B := by
  refine ⟨l0, l1, nm.nd, fun b hb => nm.ok _ (List.mem_map_of_mem hb), fun b hb => ⟨(h b hb).c0, by have := (h b hb).c1; omega, fun c hc => ⟨((h b hb).r c hc).1, by have := ((h b hb).r c hc).2.1; omega, ((h b hb).r c hc).2.2⟩⟩, ?_, ?_⟩
  · have key : ∀ T : Bks, (∀ b ∈ T, b.2.length ≤ 3) → (T.map fun b => b.2.length).sum ≤ 3 * T.length := by
      intro T
      induction T with
      | nil => intro _; simp
      | cons b T ih =>
        intro k
        have := ih fun x hx => k x (List.mem_cons_of_mem _ hx)
        have := k b (List.mem_cons_self ..)
        rw [List.map_cons, List.sum_cons, List.length_cons]
        omega
    have := key B fun b hb => (h b hb).c1
    omega
  · have key1 : ∀ b : List (List Int), (∀ c ∈ b, c.length ≤ 5 ∧ ∀ x ∈ c, x ≤ 4) → (b.map List.sum).sum ≤ 20 * (b.length : Int) := by
      intro b
      induction b with
      | nil => intro _; simp
      | cons c b ih =>
        intro k
        have h1 := ih fun x hx => k x (List.mem_cons_of_mem _ hx)
        obtain ⟨k1, k2⟩ := k c (List.mem_cons_self ..)
        have h2 := sum_le 4 c k2
        rw [List.map_cons, List.sum_cons, List.length_cons]
        omega
    have key : ∀ T : Bks, (∀ b ∈ T, smBk b) → (T.map fun b => (b.2.map List.sum).sum).sum ≤ 60 * (T.length : Int) := by
      intro T
      induction T with
      | nil => intro _; simp
      | cons b T ih =>
        intro k
        have h1 := ih fun x hx => k x (List.mem_cons_of_mem _ hx)
        have kb := k b (List.mem_cons_self ..)
        have h2 := key1 b.2 fun c hc => ⟨(kb.r c hc).2.1, fun x hx => ((kb.r c hc).2.2 x hx).2⟩
        have := kb.c1
        rw [List.map_cons, List.sum_cons, List.length_cons]
        omega
    have := key B h
    omega
def sp_booksK : Sp := fun vs H Q _ => ∃ (S : Av) (c sl : Int), vs = [.int c, .int sl] ∧ 0 ≤ sl ∧ sl ≤ 100000 ∧ Occ S H ∧ ∀ (B : Bks) l H', okBks B → Same H H' → H l = none → At S H' (.ref l) (bksLD B) → Q (.ref l) H'
section
variable {P : Program} {w : World} {K : PySem.W.Frag} {mg : Str → Option Value} {base : Heap}
theorem ok_booksK (T : Txt K mg) (c__law_row : Cl P w K mg base 2 "_law_row" ["cell", "many", "salt"] sp_row) (c__law_names : Cl P w K mg base 2 "_law_names" ["row", "many"] sp_namesK) (D : Df K mg "_law_books" s__law_books ["cell", "salt"]) : Cl P w K mg base 3 "_law_books" ["cell", "salt"] sp_booksK := by
  refine ok_of D sc__law_books (fun vs H Q E h => ?_) (fun f cdv A outer s H vs Q E hr h => ?_)
  · obtain ⟨S, c, sl, rfl, _⟩ := h
    rfl
  · obtain ⟨S, c, sl, rfl, s0, s1, ho, q⟩ := h
    refine ⟨_, (pss_cons (ps_set (i := 2) sc__law_books.nd rfl (.inl rfl) (pe_cl c__law_row hr (by decide) (by rfl) (pa_cons (pv 0) (pa_cons pe_int (pa_cons (pv 1) pa_nil)))))
      (pss_cons (ps_set (i := 3) sc__law_books.nd rfl (.inl rfl) (pe_cl c__law_names hr (by decide) (by rfl) (pa_cons (pv 2) (pa_cons pe_int pa_nil))))
      (pss_cons (ps_if (pt_cmpR op_eq (pe_op op_mod (pe_ix ix_list (pv 2) pe_int (fun _ _ => rfl)) pe_int) pe_int (nomark _)) (pss_one (ps_ret (pe_lst (pa_cons (pe_tup (pa_cons (pe_ix ix_list (pv 3) pe_int (fun _ _ => rfl)) (pa_cons (pe_lc (own := [("k", 6)]) rfl sc__law_books.nd (pi_range1 (by rfl) T.b_range (pa_cons pe_int pa_nil)) (blkOk_by (own := [("k", 6)]) (N := N__law_books) (sc := defScope s__law_books) (by decide +kernel)) (fun _ _ _ _ _ => (pg_name (i := 6) sc__law_books.nd rfl (.inl rfl))) (fun _ _ _ _ _ => pts_nil) (fun _ _ _ _ _ => (pe_op op_rep (pe_lst (pa_cons pe_int pa_nil)) pe_int))) pa_nil))) (pa_cons (pe_tup (pa_cons (pe_ix ix_list (pv 3) pe_int (fun _ _ => rfl)) (pa_cons (pe_lst (pa_cons (pe_op op_rep (pe_lst (pa_cons pe_int pa_nil)) pe_int) pa_nil)) pa_nil))) pa_nil))))) pss_nil)
      (pss_cons (ps_set (i := 4) sc__law_books.nd rfl (.inl rfl) (pe_op op_add pe_int (pe_op op_mod (pe_ix ix_list (pv 2) pe_int (fun _ _ => rfl)) pe_int)))
      (C8.pss_cut (ps_if (pt_cmpR op_eq (pe_op op_mod (pe_ix ix_list (pv 2) pe_int (fun _ _ => rfl)) pe_int) pe_int (nomark _)) (pss_one (ps_set (i := 4) sc__law_books.nd rfl (.inl rfl) pe_int)) pss_nil)
      (pss_cons (ps_set (i := 5) sc__law_books.nd rfl (.inl rfl) (pe_lst pa_nil))
      (pss_cons (ps_for PassesOwn.never rfl (pi_range1 (by rfl) T.b_range (pa_cons (pv 4) pa_nil)) (pg_name (i := 6) sc__law_books.nd rfl (.inl rfl))
        (pss_cons (ps_set (i := 7) sc__law_books.nd rfl (.inl rfl) (pe_lst pa_nil))
        (pss_cons (ps_for PassesOwn.never rfl (pi_range1 (by rfl) T.b_range (pa_cons (pe_op op_add pe_int (pe_op op_mod (pe_ix ix_list (pv 2) (pe_op op_add pe_int (pv 6)) (fun _ _ => rfl)) pe_int)) pa_nil)) (pg_name (i := 8) sc__law_books.nd rfl (.inl rfl))
          (pss_cons (ps_set (i := 9) sc__law_books.nd rfl (.inl rfl) (pe_ix ix_list (pv 2) (pe_op op_add (pe_op op_add pe_int (pe_op op_mul pe_int (pv 6))) (pv 8)) (fun _ _ => rfl)))
          (pss_cons (ps_set (i := 10) sc__law_books.nd rfl (.inl rfl) (pe_op op_add pe_int (pe_op op_mod (pv 9) pe_int)))
          (pss_cons (ps_set (i := 9) sc__law_books.nd rfl (.inl rfl) (pe_op op_fdiv (pv 9) pe_int))
          (pss_cons (ps_expr (pe_bm PySem.F.plainAttrs_list PySem.F.slot_list_append PySem.F.type_list_append mt_append (pv 7) (pa_cons (pe_lst pa_nil) pa_nil)))
          (pss_one (ps_for PassesOwn.never rfl (pi_range1 (by rfl) T.b_range (pa_cons (pv 10) pa_nil)) (pg_name (i := 11) sc__law_books.nd rfl (.inl rfl))
            (pss_cons (ps_expr (pe_bm PySem.F.plainAttrs_list PySem.F.slot_list_append PySem.F.type_list_append mt_append (pe_ix ix_list (pv 7) (pe_un un_neg pe_int) (fun _ _ => rfl)) (pa_cons (pe_op op_add pe_int (pe_op op_mod (pv 9) pe_int)) pa_nil)))
            (pss_one (ps_set (i := 9) sc__law_books.nd rfl (.inl rfl) (pe_op op_fdiv (pv 9) pe_int)))))))))))
        (pss_one (ps_expr (pe_bm PySem.F.plainAttrs_list PySem.F.slot_list_append PySem.F.type_list_append mt_append (pv 5) (pa_cons (pe_tup (pa_cons (pe_ix ix_list (pv 3) (pv 6) (fun _ _ => rfl)) (pa_cons (pv 7) pa_nil))) pa_nil)))))))
      (pss_one (ps_ret (pv 5)))))))))), ?_⟩
    refine ⟨_, rfl, _, rfl, c, 60, sl, rfl, by decide, s0, s1, fun ns rl H1 lns hz hrl S1 erl => ?_⟩
    refine ⟨_, rfl, rl, ns, rfl, erl, by omega, by omega, hz, fun ws nl H2 okw lw hnl S2 enl => ?_⟩
    have S02 := S1.trans S2
    have erl2 := S2 _ _ erl
    have o2 := ho.same S02
    have get : ∀ i, i < 60 → ∃ z, (ns.map V.int)[i]? = some (.int z) ∧ 0 ≤ z ∧ z < 134217728 := fun i hi => by
      have h1 : ns[i]? = some ns[i] := List.getElem?_eq_getElem (by omega)
      exact ⟨ns[i], by rw [List.getElem?_map, h1]; rfl, hz _ (List.getElem_mem _)⟩
    have nm : ∀ i, i < 6 → ∃ w, ws[i]? = some w ∧ (nmV ws)[i]? = some (.str (SX.S w)) := fun i hi => by
      have h1 : ws[i]? = some ws[i] := List.getElem?_eq_getElem (by omega)
      exact ⟨ws[i], h1, by unfold nmV; rw [List.getElem?_map, h1]; rfl⟩
    obtain ⟨r10, g10, z10, _⟩ := get 10 (by decide)
    obtain ⟨r11, g11, z11, _⟩ := get 11 (by decide)
    refine ⟨_, rfl, rl, _, 10, _, rfl, rfl, .inl (.inl erl2), atI_nat (j := 10) g10, _, 16, rfl, rfl, (by show (0 : Int) < 16; decide), rfl, _, rfl, ite2 (fun _ => ?_) (fun _ => ?_)⟩
    · -- 400 parts
      obtain ⟨w0, hw0, e0⟩ := nm 0 (by decide)
      obtain ⟨w1, hw1, e1⟩ := nm 1 (by decide)
      refine ⟨_, rfl, nl, _, 0, _, rfl, rfl, .inl (.inl enl), atI_nat (j := 0) e0, 12, rfl, by decide, by decide, fun Dl hDl => ?_⟩
      refine lc_range (lo := 0) (n := 12) (fun i H' => ∃ rows : List V, LcS S H2 Dl rows (List.replicate i (rowD (List.replicate 30 1))) H') ⟨[], LcS.start hDl⟩ ?_ ?_
      · rintro i H3 hi ⟨rows, L⟩
        refine ⟨rfl, by show 1 ≤ sizeLine; decide, fun b hb => ⟨b, 30, _, rfl, rfl, upd_same, by decide, by decide, by show 1 * 30 ≤ sizeLine; decide, fun a ha => ?_⟩⟩
        have L2 := (L.keep (same_new (o := .lst [.int 1]) hb)).keep (same_new (o := .lst (List.replicate (30 : Int).toNat [V.int 1]).flatten) ha)
        have na : ¬ Plus S Dl a := ((L.keep (same_new (o := .lst [.int 1]) hb)).occ o2).free ha
        have hd : At (Plus S Dl) (upd (upd H3 b (.lst [.int 1])) a (.lst (List.replicate (30 : Int).toNat [V.int 1]).flatten)) (.ref a) (rowD (List.replicate 30 1)) := .ofrow na (by rw [upd_same, rep_int]; rfl)
        have L3 := L2.step hd
        refine ⟨rows, L2.at_, ?_, rows ++ [.ref a], ?_⟩
        · rw [L.len, List.length_replicate]
          exact sz1000 (by omega)
        · rw [List.replicate_succ']
          exact L3
      · rintro H3 ⟨rows, L⟩
        have S3 := L.s
        have nDl : ¬ S Dl := o2.free hDl
        have aD : At S H3 (.ref Dl) (bookD (List.replicate 12 (List.replicate 30 1))) := .lst nDl L.at_ (by rw [List.map_replicate]; exact L.done)
        have o3 := o2.same S3
        refine ⟨by show 2 ≤ sizeLine; decide, fun t1 ht1 => ?_⟩
        have S4 := same_new (o := .tup [.str (SX.S w0), .ref Dl]) ht1
        have a1 : At S (upd H3 t1 (.tup [.str (SX.S w0), .ref Dl])) (.ref t1) (bkLD (w0, List.replicate 12 (List.replicate 30 1))) := .tup (o3.free ht1) upd_same (.cons (.str _) (.cons (At.same aD S4) .nil))
        generalize upd H3 t1 (.tup [.str (SX.S w0), .ref Dl]) = H4 at S4 a1 ⊢
        have o4 := o3.same S4
        have S24 := S3.trans S4
        refine ⟨_, rfl, nl, _, 1, _, rfl, rfl, .inl (.inl (S24 _ _ enl)), atI_nat (j := 1) e1, by show 1 ≤ sizeLine; decide, fun b hb => ⟨b, 10, _, rfl, rfl, upd_same, by decide, by decide, by show 1 * 10 ≤ sizeLine; decide, fun a ha => ?_⟩⟩
        have S5 := (same_new (o := .lst [.int 4]) hb).trans (same_new (o := .lst (List.replicate (10 : Int).toNat [V.int 4]).flatten) ha)
        have o5 := o4.same (same_new (o := .lst [.int 4]) hb)
        have aa : At S (upd (upd H4 b (.lst [.int 4])) a (.lst (List.replicate (10 : Int).toNat [V.int 4]).flatten)) (.ref a) (rowD (List.replicate 10 4)) := .ofrow (o5.free ha) (by rw [upd_same, rep_int]; rfl)
        generalize upd (upd H4 b (.lst [.int 4])) a (.lst (List.replicate (10 : Int).toNat [V.int 4]).flatten) = H5 at S5 aa ⊢
        have o5 := o4.same S5
        refine ⟨by show 1 ≤ sizeLine; decide, fun c5 hc5 => ?_⟩
        have S6 := same_new (o := .lst [.ref a]) hc5
        have ac : At S (upd H5 c5 (.lst [.ref a])) (.ref c5) (bookD [List.replicate 10 4]) := .lst (o5.free hc5) upd_same (.cons (At.same aa S6) .nil)
        generalize upd H5 c5 (.lst [.ref a]) = H6 at S6 ac ⊢
        have o6 := o5.same S6
        refine ⟨by show 2 ≤ sizeLine; decide, fun t2 ht2 => ?_⟩
        have S7 := same_new (o := .tup [.str (SX.S w1), .ref c5]) ht2
        have a2 : At S (upd H6 t2 (.tup [.str (SX.S w1), .ref c5])) (.ref t2) (bkLD (w1, [List.replicate 10 4])) := .tup (o6.free ht2) upd_same (.cons (.str _) (.cons (At.same ac S7) .nil))
        generalize upd H6 t2 (.tup [.str (SX.S w1), .ref c5]) = H7 at S7 a2 ⊢
        have o7 := o6.same S7
        refine ⟨by show 2 ≤ sizeLine; decide, fun l hl => ?_⟩
        have S8 := same_new (o := .lst [.ref t1, .ref t2]) hl
        have S47 := (S5.trans S6).trans S7
        have S07 := S02.trans ((S24.trans S5).trans (S6.trans S7))
        refine q [(w0, List.replicate 12 (List.replicate 30 1)), (w1, [List.replicate 10 4])] l _ ?_ (S07.trans S8) (Same.fresh S07 hl) (.lst (o7.free hl) upd_same (.cons (At.same a1 (S47.trans S8)) (.cons (At.same a2 S8) .nil)))
        have nd2 : w0 ≠ w1 := fun z => by
          have h1 := (List.getElem?_inj (i := 0) (j := 1) (by omega) okw.nd).mp (by rw [hw0, hw1, z])
          cases h1
        refine ⟨by show 1 ≤ 2; decide, by show 2 ≤ 6; decide, ?_, fun b hb => ?_, fun b hb => ?_, by show ([12, 1] : List Nat).sum ≤ 40; decide, by show ([((List.replicate 12 (List.replicate 30 (1 : Int))).map List.sum).sum, ([List.replicate 10 (4 : Int)].map List.sum).sum] : List Int).sum ≤ 400; decide +kernel⟩
        · show [w0, w1].Nodup
          simp [nd2]
        · simp only [List.mem_cons, List.not_mem_nil, or_false] at hb
          rcases hb with rfl | rfl
          · exact okw.ok _ (List.mem_of_getElem? hw0)
          · exact okw.ok _ (List.mem_of_getElem? hw1)
        · simp only [List.mem_cons, List.not_mem_nil, or_false] at hb
          rcases hb with rfl | rfl
          · refine ⟨by show 1 ≤ 12; decide, by show 12 ≤ 12; decide, fun c hc => ?_⟩
            rw [List.eq_of_mem_replicate hc]
            exact ⟨by decide, by decide, by decide⟩
          · refine ⟨by show 1 ≤ 1; decide, by show 1 ≤ 12; decide, fun c hc => ?_⟩
            rw [List.mem_singleton.mp hc]
            exact ⟨by decide, by decide, by decide⟩
    · -- many
      have m0 := Int.emod_nonneg r11 (show (4 : Int) ≠ 0 by decide)
      have m1 := Int.emod_lt_of_pos r11 (show (0 : Int) < 4 by decide)
      refine ⟨_, rfl, rl, _, 11, _, rfl, rfl, .inl (.inl erl2), atI_nat (j := 11) g11, _, 4, rfl, rfl, (by show (0 : Int) < 4; decide), 1, _, rfl, rfl, ?_⟩
      refine ⟨fun σ' H' => ∃ m : Nat, σ' = [some (.int c), some (.int sl), some (.ref rl), some (.ref nl), some (.int (m : Nat)), none, none, none, none, none, none, none] ∧ 1 ≤ m ∧ m ≤ 6 ∧ H' = H2, ?_, ?_⟩
      · refine ⟨_, rfl, rl, _, 10, _, rfl, rfl, .inl (.inl erl2), atI_nat (j := 10) g10, _, 16, rfl, rfl, (by show (0 : Int) < 16; decide), rfl, _, rfl, ite2 (fun _ => ?_) (fun _ => ?_)⟩
        · exact ⟨6, rfl, by decide, by decide, rfl⟩
        · refine ⟨(1 + r11 % 4).toNat, ?_, by omega, by omega, rfl⟩
          rw [Int.toNat_of_nonneg (by omega)]
          rfl
      · rintro σ H2' ⟨m, rfl, m0, m6, rfl⟩
        refine ⟨Nat.zero_le _, fun bl hbl => ?_⟩
        refine ⟨_, rfl, _, rfl, by omega, by omega, ?_⟩
        rw [Int.toNat_natCast]
        refine for_range (lo := 0) (n := m) (fun i σ H' => ∃ (B : Bks) (rows : List V) (t6 t7 t8 t9 t10 t11 : Option V), σ = [some (.int c), some (.int sl), some (.ref rl), some (.ref nl), some (.int (m : Nat)), some (.ref bl), t6, t7, t8, t9, t10, t11] ∧ B.map (·.1) = ws.take i ∧ (∀ b ∈ B, smBk b) ∧ LcS S H2' bl rows (B.map bkLD) H') ⟨[], [], _, _, _, _, _, _, rfl, rfl, (fun _ z => nomatch z), LcS.start hbl⟩ ?_ ?_
        · rintro i σ H3 hi ⟨B, rows, t6, t7, t8, t9, t10, t11, rfl, eB, sB, L⟩
          have oS := L.occ o2
          refine ⟨Nat.zero_le _, fun cl hcl => ?_⟩
          obtain ⟨rk, gk, zk, _⟩ := get (12 + i) (by omega)
          have erl3 := L.s _ _ erl2
          have S4 := same_new (o := .lst []) hcl
          have c0 := Int.emod_nonneg rk (show (3 : Int) ≠ 0 by decide)
          have c1 := Int.emod_lt_of_pos rk (show (0 : Int) < 3 by decide)
          refine ⟨_, rfl, _, rfl, 12, _, rfl, rfl, rl, _, _, _, rfl, rfl, .inl (.inl (S4 _ _ erl3)), at_of (j := 12 + i) (by omega) gk, _, 3, rfl, rfl, (by show (0 : Int) < 3; decide), 1, _, rfl, rfl, _, rfl, by omega, by omega, ?_⟩
          have o4 : Occ (Plus S bl) (upd H3 cl (.lst [])) := oS.same S4
          refine for_range (lo := 0) (n := (1 + rk % 3).toNat) (fun j σ H' => ∃ (C : List (List Int)) (rws : List V) (t8 t9 t10 t11 : Option V), σ = [some (.int c), some (.int sl), some (.ref rl), some (.ref nl), some (.int (m : Nat)), some (.ref bl), some (.int (0 + (i : Int))), some (.ref cl), t8, t9, t10, t11] ∧ C.length = j ∧ (∀ c ∈ C, 1 ≤ c.length ∧ c.length ≤ 5 ∧ ∀ x ∈ c, 1 ≤ x ∧ x ≤ 4) ∧ LcS (Plus S bl) H3 cl rws (C.map rowD) H') ⟨[], [], _, _, _, _, rfl, rfl, (fun _ z => nomatch z), LcS.start hcl⟩ ?_ ?_
          · rintro j σ H5 hj ⟨C, rws, t8, t9, t10, t11, rfl, lC, kC, M⟩
            have j3 : j < 3 := by omega
            obtain ⟨rn, gn, zn, _⟩ := get (18 + 3 * i + j) (by omega)
            have erl5 := M.s _ _ erl3
            have d0 := Int.emod_nonneg rn (show (5 : Int) ≠ 0 by decide)
            have d1 := Int.emod_lt_of_pos rn (show (0 : Int) < 5 by decide)
            refine ⟨_, rfl, _, rfl, 3, _, rfl, rfl, .inl (by decide), 18, _, rfl, rfl, _, rfl, _, _, rfl, rfl, rl, _, _, _, rfl, rfl, .inl (.inl erl5), at_of (j := 18 + 3 * i + j) (by omega) gn, ?_⟩
            refine ⟨_, rfl, rn, 5, rfl, rfl, (by show (0 : Int) < 5; decide), 1, _, rfl, rfl, ?_⟩
            refine ⟨_, rfl, rn, 5, rfl, rfl, ⟨by decide, by decide⟩, ?_⟩
            -- a new row
            refine ⟨_, rfl, .inl ⟨rfl, _, .inl (.inl M.at_)⟩, Nat.zero_le _, fun w hw => ?_⟩
            have S6 := same_new (o := .lst []) hw
            have M6 := M.keep S6
            have wcl : w ≠ cl := fun z => by
              rw [z, M.at_] at hw
              cases hw
            have lrw : rws.length = j := by rw [M.len, List.length_map, lC]
            refine ⟨cl, _, _, rfl, rfl, M6.at_, by rw [lrw]; exact sz1000 (by omega), ?_⟩
            have nw : ¬ Plus (Plus S bl) cl w := (M.occ oS).free hw
            have aw : AtAll (Plus (Plus (Plus S bl) cl) w) (upd (upd H5 w (.lst [])) cl (.lst (rws ++ [.ref w]))) rws (C.map rowD) := by
              have a1 := AtAll.plusN M.a hw
              have U1 : BtS (Plus (Plus (Plus S bl) cl) w) H5 (upd H5 w (.lst [])) := BtS.upd (.inr rfl)
              have U2 : BtS (Plus (Plus (Plus S bl) cl) w) (upd H5 w (.lst [])) (upd (upd H5 w (.lst [])) cl (.lst (rws ++ [.ref w]))) := BtS.upd (.inl (.inr rfl))
              exact AtAll.bt U2 _ _ (AtAll.bt U1 _ _ a1)
            have ew : upd (upd H5 w (.lst [])) cl (.lst (rws ++ [.ref w])) w = some (.lst []) := by rw [upd_ne wcl, upd_same]
            have ec : upd (upd H5 w (.lst [])) cl (.lst (rws ++ [.ref w])) cl = some (.lst (rws ++ [.ref w])) := upd_same
            have S36 : Same H3 (upd (upd H5 w (.lst [])) cl (.lst (rws ++ [.ref w]))) := fun b o e => by
              rw [upd_ne (ne_of_none e hcl)]
              exact S6 _ _ (M.s b o e)
            have w3 : H3 w = none := Same.fresh M.s hw
            generalize upd (upd H5 w (.lst [])) cl (.lst (rws ++ [.ref w])) = H6 at aw ew ec S36 ⊢
            refine ⟨_, rfl, _, rfl, by omega, by omega, ?_⟩
            refine for_range (lo := 0) (n := (1 + rn % 5).toNat) (fun v σ H' => ∃ (r : List Int) (nn : Int) (t11 : Option V), σ = [some (.int c), some (.int sl), some (.ref rl), some (.ref nl), some (.int (m : Nat)), some (.ref bl), some (.int (0 + (i : Int))), some (.ref cl), some (.int (0 + (j : Int))), some (.int nn), some (.int (1 + rn % 5)), t11] ∧ r.length = v ∧ (∀ x ∈ r, 1 ≤ x ∧ x ≤ 4) ∧ BtS (O1 w) H6 H' ∧ H' w = some (.lst (r.map V.int))) ⟨[], _, _, rfl, rfl, (fun _ z => nomatch z), BtS.refl, ew⟩ ?_ ?_
            · rintro v σ H7 hv ⟨r, nn, t11, rfl, lr, kr, B7, e7⟩
              have ec7 := B7 _ _ (fun z => wcl z.symm) ec
              have f0 := Int.emod_nonneg nn (show (4 : Int) ≠ 0 by decide)
              have f1 := Int.emod_lt_of_pos nn (show (0 : Int) < 4 by decide)
              refine ⟨_, rfl, 1, rfl, cl, _, -1, .ref w, rfl, rfl, .inl (.inl ec7), atI_last _ _, .inl ⟨rfl, _, .inl (.inl e7)⟩, _, rfl, nn, 4, rfl, rfl, (by show (0 : Int) < 4; decide), 1, _, rfl, rfl, w, _, _, rfl, rfl, e7, by rw [List.length_map]; exact sz1000 (by omega), ?_⟩
              refine ⟨_, rfl, nn, 4, rfl, rfl, ⟨by decide, by decide⟩, r ++ [1 + nn % 4], _, _, rfl, by rw [List.length_append, lr]; rfl, fun x hx => ?_, B7.trans (BtS.upd rfl), by rw [upd_same, List.map_append]; rfl⟩
              rcases List.mem_append.mp hx with hx | hx
              · exact kr x hx
              · rw [List.mem_singleton.mp hx]
                omega
            · rintro σ H7 ⟨r, nn, t11, rfl, lr, kr, B7, e7⟩
              refine ⟨C ++ [r], rws ++ [.ref w], _, _, _, _, rfl, by rw [List.length_append, lC]; rfl, fun x hx => ?_, ⟨hcl, fun b o e => ?_, B7 _ _ (fun z => wcl z.symm) ec, ?_⟩⟩
              · rcases List.mem_append.mp hx with hx | hx
                · exact kC x hx
                · rw [List.mem_singleton.mp hx]
                  exact ⟨by omega, by omega, kr⟩
              · exact B7 _ _ (ne_of_none e w3) (S36 b o e)
              · rw [List.map_append]
                refine AtAll.app (AtAll.weak (fun _ z => .inl z) _ _ (AtAll.bt (B7.mono fun b z => .inr z) _ _ aw)) (.cons (.ofrow nw e7) .nil)
          · rintro σ H5 ⟨C, rws, t8, t9, t10, t11, rfl, lC, kC, M⟩
            have L5 := L.keep M.s
            have lB : B.length = i := by
              have := congrArg List.length eB
              rw [List.length_map, List.length_take] at this
              omega
            obtain ⟨wi, hwi, ei⟩ := nm i (by omega)
            have enl5 := L5.s _ _ enl
            have ncl : ¬ Plus S bl cl := oS.free hcl
            have aC : At (Plus S bl) H5 (.ref cl) (bookD C) := .lst ncl M.at_ M.done
            refine ⟨_, rfl, .inl ⟨rfl, _, .inl (.inl L5.at_)⟩, _, rfl, _, rfl, nl, _, _, _, rfl, rfl, .inl (.inl enl5), at_of (j := i) (by omega) ei, _, rfl, by show 2 ≤ sizeLine; decide, fun t ht => ?_⟩
            have S6 := same_new (o := .tup [.str (SX.S wi), .ref cl]) ht
            have L6 := L5.keep S6
            have nt : ¬ Plus S bl t := (oS.same M.s).free ht
            have at1 : At (Plus S bl) (upd H5 t (.tup [.str (SX.S wi), .ref cl])) (.ref t) (bkLD (wi, C)) := .tup nt upd_same (.cons (.str _) (.cons (At.same aC S6) .nil))
            refine ⟨bl, _, _, rfl, rfl, L6.at_, by rw [L.len, List.length_map, lB]; exact sz1000 (by omega), ?_⟩
            refine ⟨B ++ [(wi, C)], rows ++ [.ref t], _, _, _, _, _, _, rfl, ?_, fun b hb => ?_, ?_⟩
            · rw [List.map_append, eB, List.take_add_one, hwi]
              rfl
            · rcases List.mem_append.mp hb with hb | hb
              · exact sB b hb
              · rw [List.mem_singleton.mp hb]
                refine ⟨?_, ?_, kC⟩
                · show 1 ≤ C.length
                  omega
                · show C.length ≤ 3
                  omega
            · rw [List.map_append]
              exact L6.step at1
        · rintro σ H3 ⟨B, rows, t6, t7, t8, t9, t10, t11, rfl, eB, sB, L⟩
          have lB : B.length = m := by
            have := congrArg List.length eB
            rw [List.length_map, List.length_take] at this
            omega
          refine ⟨_, rfl, q B bl H3 (smBk.ok sB (by rw [eB]; exact okw.take m) (by omega) (by omega)) (S02.trans L.s) (Same.fresh S02 hbl) (.lst (o2.free hbl) L.at_ L.done)⟩
end
end My
set_option Elab.async false
set_option linter.all false
set_option maxRecDepth 100000
set_option maxHeartbeats 4000000
namespace My
open PySem PySem.Spec PyProof.Rows L2
theorem At.bkL {S : Av} {H : Hp} {v : V} {b : List Nat × List (List Int)} (h : At S H v (bkLD b)) : ∃ a c zs, v = .ref a ∧ ¬ S a ∧ H a = some (.tup [.str (SX.S b.1), .ref c]) ∧ ¬ S c ∧ H c = some (.lst zs) ∧ AtAll S H zs (b.2.map rowD) := by
  cases h with
  | tup n e k =>
    cases k with
    | cons h1 k2 =>
      cases k2 with
      | cons h2 k3 =>
        cases k3
        cases h1
        cases h2 with
        | lst n2 e2 k4 => exact ⟨_, _, _, rfl, n, e, n2, e2, k4⟩
theorem At.bksL {S : Av} {H : Hp} {v : V} {B : Bks} (h : At S H v (bksLD B)) : ∃ a xs, v = .ref a ∧ ¬ S a ∧ H a = some (.lst xs) ∧ AtAll S H xs (B.map bkLD) := by
  cases h with
  | lst n e k => exact ⟨_, _, rfl, n, e, k⟩
/-- books as the law makes them are books handed in -/
theorem bksL_in {S : Av} {H : Hp} {v : V} {B : Bks} (h : At S H v (bksLD B)) : BksIn S H v B := by
  obtain ⟨a, xs, rfl, n, e, k⟩ := h.bksL
  refine ⟨a, xs, rfl, .inl e, by rw [k.len, List.length_map], fun i x b h1 h2 => ?_⟩
  obtain ⟨b', h3, h4⟩ := k.at_ h1
  rw [h2] at h3
  cases h3
  obtain ⟨a2, c, zs, e1, n1, e2, n2, e3, k2⟩ := h4.bkL
  refine ⟨a2, c, zs, e1, e2, .inl e3, by rw [k2.len, List.length_map], fun j y cc h5 h6 => ?_⟩
  obtain ⟨c', h7, h8⟩ := k2.at_ h5
  rw [h6] at h7
  cases h7
  obtain ⟨a', e4, n4, e5⟩ := h8.row
  exact ⟨a', e4, n4, .inl e5⟩
def sp_copy : Sp := fun vs H Q _ => ∃ (S S0 : Av) (v : V) (B : Bks), vs = [v] ∧ Occ S H ∧ At S0 H v (bksLD B) ∧ B.length ≤ 6 ∧ (∀ b ∈ B, b.2.length ≤ 12) ∧ ∀ l H', H l = none → Same H H' → At S H' (.ref l) (bksLD B) → Q (.ref l) H'
def sp_spotsL : Sp := fun vs H Q _ => ∃ (S S0 : Av) (v : V) (B : Bks), vs = [v] ∧ Occ S H ∧ At S0 H v (bksLD B) ∧ okBks B ∧ ∀ l rows H', H l = none → Same H H' → H' l = some (.lst rows) → AtAll S H' rows ((plOf B).map plD) → Q (.ref l) H'
section
variable {P : Program} {w : World} {K : PySem.W.Frag} {mg : Str → Option Value} {base : Heap}
theorem ok_copy (T : Txt K mg) (D : Df K mg "_law_copy" s__law_copy ["books"]) : Cl P w K mg base 2 "_law_copy" ["books"] sp_copy := by
  refine ok_of D sc__law_copy (fun vs H Q E h => ?_) (fun f cdv A outer s H vs Q E hr h => ?_)
  · obtain ⟨S, S0, v, B, rfl, _⟩ := h
    rfl
  · obtain ⟨S, S0, v, B, rfl, ho, hv, l6, c12, q⟩ := h
    refine ⟨_, (pss_one (ps_ret (pe_lc (own := [("name", 2), ("chapters", 3)]) rfl sc__law_copy.nd (pi_list (pv 0)) (blkOk_by (own := [("name", 2), ("chapters", 3)]) (N := N__law_copy) (sc := defScope s__law_copy) (by decide +kernel)) (fun _ _ _ _ _ => (pg_tupK (K := K) (n := 2) rfl rfl (pgs_cons (pg_name (i := 2) sc__law_copy.nd rfl (.inl rfl)) (pgs_cons (pg_name (i := 3) sc__law_copy.nd rfl (.inl rfl)) pgs_nil)))) (fun _ _ _ _ _ => pts_nil) (fun _ _ _ _ _ => (pe_tup (pa_cons (pv 2) (pa_cons (pe_lc (own := [("chapter", 1)]) rfl sc__law_copy.nd (pi_listK (K := K) rfl (pv 3)) (blkOk_by (own := [("chapter", 1)]) (N := N__law_copy) (by kernel_rfl)) (fun _ _ _ _ _ => (pg_name (i := 1) sc__law_copy.nd rfl (.inl rfl))) (fun _ _ _ _ _ => pts_nil) (fun _ _ _ _ _ => (pe_callTy (call_list_ofK (K := K) rfl) (by rfl) T.b_list (by decide +kernel) (pa_cons (pv 1) pa_nil)))) pa_nil))))))), ?_⟩
    obtain ⟨a, xs, rfl, na, ea, ka⟩ := hv.bksL
    have lx : xs.length = B.length := by rw [ka.len, List.length_map]
    refine ⟨_, rfl, a, rfl, ⟨_, .inl (.inl ea)⟩, fun bl hbl => ?_⟩
    refine lc_it (walk_list (xs := xs)) (fun i H' => ∃ rows : List V, LcS S H bl rows ((B.take i).map bkLD) H') ⟨[], LcS.start hbl⟩ (fun i H' _ ⟨_, L⟩ => .inl (.inl (L.s _ _ ea))) ?_ ?_
    · rintro i y H1x H1 hi ⟨rows, L⟩ ⟨rfl, hy⟩
      obtain ⟨b, hb, hbv⟩ := ka.at_ hy
      obtain ⟨t, c, zs, rfl, nt, et, nc, ec, kz⟩ := hbv.bkL
      have lz : zs.length = b.2.length := by rw [kz.len, List.length_map]
      have c12 := c12 b (List.mem_of_getElem? hb)
      have oS := L.occ ho
      refine ⟨t, _, rfl, .inl (.inl (L.s _ _ et)), rfl, _, _, rfl, _, _, rfl, rfl, rfl, ?_⟩
      refine ⟨_, rfl, _, rfl, c, rfl, ⟨_, .inl (.inl (L.s _ _ ec))⟩, fun cl hcl => ?_⟩
      refine lc_it (walk_list (xs := zs)) (fun j H' => ∃ rws : List V, LcS (Plus S bl) H1 cl rws ((b.2.take j).map rowD) H') ⟨[], LcS.start hcl⟩ (fun i H' _ ⟨_, M⟩ => .inl (.inl (M.s _ _ (L.s _ _ ec)))) ?_ ?_
      · rintro j y H2x H2 hj ⟨rws, M⟩ ⟨rfl, hy2⟩
        obtain ⟨r, hrr, hrv⟩ := kz.at_ hy2
        obtain ⟨ar, rfl, nar, ear⟩ := hrv.row
        refine ⟨rfl, _, rfl, ar, _, rfl, .inl (.inl (.inl (M.s _ _ (L.s _ _ ear)))), fun l hl => ?_⟩
        have M2 := M.keep (same_new (o := .lst (r.map V.int)) hl)
        have nl : ¬ Plus (Plus S bl) cl l := (M.occ oS).free hl
        have lr : rws.length ≤ j := by
          rw [M.len, List.length_map, List.length_take]
          omega
        refine ⟨rws, M2.at_, sz1000 (by omega), rws ++ [.ref l], ?_⟩
        rw [List.take_add_one, hrr, List.map_append]
        exact M2.step (.ofrow nl upd_same)
      · rintro H2 ⟨rws, M⟩
        rw [lz, List.take_length] at M
        have L2 := L.keep M.s
        have ncl : ¬ Plus S bl cl := oS.free hcl
        have aC : At (Plus S bl) H2 (.ref cl) (bookD b.2) := .lst ncl M.at_ M.done
        refine ⟨by show 2 ≤ sizeLine; decide, fun t2 ht2 => ?_⟩
        have S3 := same_new (o := .tup [.str (SX.S b.1), .ref cl]) ht2
        have L3 := L2.keep S3
        have nt2 : ¬ Plus S bl t2 := (oS.same M.s).free ht2
        have lr : rows.length ≤ i := by
          rw [L.len, List.length_map, List.length_take]
          omega
        refine ⟨rows, L3.at_, sz1000 (by omega), rows ++ [.ref t2], ?_⟩
        rw [List.take_add_one, hb, List.map_append]
        exact L3.step (.tup nt2 upd_same (.cons (.str _) (.cons (At.same aC S3) .nil)))
    · rintro H1 ⟨rows, L⟩
      rw [lx, List.take_length] at L
      exact q bl H1 hbl L.s (.lst (ho.free hbl) L.at_ L.done)
theorem ok_spotsL (T : Txt K mg) (D : Df K mg "_law_spots" s__law_spots ["books"]) : Cl P w K mg base 2 "_law_spots" ["books"] sp_spotsL := by
  refine ok_of D sc__law_spots (fun vs H Q E h => ?_) (fun f cdv A outer s H vs Q E hr h => ?_)
  · obtain ⟨S, S0, v, B, rfl, _⟩ := h
    rfl
  · obtain ⟨S, S0, v, B, rfl, ho, hv, ok, q⟩ := h
    refine ⟨_, (pss_cons (ps_set (i := 1) sc__law_spots.nd rfl (.inl rfl) (pe_lst pa_nil))
      (pss_cons (ps_for PassesOwn.never rfl (pi_list (pv 0)) (pg_tup rfl (pgs_cons (pg_name (i := 2) sc__law_spots.nd rfl (.inr rfl)) (pgs_cons (pg_name (i := 3) sc__law_spots.nd rfl (.inl rfl)) pgs_nil)))
        (pss_one (ps_for PassesOwn.never rfl (pi_range1 (by rfl) T.b_range (pa_cons (pe_callB call_len (by rfl) T.b_len (by decide +kernel) (pa_cons (pv 3) pa_nil)) pa_nil)) (pg_name (i := 4) sc__law_spots.nd rfl (.inr rfl))
          (pss_one (ps_for PassesOwn.never rfl (pi_range1 (by rfl) T.b_range (pa_cons (pe_callB call_len (by rfl) T.b_len (by decide +kernel) (pa_cons (pe_ix ix_list (pv 3) (pv 4) (fun _ _ => rfl)) pa_nil)) pa_nil)) (pg_name (i := 5) sc__law_spots.nd rfl (.inr rfl))
            (pss_one (ps_expr (pe_bm PySem.F.plainAttrs_list PySem.F.slot_list_extend PySem.F.type_list_extend mt_extend (pv 1) (pa_cons (pe_lc (own := [("p", 6)]) rfl sc__law_spots.nd (pi_range1 (by rfl) T.b_range (pa_cons (pe_ix ix_list (pe_ix ix_list (pv 3) (pv 4) (fun _ _ => rfl)) (pv 5) (fun _ _ => rfl)) pa_nil)) (blkOk_by (own := [("p", 6)]) (N := N__law_spots) (sc := defScope s__law_spots) (by decide +kernel)) (fun _ _ _ _ _ => (pg_name (i := 6) sc__law_spots.nd rfl (.inl rfl))) (fun _ _ _ _ _ => pts_nil) (fun _ _ _ _ _ => (pe_tup (pa_cons (pv 2) (pa_cons (pe_op op_add (pv 4) pe_int) (pa_cons (pe_op op_add (pv 5) pe_int) (pa_cons (pe_op op_add (pv 6) pe_int) pa_nil))))))) pa_nil)))))))))
      (pss_one (ps_ret (pv 1))))), ?_⟩
    obtain ⟨a, xs, rfl, na, ea, ka⟩ := hv.bksL
    refine ⟨Nat.zero_le _, fun k hk => ?_⟩
    have lx : xs.length = B.length := by rw [ka.len, List.length_map]
    have bnd : ∀ b ∈ B, b.2.length ≤ 12 ∧ ∀ c ∈ b.2, c.length ≤ 30 ∧ ∀ m ∈ c, m ≤ 4 := fun b hb => ⟨(ok.ch b hb).2.1, fun c hc => ⟨((ok.ch b hb).2.2 c hc).l1, fun m hm => (((ok.ch b hb).2.2 c hc).x m hm).2⟩⟩
    refine ⟨.ref a, rfl, a, rfl, ⟨_, .inl (.inl (same_new hk _ _ ea))⟩, for_it (walk_list (xs := xs)) (fun i σ H' => ∃ (t2 t3 t4 t5 t6 : Option V) (rows : List V), σ = [some (.ref a), some (.ref k), t2, t3, t4, t5, t6] ∧ LcS S H k rows ((plOf (B.take i)).map plD) H')
      ⟨_, _, _, _, _, _, rfl, LcS.start hk⟩ (fun i σ H' _ ⟨_, _, _, _, _, _, _, L⟩ => .inl (.inl (L.s _ _ ea))) ?_ ?_⟩
    · rintro i x σ H1 H1' hi ⟨t2, t3, t4, t5, t6, rows, rfl, L1⟩ ⟨rfl, hxi⟩
      obtain ⟨b, hb, hv⟩ := ka.at_ hxi
      have hbm : b ∈ B := List.mem_of_getElem? hb
      obtain ⟨ab, ac, zs, rfl, nb, eb, nc, ec, kz⟩ := hv.bkL
      have lz : zs.length = b.2.length := by rw [kz.len, List.length_map]
      have lB := plOf_len (B := B.take i) fun b hb => bnd b (List.mem_of_mem_take hb)
      rw [List.length_take] at lB
      have okl := ok.l1
      have okc := (bnd b hbm).1
      refine ⟨ab, _, rfl, .inl (.inl (L1.s _ _ eb)), rfl, _, _, rfl, _, _, rfl, rfl, ?_⟩
      refine ⟨.ref ac, rfl, _, _, rfl, .inl ⟨_, .inl (.inl (L1.s _ _ ec)), rfl⟩, _, rfl, by omega, by omega, ?_⟩
      rw [Int.toNat_natCast]
      refine for_range (lo := 0) (n := zs.length) (fun j σ H' => ∃ (t4 t5 t6 : Option V) (rows : List V), σ = [some (.ref a), some (.ref k), some (.str (SX.S b.1)), some (.ref ac), t4, t5, t6] ∧ LcS S H k rows ((plOf (B.take i) ++ plB (b.1, b.2.take j)).map plD) H') ⟨_, _, _, rows, rfl, ?_⟩ ?_ ?_
      · have e0 : plB (b.1, b.2.take 0) = [] := rfl
        rw [e0, List.append_nil]
        exact L1
      · rintro j σ H2 hj ⟨t4, t5, t6, rows, rfl, L2⟩
        have hzj : zs[j]? = some zs[j] := List.getElem?_eq_getElem hj
        obtain ⟨c, hc, hcv⟩ := kz.at_ hzj
        have hcm : c ∈ b.2 := List.mem_of_getElem? hc
        obtain ⟨ad, ead0, nd, ed⟩ := hcv.row
        rw [ead0] at hzj
        have lC := plB_len (b := (b.1, b.2.take j)) fun c hc => (bnd b hbm).2 c (List.mem_of_mem_take hc)
        have lC : (plB (b.1, b.2.take j)).length ≤ 120 * (b.2.take j).length := lC
        rw [List.length_take] at lC
        have okr := (ok.ch b hbm).2.2 c hcm
        have okv := okr.l1
        have zj : (0 : Int) + (j : Int) = (j : Nat) := Int.zero_add _
        refine ⟨_, rfl, _, rfl, ac, _, _, _, rfl, rfl, .inl (.inl (L2.s _ _ ec)), at_of (j := j) zj hzj, _, _, rfl, .inl ⟨_, .inl (.inl (L2.s _ _ ed)), rfl⟩, _, rfl, by rw [List.length_map]; omega, by rw [List.length_map]; omega, ?_⟩
        rw [Int.toNat_natCast, List.length_map]
        refine for_range (lo := 0) (n := c.length) (fun v σ H' => ∃ (t5 t6 : Option V) (rows : List V), σ = [some (.ref a), some (.ref k), some (.str (SX.S b.1)), some (.ref ac), some (.int (0 + (j : Int))), t5, t6] ∧ LcS S H k rows ((plOf (B.take i) ++ plB (b.1, b.2.take j) ++ plC b.1 j (c.take v)).map plD) H') ⟨_, _, rows, rfl, ?_⟩ ?_ ?_
        · have e0 : plC b.1 j (c.take 0) = [] := rfl
          rw [e0, List.append_nil]
          exact L2
        · rintro v σ H3 hv3 ⟨t5, t6, rows, rfl, L3⟩
          obtain ⟨mm, hmm⟩ : ∃ mm, c[v]? = some mm := ⟨_, List.getElem?_eq_getElem hv3⟩
          have hm4 := okr.x mm (List.mem_of_getElem? hmm)
          have lD := plC_len (nm := b.1) (ci := j) (c := c.take v) fun m hm => (((okr.x m (List.mem_of_mem_take hm))).2)
          rw [List.length_take] at lD
          have zv : (0 : Int) + (v : Int) = (v : Nat) := Int.zero_add _
          have oS := L3.occ ho
          refine ⟨.ref k, rfl, .inl ⟨rfl, _, .inl (.inl L3.at_)⟩, _, rfl, _, rfl, ac, _, _, _, rfl, rfl, .inl (.inl (L3.s _ _ ec)), at_of (j := j) zj hzj, _, rfl, ad, _, _, _, rfl, rfl, .inl (.inl (L3.s _ _ ed)), at_of (j := v) zv (by rw [List.getElem?_map, hmm]; rfl), _, rfl, by omega, by omega, fun n hn => ?_⟩
          refine lc_range (lo := 0) (n := mm.toNat) (fun m H' => ∃ new : List V, LcS (Plus S k) H3 n new ((plV b.1 j v (m : Int)).map plD) H') ⟨[], LcS.start hn⟩ ?_ ?_
          · rintro m H4 hm ⟨new, N⟩
            have ln : new.length = m := by
              rw [N.len, List.length_map, plV_len]
              omega
            refine ⟨rfl, _, rfl, _, rfl, _, 1, rfl, rfl, _, rfl, _, 1, rfl, rfl, _, rfl, _, 1, rfl, rfl, by show 4 ≤ sizeLine; decide, fun t ht => ?_⟩
            have e4 : [V.str (SX.S b.1), .int (0 + (j : Int) + 1), .int (0 + (v : Int) + 1), .int (0 + (m : Int) + 1)] = [.str (SX.S b.1), .int (1 + (j : Int)), .int (1 + (v : Int)), .int (1 + (m : Int))] := by
              rw [show (0 : Int) + (j : Int) + 1 = 1 + (j : Int) by omega, show (0 : Int) + (v : Int) + 1 = 1 + (v : Int) by omega, show (0 : Int) + (m : Int) + 1 = 1 + (m : Int) by omega]
            have N2 := N.keep (same_new (o := .tup [.str (SX.S b.1), .int (0 + (j : Int) + 1), .int (0 + (v : Int) + 1), .int (0 + (m : Int) + 1)]) ht)
            refine ⟨new, N2.at_, Evl.sz_lt (by omega), new ++ [.ref t], ?_⟩
            have nt : ¬ Plus (Plus S k) n t := (N.occ oS).free ht
            have et : upd H4 t (.tup [.str (SX.S b.1), .int (0 + (j : Int) + 1), .int (0 + (v : Int) + 1), .int (0 + (m : Int) + 1)]) t = some (.tup [.str (SX.S b.1), .int (1 + (j : Int)), .int (1 + (v : Int)), .int (1 + (m : Int))]) := by
              rw [upd_same, e4]
            have hd : At (Plus (Plus S k) n) (upd H4 t (.tup [.str (SX.S b.1), .int (0 + (j : Int) + 1), .int (0 + (v : Int) + 1), .int (0 + (m : Int) + 1)])) (.ref t) (plD ⟨b.1, 1 + (j : Int), 1 + (v : Int), 1 + (m : Int)⟩) := .tup nt et (.cons (.str _) (.cons (.int _) (.cons (.int _) (.cons (.int _) .nil))))
            have N3 := N2.step hd
            have ev : plV b.1 j v (((m + 1 : Nat)) : Int) = plV b.1 j v (m : Int) ++ [⟨b.1, 1 + (j : Int), 1 + (v : Int), 1 + (m : Int)⟩] := by
              unfold plV
              rw [Int.toNat_natCast, Int.toNat_natCast, List.range_succ, List.map_append]
              rfl
            rw [ev, List.map_append]
            exact N3
          · rintro H4 ⟨new, N⟩
            have em : ((mm.toNat : Nat) : Int) = mm := Int.toNat_of_nonneg (by omega)
            rw [em] at N
            have L4 := L3.keep N.s
            have ln : new.length = mm.toNat := by
              rw [N.len, List.length_map, plV_len]
            have lr : rows.length ≤ 1440 * 6 + 120 * 12 + 4 * 30 := by
              rw [L3.len, List.length_map, List.length_append, List.length_append]
              omega
            refine ⟨k, n, _, _, rfl, rfl, L4.at_, N.at_, Nat.le_of_lt (Evl.sz_lt (by omega)), _, _, rows ++ new, rfl, ?_⟩
            have ev : plC b.1 j (c.take (v + 1)) = plC b.1 j (c.take v) ++ plV b.1 j v mm := by
              unfold plC
              rw [zi_succ hmm, List.flatMap_append]
              simp
            rw [ev, ← List.append_assoc, List.map_append (l₂ := plV b.1 j v mm)]
            exact L4.put (L4.a.app N.done)
        · rintro σ H3 ⟨t5, t6, rows, rfl, L3⟩
          rw [List.take_length] at L3
          refine ⟨_, _, _, rows, rfl, ?_⟩
          have ev : plB (b.1, b.2.take (j + 1)) = plB (b.1, b.2.take j) ++ plC b.1 j c := by
            unfold plB
            show ((b.2.take (j + 1)).zipIdx.flatMap _) = ((b.2.take j).zipIdx.flatMap _) ++ _
            rw [zi_succ hc, List.flatMap_append]
            simp
          rw [ev, ← List.append_assoc]
          exact L3
      · rintro σ H2 ⟨t4, t5, t6, rows, rfl, L2⟩
        rw [lz, List.take_length] at L2
        refine ⟨_, _, _, _, _, rows, rfl, ?_⟩
        have ev : plOf (B.take (i + 1)) = plOf (B.take i) ++ plB b := by
          unfold plOf
          rw [List.take_add_one, hb, List.flatMap_append]
          simp
        rw [ev]
        exact L2
    · rintro σ H1 ⟨t2, t3, t4, t5, t6, rows, rfl, L⟩
      rw [lx, List.take_length] at L
      exact ⟨.ref k, rfl, q k rows H1 hk L.s L.at_ L.done⟩
end
end My
set_option Elab.async false
set_option linter.all false
set_option maxRecDepth 100000
set_option maxHeartbeats 4000000
namespace My
open PySem PySem.Spec PyProof.Rows L2
/-! H1e: two that stand for the same are told alike. -/
theorem ix_seqK {X : Cx} {K : PySem.W.Frag} (h : X.K = K) : IxR X (rIx K) := h ▸ ix_seq
/-- data of less than n steps into the depth -/
def Dpt : Nat → PyData → Prop
  | 0, _ => False
  | n + 1, d => ((∃ b, d = .bool b) ∨ d = .none) ∨ (∃ i, d = .int i) ∨ (∃ s : Str, d = .str s) ∨ ∃ ds : List PyData, ds.length ≤ 1000 ∧ (∀ x ∈ ds, Dpt n x) ∧ (d = .list ds ∨ d = .tuple ds)
def sp_alike (n : Nat) : Sp := fun vs H Q _ => ∃ (S1 S2 : Av) (f d : V) (D : PyData), vs = [f, d] ∧ At S1 H f D ∧ At S2 H d D ∧ Dpt n D ∧ ∀ H', Same H H' → Q (.bl true) H'
section
variable {P : Program} {w : World} {K : PySem.W.Frag} {mg : Str → Option Value} {base : Heap}
theorem ok_alike0 (T : Txt K mg) (D : Df K mg "_law_alike" s__law_alike ["found", "due"]) : Cl P w K mg base 1 "_law_alike" ["found", "due"] (sp_alike 0) := by
  refine ok_of D sc__law_alike (fun vs H Q E h => ?_) (fun f cdv A outer s H vs Q E hr h => ?_)
  · obtain ⟨_, _, _, _, _, _, _, _, h, _⟩ := h
    exact h.elim
  · obtain ⟨_, _, _, _, _, _, _, _, h, _⟩ := h
    exact h.elim
theorem ok_alikeS {k n : Nat} (T : Txt K mg) (c__law_alike : Cl P w K mg base (k + 1) "_law_alike" ["found", "due"] (sp_alike n)) (D : Df K mg "_law_alike" s__law_alike ["found", "due"]) : Cl P w K mg base (k + 2) "_law_alike" ["found", "due"] (sp_alike (n + 1)) := by
  refine ok_of D sc__law_alike (fun vs H Q E h => ?_) (fun f cdv A outer s H vs Q E hr h => ?_)
  · obtain ⟨_, _, _, _, _, rfl, _⟩ := h
    rfl
  · obtain ⟨S1, S2, fo, du, D, rfl, hf, hd, dp, q⟩ := h
    refine ⟨_, (pss_cons (ps_if (pt_cmpR op_isN (pv 1) pe_non (nomark _)) (pss_one (ps_ret (pe_cmpR op_isN (pv 0) pe_non (nomark _)))) pss_nil)
      (pss_cons (ps_if (pt_val (pe_callB call_isb (by rfl) T.b_isinstance (by decide +kernel) (pa_cons (pv 1) (pa_cons (pe_bltn (v := .ty "bool") (u := .type "bool") (by rfl) T.b_bool (by decide +kernel) rfl) pa_nil)))) (pss_one (ps_ret (pe_and (pe_callB call_isb (by rfl) T.b_isinstance (by decide +kernel) (pa_cons (pv 0) (pa_cons (pe_bltn (v := .ty "bool") (u := .type "bool") (by rfl) T.b_bool (by decide +kernel) rfl) pa_nil))) (pe_one (pe_cmpR op_eq (pv 0) (pv 1) (nomark _)))))) pss_nil)
      (pss_cons (ps_if (pt_val (pe_callB call_isb (by rfl) T.b_isinstance (by decide +kernel) (pa_cons (pv 1) (pa_cons (pe_bltn (v := .ty "int") (u := .type "int") (by rfl) T.b_int (by decide +kernel) rfl) pa_nil)))) (pss_one (ps_ret (pe_and (pe_callB call_isb (by rfl) T.b_isinstance (by decide +kernel) (pa_cons (pv 0) (pa_cons (pe_bltn (v := .ty "int") (u := .type "int") (by rfl) T.b_int (by decide +kernel) rfl) pa_nil))) (pe_and (pe_not (pe_callB call_isb (by rfl) T.b_isinstance (by decide +kernel) (pa_cons (pv 0) (pa_cons (pe_bltn (v := .ty "bool") (u := .type "bool") (by rfl) T.b_bool (by decide +kernel) rfl) pa_nil)))) (pe_one (pe_cmpR op_eq (pv 0) (pv 1) (nomark _))))))) pss_nil)
      (pss_cons (ps_if (pt_val (pe_callB call_isb (by rfl) T.b_isinstance (by decide +kernel) (pa_cons (pv 1) (pa_cons (pe_bltn (v := .ty "str") (u := .type "str") (by rfl) T.b_str (by decide +kernel) rfl) pa_nil)))) (pss_one (ps_ret (pe_and (pe_callB call_isb (by rfl) T.b_isinstance (by decide +kernel) (pa_cons (pv 0) (pa_cons (pe_bltn (v := .ty "str") (u := .type "str") (by rfl) T.b_str (by decide +kernel) rfl) pa_nil))) (pe_one (pe_cmpR op_eq (pv 0) (pv 1) (nomark _)))))) pss_nil)
      (C8.pss_cut (ps_if (pt_val (pe_callB call_isb (by rfl) T.b_isinstance (by decide +kernel) (pa_cons (pv 1) (pa_cons (pe_bltn (v := .ty "tuple") (u := .type "tuple") (by rfl) T.b_tuple (by decide +kernel) rfl) pa_nil)))) (pss_one (ps_if (pt_not (pt_val (pe_callB call_isb (by rfl) T.b_isinstance (by decide +kernel) (pa_cons (pv 0) (pa_cons (pe_bltn (v := .ty "tuple") (u := .type "tuple") (by rfl) T.b_tuple (by decide +kernel) rfl) pa_nil))))) (pss_one (ps_ret pe_bl)) pss_nil)) (pss_one (ps_if (pt_not (pt_val (pe_callB call_isb (by rfl) T.b_isinstance (by decide +kernel) (pa_cons (pv 0) (pa_cons (pe_bltn (v := .ty "list") (u := .type "list") (by rfl) T.b_list (by decide +kernel) rfl) pa_nil))))) (pss_one (ps_ret pe_bl)) pss_nil)))
      (pss_cons (ps_if (pt_cmpR op_ne (pe_callB call_len (by rfl) T.b_len (by decide +kernel) (pa_cons (pv 0) pa_nil)) (pe_callB call_len (by rfl) T.b_len (by decide +kernel) (pa_cons (pv 1) pa_nil)) (nomark _)) (pss_one (ps_ret pe_bl)) pss_nil)
      (pss_one (ps_ret (pe_callB (cr_all rfl) (by rfl) T.b_all (by decide +kernel) (pa_cons (pe_lc (own := [("k", 2)]) rfl sc__law_alike.nd (pi_range1 (by rfl) T.b_range (pa_cons (pe_callB call_len (by rfl) T.b_len (by decide +kernel) (pa_cons (pv 1) pa_nil)) pa_nil)) (blkOk_by (own := [("k", 2)]) (N := N__law_alike) (sc := defScope s__law_alike) (by decide +kernel)) (fun _ _ _ _ _ => (pg_name (i := 2) sc__law_alike.nd rfl (.inl rfl))) (fun _ _ _ _ _ => pts_nil) (fun _ _ _ _ _ => (pe_cl c__law_alike hr (Nat.le_refl _) (by rfl) (pa_cons (pe_ix (ix_seqK (K := K) rfl) (pv 0) (pv 2) (fun _ _ => rfl)) (pa_cons (pe_ix (ix_seqK (K := K) rfl) (pv 1) (pv 2) (fun _ _ => rfl)) pa_nil))))) pa_nil)))))))))), ?_⟩
    have no : ∀ {x : V}, x ≠ .non → ∀ {Q1 Q2 : Prop}, Q2 → (if decide (x = V.non) = true then Q1 else Q2) := fun h _ _ q => ite2 (fun z => absurd (of_decide_eq_true z) h) fun _ => q
    rcases dp with (⟨b, rfl⟩ | rfl) | ⟨i, rfl⟩ | ⟨z, rfl⟩ | ⟨ds, l1, sub, e⟩
    · cases hf
      cases hd
      refine ⟨_, rfl, rfl, _, rfl, no (by intro z; cases z) ?_⟩
      refine ⟨_, rfl, isi_b (b := true) (.bl _) (by decide +kernel) ⟨_, rfl, ite2 (fun _ => ?_) fun z => absurd (show true = true from rfl) z⟩⟩
      refine ⟨_, rfl, isi_b (b := true) (.bl _) (by decide +kernel) ⟨_, rfl, ite2 (fun _ => ?_) fun z => absurd (show true = true from rfl) z⟩⟩
      refine ⟨_, rfl, _, rfl, rfl, ?_⟩
      rw [decide_eq_true rfl]
      exact q H (Same.refl H)
    · cases hf
      cases hd
      refine ⟨_, rfl, rfl, _, rfl, ite2 (fun _ => ?_) fun z => absurd (decide_eq_true rfl) z⟩
      refine ⟨_, rfl, rfl, ?_⟩
      rw [decide_eq_true rfl]
      exact q H (Same.refl H)
    · cases hf
      cases hd
      refine ⟨_, rfl, rfl, _, rfl, no (by intro z; cases z) ?_⟩
      refine ⟨_, rfl, isi_b (b := false) (.int _) (by decide +kernel) ⟨_, rfl, ite2 (fun z => absurd z (by decide)) fun _ => ?_⟩⟩
      refine ⟨_, rfl, isi_b (b := true) (.int _) (by decide +kernel) ⟨_, rfl, ite2 (fun _ => ?_) fun z => absurd (show true = true from rfl) z⟩⟩
      refine ⟨_, rfl, isi_b (b := true) (.int _) (by decide +kernel) ⟨_, rfl, ite2 (fun _ => ?_) fun z => absurd (show true = true from rfl) z⟩⟩
      refine ⟨_, rfl, isi_b (b := false) (.int _) (by decide +kernel) ⟨_, rfl, _, rfl, ite2 (fun _ => ?_) fun z => absurd (show (!false) = true from rfl) z⟩⟩
      refine ⟨_, rfl, _, rfl, rfl, ?_⟩
      rw [decide_eq_true rfl]
      exact q H (Same.refl H)
    · cases hf
      cases hd
      refine ⟨_, rfl, rfl, _, rfl, no (by intro z; cases z) ?_⟩
      refine ⟨_, rfl, isi_b (b := false) (.str _) (by decide +kernel) ⟨_, rfl, ite2 (fun z => absurd z (by decide)) fun _ => ?_⟩⟩
      refine ⟨_, rfl, isi_b (b := false) (.str _) (by decide +kernel) ⟨_, rfl, ite2 (fun z => absurd z (by decide)) fun _ => ?_⟩⟩
      refine ⟨_, rfl, isi_b (b := true) (.str _) (by decide +kernel) ⟨_, rfl, ite2 (fun _ => ?_) fun z => absurd (show true = true from rfl) z⟩⟩
      refine ⟨_, rfl, isi_b (b := true) (.str _) (by decide +kernel) ⟨_, rfl, ite2 (fun _ => ?_) fun z => absurd (show true = true from rfl) z⟩⟩
      refine ⟨_, rfl, _, rfl, rfl, ?_⟩
      rw [decide_eq_true rfl]
      exact q H (Same.refl H)
    · obtain ⟨a1, xs, a2, ys, rfl, rfl, k1, k2, kind⟩ : ∃ a1 xs a2 ys, fo = .ref a1 ∧ du = .ref a2 ∧ AtAll S1 H xs ds ∧ AtAll S2 H ys ds ∧ ((H a1 = some (.lst xs) ∧ H a2 = some (.lst ys)) ∨ (H a1 = some (.tup xs) ∧ H a2 = some (.tup ys))) := by
        rcases e with rfl | rfl
        · cases hf with
          | lst n1 e1 k1 =>
          cases hd with
          | lst n2 e2 k2 => exact ⟨_, _, _, _, rfl, rfl, k1, k2, .inl ⟨e1, e2⟩⟩
        · cases hf with
          | tup n1 e1 k1 =>
          cases hd with
          | tup n2 e2 k2 => exact ⟨_, _, _, _, rfl, rfl, k1, k2, .inr ⟨e1, e2⟩⟩
      clear hf hd e
      have lx : xs.length = ds.length := k1.len
      have ly : ys.length = ds.length := k2.len
      have nB : ∀ {Q : VK}, Q (.bl false) H → RB K [.ref a2, .ty "bool"] H Q := fun q => kind.elim (fun e => isi_b (b := false) (.lst e.2) (by decide +kernel) q) fun e => isi_b (b := false) (.tup e.2) (by decide +kernel) q
      have nI : ∀ {Q : VK}, Q (.bl false) H → RB K [.ref a2, .ty "int"] H Q := fun q => kind.elim (fun e => isi_b (b := false) (.lst e.2) (by decide +kernel) q) fun e => isi_b (b := false) (.tup e.2) (by decide +kernel) q
      have nS : ∀ {Q : VK}, Q (.bl false) H → RB K [.ref a2, .ty "str"] H Q := fun q => kind.elim (fun e => isi_b (b := false) (.lst e.2) (by decide +kernel) q) fun e => isi_b (b := false) (.tup e.2) (by decide +kernel) q
      refine ⟨_, rfl, rfl, _, rfl, no (by intro z; cases z) ?_⟩
      refine ⟨_, rfl, nB ⟨_, rfl, ite2 (fun z => absurd z (by decide)) fun _ => ?_⟩⟩
      refine ⟨_, rfl, nI ⟨_, rfl, ite2 (fun z => absurd z (by decide)) fun _ => ?_⟩⟩
      refine ⟨_, rfl, nS ⟨_, rfl, ite2 (fun z => absurd z (by decide)) fun _ => ?_⟩⟩
      refine ⟨fun σ H' => σ = L2.start N__law_alike [.ref a1, .ref a2] ∧ H' = H, ?_, ?_⟩
      · rcases kind with ⟨e1, e2⟩ | ⟨e1, e2⟩
        · refine ⟨_, rfl, isi_b (b := false) (.lst e2) (by decide +kernel) ⟨_, rfl, ite2 (fun z => absurd z (by decide)) fun _ => ?_⟩⟩
          exact ⟨_, rfl, isi_b (b := true) (.lst e1) (by decide +kernel) ⟨_, rfl, ite2 (fun z => absurd z (by decide)) fun _ => ⟨rfl, rfl⟩⟩⟩
        · refine ⟨_, rfl, isi_b (b := true) (.tup e2) (by decide +kernel) ⟨_, rfl, ite2 (fun _ => ?_) fun z => absurd (show true = true from rfl) z⟩⟩
          exact ⟨_, rfl, isi_b (b := true) (.tup e1) (by decide +kernel) ⟨_, rfl, ite2 (fun z => absurd z (by decide)) fun _ => ⟨rfl, rfl⟩⟩⟩
      · rintro σ H' ⟨rfl, rfl⟩
        clear nB nI nS
        have k1 : AtAll S1 H' xs (ds.map id) := by rw [List.map_id]; exact k1
        have k2 : AtAll S2 H' ys (ds.map id) := by rw [List.map_id]; exact k2
        have len1 : LenV K (.ref a1) H' xs.length := kind.elim (fun e => .inl ⟨xs, .inl (.inl e.1), rfl⟩) fun e => .inr ⟨xs, .inl (.inl e.1), rfl⟩
        have len2 : LenV K (.ref a2) H' ys.length := kind.elim (fun e => .inl ⟨ys, .inl (.inl e.2), rfl⟩) fun e => .inr ⟨ys, .inl (.inl e.2), rfl⟩
        have ix1 : ∀ {Q : VK} {H2 : Hp} {i : Nat} {x : V}, Same H' H2 → xs[i]? = some x → Q x H2 → rIx K (.ref a1) (.int (0 + (i : Int))) H2 Q := fun z h q => kind.elim (fun e => .inl ⟨a1, xs, _, _, rfl, rfl, .inl (.inl (z _ _ e.1)), at_of (Int.zero_add _) h, q⟩) fun e => .inr (.inl ⟨a1, xs, _, _, rfl, rfl, .inl (.inl (z _ _ e.1)), at_of (Int.zero_add _) h, q⟩)
        have ix2 : ∀ {Q : VK} {H2 : Hp} {i : Nat} {x : V}, Same H' H2 → ys[i]? = some x → Q x H2 → rIx K (.ref a2) (.int (0 + (i : Int))) H2 Q := fun z h q => kind.elim (fun e => .inl ⟨a2, ys, _, _, rfl, rfl, .inl (.inl (z _ _ e.2)), at_of (Int.zero_add _) h, q⟩) fun e => .inr (.inl ⟨a2, ys, _, _, rfl, rfl, .inl (.inl (z _ _ e.2)), at_of (Int.zero_add _) h, q⟩)
        refine ⟨_, rfl, _, xs.length, rfl, len1, _, rfl, _, ys.length, rfl, len2, rfl, _, rfl, ite2 (fun z => ?_) fun _ => ?_⟩
        · rw [lx, ly, decide_eq_true rfl] at z
          exact absurd z (by decide)
        refine ⟨_, rfl, _, ys.length, rfl, len2, _, rfl, by omega, by omega, fun Dl hDl => ?_⟩
        rw [Int.toNat_natCast]
        refine lc_range (lo := 0) (n := ys.length) (fun i H2 => Same H' H2 ∧ H2 Dl = some (.lst ((List.replicate i true).map V.bl))) ⟨same_new hDl, upd_same⟩ ?_ ?_
        · rintro i H2 hi ⟨S2, hD⟩
          have hxi : xs[i]? = some xs[i] := List.getElem?_eq_getElem (by omega)
          have hyi : ys[i]? = some ys[i] := List.getElem?_eq_getElem hi
          obtain ⟨d1, hd1, at1⟩ := k1.at_ hxi
          obtain ⟨d2, hd2, at2⟩ := k2.at_ hyi
          rw [hd1] at hd2
          cases hd2
          refine ⟨rfl, _, rfl, _, rfl, ix1 S2 hxi ⟨_, rfl, _, rfl, ix2 S2 hyi ⟨_, _, _, _, d1, rfl, At.same at1 S2, At.same at2 S2, sub d1 (List.mem_of_getElem? hd1), fun H3 S3 => ?_⟩⟩⟩
          refine ⟨_, S3 _ _ hD, ?_, ?_, ?_⟩
          · rw [List.length_map, List.length_replicate]
            exact Evl.sz_lt (by omega)
          · exact fun b o e => by
              rw [upd_ne (ne_of_none e hDl)]
              exact S3 _ _ (S2 b o e)
          · rw [upd_same, List.replicate_succ', List.map_append]
            rfl
        · rintro H2 ⟨S2, hD⟩
          refine ⟨Dl, _, rfl, .inl (.inl hD), ?_⟩
          have ea : (List.replicate ys.length true).all id = true := List.all_eq_true.mpr fun b hb => by
            rw [List.eq_of_mem_replicate hb]
            rfl
          rw [ea]
          exact q H2 S2
/-- alike, to six steps into the depth -/
theorem ok_alike (T : Txt K mg) (D : Df K mg "_law_alike" s__law_alike ["found", "due"]) : Cl P w K mg base 7 "_law_alike" ["found", "due"] (sp_alike 6) :=
  ok_alikeS T (ok_alikeS T (ok_alikeS T (ok_alikeS T (ok_alikeS T (ok_alikeS T (ok_alike0 T D) D) D) D) D) D) D
end
end My
set_option Elab.async false
set_option linter.all false
set_option maxRecDepth 100000
set_option maxHeartbeats 4000000
namespace My
open PySem PySem.Spec PyProof.Rows L2
/-! H1f: the law's marks: numbers, runs, pairs. -/
/-- the numbers marked -/
def mkN (M : List Bool) : List Int := M.zipIdx.filterMap fun x => if x.1 = true then some ((x.2 : Nat) : Int) else none
theorem mkN_succ {M : List Bool} {i : Nat} {b : Bool} (h : M[i]? = some b) : mkN (M.take (i + 1)) = mkN (M.take i) ++ (if b = true then [((i : Nat) : Int)] else []) := by
  unfold mkN
  rw [zi_succ h, List.filterMap_append]
  cases b <;> rfl
theorem mkN_len (M : List Bool) : (mkN M).length ≤ M.length := by
  unfold mkN
  have := List.length_filterMap_le (fun x : Bool × Nat => if x.1 = true then some ((x.2 : Nat) : Int) else none) M.zipIdx
  rw [List.length_zipIdx] at this
  exact this
theorem shaped_prs (L : List (Int × Int)) : SeqAt.shaped (.list (L.map prD)) = true := by
  unfold SeqAt.shaped
  rw [Bool.and_eq_true]
  refine ⟨lay_map prD _ fun s _ => lay_pr s, decide_eq_true ?_⟩
  have := dep_map prD 1 L fun s _ => dep_pr s
  show PyData.depthAll _ + 1 ≤ 64
  omega
def sp_pairL : Sp := fun vs H Q _ => ∃ (c n : Int), vs = [.int c, .int n] ∧ 1 ≤ n ∧ n ≤ 400 ∧ ∀ (s : Int × Int) t H', Same H H' → H t = none → H' t = some (.tup [.int s.1, .int s.2]) → 0 ≤ s.1 → s.1 ≤ s.2 → s.2 < n → Q (.ref t) H'
def sp_lawNums : Sp := fun vs H Q _ => ∃ (m : Addr) (M : List Bool), vs = [.ref m] ∧ H m = some (.lst (M.map V.bl)) ∧ M.length ≤ 1000 ∧ ∀ l H', Same H H' → H l = none → H' l = some (.lst ((mkN M).map V.int)) → Q (.ref l) H'
def sp_lawRuns : Sp := fun vs H Q _ => ∃ (S : Av) (m : Addr) (M : List Bool), vs = [.ref m] ∧ Occ S H ∧ H m = some (.lst (M.map V.bl)) ∧ M.length ≤ 1000 ∧ ∀ l rows H', Same H H' → H l = none → H' l = some (.lst rows) → AtAll S H' rows ((runsD (mkN M)).map prD) → Q (.ref l) H'
/-- the marks of the stretches ps -/
def covB (ps : List (Int × Int)) (n : Nat) : List Bool := (List.range n).map fun (i : Nat) => ps.any fun s => decide (s.1 ≤ (i : Int)) && decide ((i : Int) ≤ s.2)
theorem cov_at (ps : List (Int × Int)) (n i : Nat) (h : i < n) : (covB ps n)[i]? = some (ps.any fun s => decide (s.1 ≤ (i : Int)) && decide ((i : Int) ≤ s.2)) := by
  unfold covB
  rw [List.getElem?_map, List.getElem?_range h]
  rfl
theorem cov_len (ps : List (Int × Int)) (n : Nat) : (covB ps n).length = n := by
  unfold covB
  rw [List.length_map, List.length_range]
theorem cov_ext {n : Nat} {L : List Bool} {ps : List (Int × Int)} (hl : L.length = n) (h : ∀ i, i < n → L[i]? = some (ps.any fun s => decide (s.1 ≤ (i : Int)) && decide ((i : Int) ≤ s.2))) : L = covB ps n := by
  refine List.ext_getElem? fun i => ?_
  by_cases hi : i < n
  · rw [h i hi, cov_at ps n i hi]
  · rw [List.getElem?_eq_none (by omega), List.getElem?_eq_none (by rw [cov_len]; omega)]
theorem cov_empty (ps : List (Int × Int)) (n : Nat) {s : Int × Int} (h : s.2 < s.1) : covB (ps ++ [s]) n = covB ps n := by
  refine cov_ext (cov_len _ _) fun i hi => ?_
  rw [cov_at _ _ _ hi, List.any_append]
  have e : ([s].any fun s => decide (s.1 ≤ (i : Int)) && decide ((i : Int) ≤ s.2)) = false := by
    rw [List.any_cons, List.any_nil, Bool.or_false, Bool.and_eq_false_iff]
    by_cases h1 : s.1 ≤ (i : Int)
    · exact .inr (decide_eq_false (by omega))
    · exact .inl (decide_eq_false h1)
  rw [e, Bool.or_false]
theorem cov_set (ps : List (Int × Int)) (n : Nat) {a b : Int} (z : Int) (h0 : 0 ≤ z) (h1 : z < n) (hb : b = z - 1) (ha : a ≤ z) : (covB (ps ++ [(a, b)]) n).set z.toNat true = covB (ps ++ [(a, z)]) n := by
  refine cov_ext (by rw [List.length_set, cov_len]) fun i hi => ?_
  rw [List.getElem?_set, cov_at _ _ _ hi, cov_len]
  by_cases e : z.toNat = i
  · rw [if_pos e, if_pos (by omega)]
    refine congrArg some ?_
    symm
    rw [List.any_append, List.any_cons]
    have e2 : (decide (a ≤ (i : Int)) && decide ((i : Int) ≤ z)) = true := by
      rw [decide_eq_true (by omega), decide_eq_true (by omega)]
      rfl
    show (_ || ((decide (a ≤ (i : Int)) && decide ((i : Int) ≤ z)) || _)) = true
    rw [e2, Bool.true_or, Bool.or_true]
  · rw [if_neg e, List.any_append, List.any_append]
    refine congrArg some (congrArg _ ?_)
    rw [List.any_cons, List.any_nil, List.any_cons, List.any_nil]
    show ((decide (a ≤ (i : Int)) && decide ((i : Int) ≤ b)) || false) = ((decide (a ≤ (i : Int)) && decide ((i : Int) ≤ z)) || false)
    have e3 : decide ((i : Int) ≤ b) = decide ((i : Int) ≤ z) := decide_eq_decide.mpr (by omega)
    rw [e3]
theorem rep_bl (n : Nat) : (List.replicate n [V.bl false]).flatten = (covB [] n).map V.bl := by
  have e : covB [] n = List.replicate n false := by
    unfold covB
    exact List.eq_replicate_iff.mpr ⟨by rw [List.length_map, List.length_range], fun b hb => by obtain ⟨_, _, rfl⟩ := List.mem_map.mp hb; rfl⟩
  rw [e]
  induction n with
  | zero => rfl
  | succ n ih =>
    have ih := ih (by
      unfold covB
      exact List.eq_replicate_iff.mpr ⟨by rw [List.length_map, List.length_range], fun b hb => by obtain ⟨_, _, rfl⟩ := List.mem_map.mp hb; rfl⟩)
    rw [List.replicate_succ, List.flatten_cons, ih, List.replicate_succ]
    rfl
def sp_marked : Sp := fun vs H Q _ => ∃ (l : Addr) (xs : List V) (ps : List (Int × Int)) (n : Nat), vs = [.ref l, .int (n : Nat)] ∧ H l = some (.lst xs) ∧ PrsAt H xs ps ∧ n ≤ 1000 ∧ (∀ s ∈ ps, 0 ≤ s.1 ∧ s.1 ≤ s.2 ∧ s.2 < (n : Nat)) ∧ ∀ m H', Same H H' → H m = none → H' m = some (.lst ((covB ps n).map V.bl)) → Q (.ref m) H'
section
variable {P : Program} {w : World} {K : PySem.W.Frag} {mg : Str → Option Value} {base : Heap}
end
end My
set_option Elab.async false
set_option linter.all false
set_option maxRecDepth 100000
set_option maxHeartbeats 4000000
namespace My
open PySem PySem.Spec PyProof.Rows L2
/-! H1m: marks and their numbers; places made anew; how deep data are. -/
theorem mkN_mem {M : List Bool} {z : Int} : z ∈ mkN M ↔ ∃ i : Nat, z = (i : Int) ∧ M[i]? = some true := by
  unfold mkN
  rw [List.mem_filterMap]
  constructor
  · rintro ⟨⟨b, i⟩, hx, e⟩
    cases b with
    | false => cases e
    | true =>
      cases e
      exact ⟨i, rfl, by simpa using List.mem_zipIdx_iff_getElem?.mp hx⟩
  · rintro ⟨i, rfl, h⟩
    exact ⟨(true, i), List.mem_zipIdx_iff_getElem?.mpr (by simpa using h), rfl⟩
theorem mkN_bnd {M : List Bool} {z : Int} (h : z ∈ mkN M) : 0 ≤ z ∧ z < (M.length : Int) := by
  obtain ⟨i, rfl, hi⟩ := mkN_mem.mp h
  have := (List.getElem?_eq_some_iff.mp hi).1
  omega
theorem has_mark {M : List Bool} {i : Nat} {b : Bool} (h : M[i]? = some b) : inN (mkN M) (.int (i : Nat)) = b := by
  show decide (((i : Nat) : Int) ∈ mkN M) = b
  cases b with
  | true => exact decide_eq_true (mkN_mem.mpr ⟨i, rfl, h⟩)
  | false =>
    refine decide_eq_false fun z => ?_
    obtain ⟨j, e, hj⟩ := mkN_mem.mp z
    have : i = j := by omega
    subst this
    rw [h] at hj
    cases hj
theorem no_mark {M : List Bool} {z : Int} (h : z < 0 ∨ (M.length : Int) ≤ z) : inN (mkN M) (.int z) = false := decide_eq_false fun q => by
  have := mkN_bnd q
  omega
/-- data of ints, of pairs -/
theorem dpt_ints {n : Nat} (L : List Int) (h : L.length ≤ 1000) : Dpt (n + 2) (.list (L.map PyData.int)) := .inr (.inr (.inr ⟨_, by rw [List.length_map]; exact h, fun x hx => by
  obtain ⟨i, _, rfl⟩ := List.mem_map.mp hx
  exact .inr (.inl ⟨i, rfl⟩), .inl rfl⟩))
theorem dpt_prs {n : Nat} (L : List (Int × Int)) (h : L.length ≤ 1000) : Dpt (n + 3) (.list (L.map prD)) := .inr (.inr (.inr ⟨_, by rw [List.length_map]; exact h, fun x hx => by
  obtain ⟨s, _, rfl⟩ := List.mem_map.mp hx
  refine .inr (.inr (.inr ⟨_, by show 2 ≤ 1000; decide, fun y hy => ?_, .inr rfl⟩))
  simp only [List.mem_cons, List.not_mem_nil, or_false] at hy
  rcases hy with rfl | rfl
  · exact .inr (.inl ⟨_, rfl⟩)
  · exact .inr (.inl ⟨_, rfl⟩), .inl rfl⟩))
theorem at_ints {H : Hp} {l : Addr} {L : List Int} (h : H l = some (.lst (L.map V.int))) : At (fun _ => False) H (.ref l) (.list (L.map PyData.int)) := .lst (fun z => z) h (AtAll.ints L)
theorem at_prs {S : Av} {H : Hp} {l : Addr} {rows : List V} {L : List (Int × Int)} (h : H l = some (.lst rows)) (a : AtAll S H rows (L.map prD)) : At (fun _ => False) H (.ref l) (.list (L.map prD)) := .lst (fun z => z) h (AtAll.weak (fun _ z => z.elim) _ _ a)
theorem mkN_pw (M : List Bool) : (mkN M).Pairwise (· < ·) := by
  have key : ∀ i, i ≤ M.length → (mkN (M.take i)).Pairwise (· < ·) ∧ ∀ z ∈ mkN (M.take i), z < (i : Int) := by
    intro i
    induction i with
    | zero => exact fun _ => ⟨by rw [List.take_zero]; exact .nil, fun z h => by rw [List.take_zero] at h; cases h⟩
    | succ i ih =>
      intro hi
      obtain ⟨h1, h2⟩ := ih (by omega)
      rw [mkN_succ (List.getElem?_eq_getElem (by omega : i < M.length))]
      split
      · refine ⟨List.pairwise_append.mpr ⟨h1, List.pairwise_singleton .., fun a ha b hb => ?_⟩, fun z hz => ?_⟩
        · rw [List.mem_singleton.mp hb]
          exact h2 a ha
        · rcases List.mem_append.mp hz with hz | hz
          · have := h2 z hz
            omega
          · have := List.mem_singleton.mp hz
            omega
      · rw [List.append_nil]
        exact ⟨h1, fun z hz => by have := h2 z hz; omega⟩
  have := (key M.length (Nat.le_refl _)).1
  rw [List.take_length] at this
  exact this
theorem nums_cov {ps : List (Int × Int)} {N : List Int} {n : Nat} (h : IsNums ps N) (k : ∀ s ∈ ps, 0 ≤ s.1 ∧ s.1 ≤ s.2 ∧ s.2 < (n : Int)) : N = mkN (covB ps n) := by
  refine rise_ext h.pw (mkN_pw _) fun z => ?_
  rw [h.mem, mkN_mem]
  constructor
  · rintro ⟨s, hs, h1, h2⟩
    have := k s hs
    refine ⟨z.toNat, by omega, ?_⟩
    rw [cov_at _ _ _ (by omega)]
    refine congrArg some (List.any_eq_true.mpr ⟨s, hs, ?_⟩)
    rw [decide_eq_true (by omega), decide_eq_true (by omega)]
    rfl
  · rintro ⟨i, rfl, hi⟩
    have hlt := (List.getElem?_eq_some_iff.mp hi).1
    rw [cov_len] at hlt
    rw [cov_at _ _ _ hlt] at hi
    obtain ⟨s, hs, e⟩ := List.any_eq_true.mp (Option.some.inj hi)
    rw [Bool.and_eq_true] at e
    exact ⟨s, hs, of_decide_eq_true e.1, of_decide_eq_true e.2⟩
/-- places made anew -/
theorem mk_pc {S : Av} {H : Hp} {CP C e x dx : Addr} {B : Bks} {L : List Int} {pr : V} {o : Option (List (Int × Int))} {Q : VK} {E : XK} (ho : Occ S H) (ed : EdAt S H C e B L) (l4 : (plOf B).length ≤ 400) (hl : LnIn H pr o) (ok : okPrs (plOf B).length (prsO o)) (hx : H x = none) (hdx : H dx = none) (ne : dx ≠ x)
    (q : ∀ H', Same H H' → PcAt S H' CP x e (mkN (covB (prsO o) (plOf B).length)) → Q .non H') : sp_initP CP C [.ref x, .ref e, pr] (upd (upd H dx (.own x)) x (.ins CP dx [])) Q E := by
  have S8 : Same H (upd (upd H dx (.own x)) x (.ins CP dx [])) := (same_new hdx).trans (same_new (by rw [upd_ne ne.symm]; exact hx))
  refine ⟨S, x, dx, e, pr, B, L, o, rfl, ho.free hx, ho.same S8, upd_same, (ed.plusN hx).bt (Same.btS S8), l4, hl.same S8, ok, fun H' N b nm pc => ?_⟩
  have S9 : Same H H' := fun p ob eo => b p ob (ne_of_none eo hx) (S8 p ob eo)
  have e2 := nums_cov nm fun s hs => ok.2 s hs
  rw [e2] at pc
  exact q H' S9 pc
theorem fewest_all (n : Nat) (h : 1 ≤ n) : fewest (lnP (0, (n : Nat))) = [(0, ((n : Nat) : Int))] := by
  have ll : (lnP (0, ((n : Nat) : Int))).length = n := by
    rw [lnP_len]
    exact Int.toNat_natCast n
  have key : ∀ k : Nat, 1 ≤ k → k ≤ n → fewest ((lnP (0, ((n : Nat) : Int))).take k) = [(0, ((k : Nat) : Int))] := by
    intro k
    induction k with
    | zero => intro h; omega
    | succ k ih =>
      intro _ hk
      have hz : (lnP (0, ((n : Nat) : Int)))[k]? = some (k : Int) := by
        unfold lnP
        rw [List.getElem?_map, List.getElem?_range (by show k < ((n : Nat) : Int).toNat; omega)]
        show some ((0 : Int) + (k : Int)) = _
        rw [Int.zero_add]
      rw [fewest_succ hz]
      by_cases h0 : k = 0
      · subst h0
        rw [List.take_zero]
        rfl
      · rw [ih (by omega) (by omega)]
        show fpStep ([] ++ [(0, ((k : Nat) : Int))]) _ = _
        rw [fp_snoc, if_pos (by show (k : Int) = 0 + (k : Int); omega)]
        show [((0 : Int), ((k : Nat) : Int) + 1)] = _
        rw [show ((k : Nat) : Int) + 1 = ((k + 1 : Nat) : Int) by omega]
  have := key n h (Nat.le_refl _)
  rw [List.take_of_length_le (by omega)] at this
  exact this
theorem dpt_tup {n : Nat} {ds : List PyData} (h : ds.length ≤ 1000) (k : ∀ x ∈ ds, Dpt n x) : Dpt (n + 1) (.tuple ds) := .inr (.inr (.inr ⟨ds, h, k, .inr rfl⟩))
theorem dpt_ch {n : Nat} (c : List Int) (h : c.length ≤ 30) : Dpt (n + 2) (chD c) := dpt_tup (by rw [List.length_map]; omega) fun x hx => by
  obtain ⟨i, _, rfl⟩ := List.mem_map.mp hx
  exact .inr (.inl ⟨i, rfl⟩)
theorem dpt_pr {n : Nat} (s : Int × Int) : Dpt (n + 2) (prD s) := dpt_tup (by show 2 ≤ 1000; decide) fun y hy => by
  simp only [List.mem_cons, List.not_mem_nil, or_false] at hy
  rcases hy with rfl | rfl
  · exact .inr (.inl ⟨_, rfl⟩)
  · exact .inr (.inl ⟨_, rfl⟩)
theorem dpt_bk {n : Nat} {b : List Nat × List (List Int)} (h : b.2.length ≤ 12) (k : ∀ c ∈ b.2, c.length ≤ 30) : Dpt (n + 4) (bkD b) := dpt_tup (by show 2 ≤ 1000; decide) fun y hy => by
  simp only [List.mem_cons, List.not_mem_nil, or_false] at hy
  rcases hy with rfl | rfl
  · exact .inr (.inr (.inl ⟨_, rfl⟩))
  · exact dpt_tup (by rw [List.length_map]; omega) fun x hx => by
      obtain ⟨c, hc, rfl⟩ := List.mem_map.mp hx
      exact dpt_ch c (k c hc)
theorem dpt_told {B : Bks} (ok : okBks B) (s : Int × Int) : Dpt 6 (.tuple [bksD B, .tuple [prD s]]) := dpt_tup (by show 2 ≤ 1000; decide) fun y hy => by
  simp only [List.mem_cons, List.not_mem_nil, or_false] at hy
  have l6 := ok.l1
  rcases hy with rfl | rfl
  · exact dpt_tup (by rw [List.length_map]; omega) fun x hx => by
      obtain ⟨b, hb, rfl⟩ := List.mem_map.mp hx
      exact dpt_bk (ok.ch b hb).2.1 fun c hc => ((ok.ch b hb).2.2 c hc).l1
  · exact dpt_tup (by show 1 ≤ 1000; decide) fun x hx => by
      rw [List.mem_singleton.mp hx]
      exact dpt_pr s
theorem same_over {H H1 : Hp} {l : Addr} {o : HO} (s : Same H H1) (h : H l = none) : Same H (upd H1 l o) := fun b ob e => by
  rw [upd_ne (ne_of_none e h)]
  exact s b ob e
end My
set_option Elab.async false
set_option linter.all false
set_option maxRecDepth 100000
set_option maxHeartbeats 4000000
namespace My
open PySem PySem.Spec PyProof.Rows L2
/-! Q1: where parts lead: the goals of lines, the rows of goals. -/
/-- the place of the line z among M, or none -/
def gO (M : List Int) (z : Int) : Option Int := match valV (numD M) (Sum.inl z : Key) with
  | some (.int i) => some i
  | _ => none
def oV : Option Int → V
  | none => .non
  | some i => .int i
def oD : Option Int → PyData
  | none => .none
  | some i => .int i
def goD (L M : List Int) : List (Option Int) := L.map (gO M)
theorem gO_some {M : List Int} (nd : M.Nodup) {i : Nat} {z : Int} (h : M[i]? = some z) : gO M z = some (i : Int) := by
  unfold gO
  rw [num_val nd h]
theorem gO_none {M : List Int} {z : Int} (h : z ∉ M) : gO M z = none := by
  unfold gO
  rw [num_no h]
theorem gO_iff {M : List Int} (nd : M.Nodup) {z j : Int} : gO M z = some j ↔ ∃ i : Nat, j = (i : Int) ∧ M[i]? = some z := by
  by_cases hz : z ∈ M
  · obtain ⟨i, hi, e⟩ := List.mem_iff_getElem.mp hz
    have e1 : M[i]? = some z := List.getElem?_eq_some_iff.mpr ⟨hi, e⟩
    rw [gO_some nd e1]
    constructor
    · intro h
      cases h
      exact ⟨i, rfl, e1⟩
    · rintro ⟨k, rfl, e2⟩
      have a := num_val nd e1
      rw [num_val nd e2] at a
      have : i = k := by
        have := V.int.inj (Option.some.inj a)
        omega
      rw [this]
  · rw [gO_none hz]
    constructor
    · intro h
      cases h
    · rintro ⟨i, _, e⟩
      exact absurd (List.mem_of_getElem? e) hz
theorem gO_val {M : List Int} (nd : M.Nodup) (z : Int) : (valV (numD M) (Sum.inl z : Key)).getD .non = oV (gO M z) := by
  by_cases hz : z ∈ M
  · obtain ⟨i, hi, e⟩ := List.mem_iff_getElem.mp hz
    have e1 : M[i]? = some z := List.getElem?_eq_some_iff.mpr ⟨hi, e⟩
    rw [gO_some nd e1, num_val nd e1]
    rfl
  · rw [gO_none hz, num_no hz]
    rfl
theorem prt_go {M : List Int} (nd : M.Nodup) {z : Int} (h : 0 ≤ z ∧ z < 10000) : prtV M (.int z) = oV (gO M z) := by
  show (if whole (.int z) 0 9999 = true then _ else _) = _
  have e : whole (.int z) 0 9999 = true := by
    show (decide (0 ≤ z) && decide (z ≤ 9999)) = true
    rw [decide_eq_true h.1, decide_eq_true (by omega)]
    rfl
  rw [if_pos e, gO_val nd]
theorem go_len (L M : List Int) : (goD L M).length = L.length := List.length_map ..
theorem go_at {L M : List Int} {i : Nat} {z : Int} (h : L[i]? = some z) : (goD L M)[i]? = some (gO M z) := by
  unfold goD
  rw [List.getElem?_map, h]
  rfl
theorem go_mem {L M : List Int} (nd : M.Nodup) {j : Int} (h : some j ∈ goD L M) : 0 ≤ j ∧ j < (M.length : Nat) := by
  obtain ⟨z, _, e⟩ := List.mem_map.mp h
  obtain ⟨i, rfl, k⟩ := (gO_iff nd).mp e
  have := (List.getElem?_eq_some_iff.mp k).1
  omega
theorem oV_th {K : PySem.W.Frag} {H : Hp} (o : Option Int) : Th K H (oV o) := by
  cases o with
  | none => exact .non
  | some i => exact .int i
theorem oV_at {S : Av} {H : Hp} (o : Option Int) : At S H (oV o) (oD o) := by
  cases o with
  | none => exact .non
  | some i => exact .int i
/-- a row: where it begins, where it leads, how many parts it has -/
abbrev Rw3 := Int × Option Int × Int
def rwD (r : Rw3) : PyData := .tuple [.int r.1, oD r.2.1, .int r.2.2]
def goOn (r : Rw3) (g : Option Int) : Bool := match r.2.1 with
  | none => g.isNone
  | some a => decide (g = some (a + r.2.2))
def rwStep (rs : List Rw3) (n : Int) (g : Option Int) : List Rw3 := match rs.getLast? with
  | none => [(n, g, 1)]
  | some r => if goOn r g = true then rs.dropLast ++ [(r.1, r.2.1, r.2.2 + 1)] else rs ++ [(n, g, 1)]
def rowsD (g : List (Option Int)) : List Rw3 := g.zipIdx.foldl (fun rs p => rwStep rs (p.2 : Nat) p.1) []
theorem rw_nil (n : Int) (g : Option Int) : rwStep [] n g = [(n, g, 1)] := rfl
theorem rw_snoc (rs : List Rw3) (r : Rw3) (n : Int) (g : Option Int) : rwStep (rs ++ [r]) n g = if goOn r g = true then rs ++ [(r.1, r.2.1, r.2.2 + 1)] else rs ++ [r] ++ [(n, g, 1)] := by
  unfold rwStep
  rw [List.getLast?_concat, List.dropLast_concat]
theorem rowsD_succ {g : List (Option Int)} {i : Nat} {x : Option Int} (h : g[i]? = some x) : rowsD (g.take (i + 1)) = rwStep (rowsD (g.take i)) (i : Nat) x := by
  unfold rowsD
  rw [zi_succ h, List.foldl_append]
  rfl
theorem rwStep_len (rs : List Rw3) (n : Int) (g : Option Int) : (rwStep rs n g).length ≤ rs.length + 1 := by
  rcases List.eq_nil_or_concat rs with rfl | ⟨qs, s, rfl⟩
  · rw [rw_nil]
    exact Nat.le_refl _
  · rw [List.concat_eq_append, rw_snoc]
    split
    · simp
    · simp
theorem rowsD_len (g : List (Option Int)) : (rowsD g).length ≤ g.length := by
  have e : ∀ i, i ≤ g.length → (rowsD (g.take i)).length ≤ i := by
    intro i
    induction i with
    | zero =>
      intro _
      rw [List.take_zero]
      exact Nat.le_refl 0
    | succ i ih =>
      intro hi
      rw [rowsD_succ (List.getElem?_eq_getElem (i := i) (by omega))]
      exact Nat.le_trans (rwStep_len ..) (Nat.succ_le_succ (ih (by omega)))
  have := e g.length (Nat.le_refl _)
  rwa [List.take_length] at this
theorem At.row3 {S : Av} {H : Hp} {v : V} {r : Rw3} (h : At S H v (rwD r)) : ∃ t, v = .ref t ∧ ¬ S t ∧ H t = some (.tup [.int r.1, oV r.2.1, .int r.2.2]) := by
  cases h with
  | tup n e k =>
    cases k with
    | cons h1 k =>
      cases k with
      | cons h2 k =>
        cases k with
        | cons h3 k =>
          cases k
          cases h1
          cases h3
          rename_i t v2
          refine ⟨t, rfl, n, ?_⟩
          rw [e]
          have e2 : v2 = oV r.2.1 := by
            cases hr : r.2.1 with
            | none =>
              rw [hr] at h2
              cases h2
              rfl
            | some i =>
              rw [hr] at h2
              cases h2
              rfl
          rw [e2]
theorem At.mkRow {S : Av} {H : Hp} {t : Addr} {r : Rw3} (n : ¬ S t) (e : H t = some (.tup [.int r.1, oV r.2.1, .int r.2.2])) : At S H (.ref t) (rwD r) := .tup n e (.cons (.int _) (.cons (oV_at _) (.cons (.int _) .nil)))
def sp_pwl (C : Addr) : Sp := fun vs H Q _ => ∃ (S : Av) (e l : Addr) (B : Bks) (L M : List Int), vs = [.ref e, .ref l] ∧ EdAt S H C e B M ∧ M.Nodup ∧ H l = some (.lst (L.map V.int)) ∧ lns L ∧ L.length ≤ 1000 ∧ ∀ k H', Same H H' → H k = none → H' k = some (.lst ((goD L M).map oV)) → Q (.ref k) H'
def sp_goesOn (K : PySem.W.Frag) : Sp := fun vs H Q _ => ∃ (t : Addr) (r : Rw3) (g : Option Int), vs = [.ref t, oV g] ∧ H t = some (.tup [.int r.1, oV r.2.1, .int r.2.2]) ∧ Q (.bl (goOn r g)) H
def sp_rowsOf (K : PySem.W.Frag) : Sp := fun vs H Q _ => ∃ (S : Av) (l : Addr) (g : List (Option Int)), vs = [.ref l] ∧ Occ S H ∧ SqL K H l (g.map oV) ∧ g.length ≤ 1000 ∧ ∀ k rows H', Same H H' → H k = none → H' k = some (.lst rows) → AtAll S H' rows ((rowsD g).map rwD) → Q (.ref k) H'
section
variable {P : Program} {w : World} {K : PySem.W.Frag} {mg : Str → Option Value} {base : Heap}
theorem ok_pwl {C : Addr} (T : Txt K mg) (m_part_of : C8.Met P w K mg base 3 C "part_of" (sp_partOf K C) []) (D : Df K mg "parts_with_lines" s_parts_with_lines ["edition", "lines"]) : Cl P w K mg base 4 "parts_with_lines" ["edition", "lines"] (sp_pwl C) := by
  refine ok_of D sc_parts_with_lines (fun vs H Q E h => ?_) (fun f cdv A outer s H vs Q E hr h => ?_)
  · obtain ⟨S, e, l, B, L, M, rfl, _⟩ := h
    rfl
  · obtain ⟨S, e, l, B, L, M, rfl, ed, nd, hl, hL, lL, q⟩ := h
    refine ⟨_, (pss_one (ps_ret (pe_lc (own := [("line", 2)]) rfl sc_parts_with_lines.nd (pi_list (pv 1)) (blkOk_by (own := [("line", 2)]) (N := N_parts_with_lines) (sc := defScope s_parts_with_lines) (by decide +kernel)) (fun _ _ _ _ _ => (pg_name (i := 2) sc_parts_with_lines.nd rfl (.inl rfl))) (fun _ _ _ _ _ => pts_nil) (fun _ _ _ _ _ => (C8.pe_mt m_part_of hr (by decide) (pv 0) (pa_cons (pv 2) pa_nil)))))), ?_⟩
    refine ⟨.ref l, rfl, l, rfl, ⟨_, .inl (.inl hl)⟩, fun k hk => ?_⟩
    refine lc_it (walk_list (xs := L.map V.int)) (fun i H' => Same H H' ∧ H' k = some (.lst ((goD (L.take i) M).map oV))) ⟨same_new hk, upd_same⟩ (fun i H' _ ⟨z, _⟩ => .inl (.inl (z _ _ hl))) ?_ ?_
    · rintro i y0 H2x H2 hi ⟨S2, ek⟩ ⟨rfl, hy0⟩
      rw [List.length_map] at hi
      obtain ⟨z, hz⟩ : ∃ z, L[i]? = some z := ⟨_, List.getElem?_eq_getElem hi⟩
      rw [List.getElem?_map, hz] at hy0
      cases hy0
      have ed2 := ed.bt (Same.btS S2)
      obtain ⟨w, hw⟩ := id ed2
      refine ⟨rfl, .ref e, rfl, e, _, _, rfl, hw.at_, rfl, _, rfl, S, e, B, M, .int z, rfl, ed2, .int _, ?_⟩
      rw [prt_go nd (hL z (List.mem_of_getElem? hz))]
      refine ⟨_, ek, Evl.sz_lt (by rw [List.length_map, go_len, List.length_take]; omega), same_over S2 hk, ?_⟩
      rw [upd_same]
      unfold goD
      rw [List.take_add_one, hz, List.map_append, List.map_append]
      rfl
    · rintro H2 ⟨S2, ek⟩
      rw [List.length_map, List.take_length] at ek
      exact q k H2 S2 hk ek
theorem ok_goesOn (T : Txt K mg) (D : Df K mg "goes_on" s_goes_on ["row", "goal"]) : Cl P w K mg base 2 "goes_on" ["row", "goal"] (sp_goesOn K) := by
  refine ok_of D sc_goes_on (fun vs H Q E h => ?_) (fun f cdv A outer s H vs Q E hr h => ?_)
  · obtain ⟨t, r, g, rfl, _⟩ := h
    rfl
  · obtain ⟨t, ⟨r1, r2, r3⟩, g, rfl, ht, q⟩ := h
    refine ⟨_, (pss_cons (ps_asg (pv 0) (pg_tup rfl (pgs_cons (pg_name (i := 2) sc_goes_on.nd rfl (.inl rfl)) (pgs_cons (pg_name (i := 3) sc_goes_on.nd rfl (.inl rfl)) (pgs_cons (pg_name (i := 4) sc_goes_on.nd rfl (.inl rfl)) pgs_nil)))))
      (pss_cons (ps_if (pt_cmpR op_isN (pv 3) pe_non (nomark _)) (pss_one (ps_ret (pe_cmpR op_isN (pv 1) pe_non (nomark _)))) pss_nil)
      (pss_one (ps_ret (pe_cmpR op_eq (pv 1) (pe_op op_add (pv 3) (pv 4)) (nomark _)))))), ?_⟩
    refine ⟨.ref t, rfl, t, _, rfl, .inl (.inl ht), rfl, _, _, rfl, _, _, rfl, _, _, rfl, rfl, ?_⟩
    cases r2 with
    | none =>
      refine ⟨_, rfl, rfl, _, rfl, ite2 (fun _ => ?_) (fun z => absurd (decide_eq_true rfl) z)⟩
      refine ⟨_, rfl, rfl, ?_⟩
      have e : decide (oV g = V.non) = goOn (r1, none, r3) g := by cases g <;> rfl
      rw [e]
      exact q
    | some a =>
      refine ⟨_, rfl, rfl, _, rfl, ite2 (fun z => absurd (of_decide_eq_true z) (by intro h; cases h)) (fun _ => ?_)⟩
      refine ⟨_, rfl, _, rfl, _, rfl, a, r3, rfl, rfl, ?_⟩
      have e : decide (oV g = V.int (a + r3)) = goOn (r1, some a, r3) g := by
        cases g with
        | none => rfl
        | some j =>
          show decide (V.int j = V.int (a + r3)) = decide (some j = some (a + r3))
          by_cases h : j = a + r3
          · rw [h, decide_eq_true rfl, decide_eq_true rfl]
          · rw [decide_eq_false (fun z => h (V.int.inj z)), decide_eq_false (fun z => h (Option.some.inj z))]
      refine ⟨by cases g <;> rfl, ?_⟩
      rw [e]
      exact q
theorem ok_rowsOf (T : Txt K mg) (c_goes_on : Cl P w K mg base 2 "goes_on" ["row", "goal"] (sp_goesOn K)) (D : Df K mg "rows_of" s_rows_of ["goals"]) : Cl P w K mg base 3 "rows_of" ["goals"] (sp_rowsOf K) := by
  refine ok_of D sc_rows_of (fun vs H Q E h => ?_) (fun f cdv A outer s H vs Q E hr h => ?_)
  · obtain ⟨S, l, g, rfl, _⟩ := h
    rfl
  · obtain ⟨S, l, g, rfl, ho, hg, lg, q⟩ := h
    refine ⟨_, (pss_cons (ps_set (i := 1) sc_rows_of.nd rfl (.inl rfl) (pe_lst pa_nil))
      (pss_cons (ps_for PassesOwn.never rfl (pi_enum (by rfl) T.b_enumerate (pa_cons (pv 0) pa_nil)) (pg_tup rfl (pgs_cons (pg_name (i := 2) sc_rows_of.nd rfl (.inl rfl)) (pgs_cons (pg_name (i := 3) sc_rows_of.nd rfl (.inl rfl)) pgs_nil)))
        (pss_one (ps_if (PW.pt (pw_and (pt_truth (pv 1) (by intro _; rfl)) (pw_and1 (pt_val (pe_cl c_goes_on hr (by decide) (by rfl) (pa_cons (pe_ix ix_list (pv 1) (pe_un un_neg pe_int) (fun _ _ => rfl)) (pa_cons (pv 3) pa_nil))))))) (pss_cons (ps_asg (pe_bm0 PySem.F.plainAttrs_list PySem.F.slot_list_pop PySem.F.type_list_pop mt_pop (pv 1)) (pg_tup rfl (pgs_cons (pg_name (i := 4) sc_rows_of.nd rfl (.inl rfl)) (pgs_cons (pg_name (i := 5) sc_rows_of.nd rfl (.inl rfl)) (pgs_cons (pg_name (i := 6) sc_rows_of.nd rfl (.inl rfl)) pgs_nil)))))
          (pss_one (ps_expr (pe_bm PySem.F.plainAttrs_list PySem.F.slot_list_append PySem.F.type_list_append mt_append (pv 1) (pa_cons (pe_tup (pa_cons (pv 4) (pa_cons (pv 5) (pa_cons (pe_op op_add (pv 6) pe_int) pa_nil)))) pa_nil))))) (pss_one (ps_expr (pe_bm PySem.F.plainAttrs_list PySem.F.slot_list_append PySem.F.type_list_append mt_append (pv 1) (pa_cons (pe_tup (pa_cons (pv 2) (pa_cons (pv 3) (pa_cons pe_int pa_nil)))) pa_nil)))))))
      (pss_one (ps_ret (pv 1))))), ?_⟩
    refine ⟨Nat.zero_le _, fun k hk => ?_⟩
    have kl : ∀ {H' : Hp}, Same (upd H k (.lst [])) H' → SqL K H' l (g.map oV) := fun S => S.seq ((same_new hk).seq hg)
    refine ⟨.ref l, rfl, l, _, rfl, (same_new hk).seq hg, for_it (walk_enum (xs := g.map oV)) (fun i σ H' => ∃ (t2 t3 t4 t5 t6 : Option V) (rows : List V), σ = [some (.ref l), some (.ref k), t2, t3, t4, t5, t6] ∧ LcS S H k rows ((rowsD (g.take i)).map rwD) H') ⟨_, _, _, _, _, _, rfl, LcS.start hk⟩ (fun i σ H' _ ⟨_, _, _, _, _, _, _, L⟩ => L.s.seq hg) ?_ ?_⟩
    · rintro i y σ H2 H2' hi ⟨t2, t3, t4, t5, t6, rows, rfl, c0⟩ ⟨T6, x6, y6, rfl, hT6, rfl, e6, hy6⟩
      cases e6
      rw [List.length_map] at hi
      obtain ⟨o, hgi⟩ : ∃ o, g[i]? = some o := ⟨_, List.getElem?_eq_getElem hi⟩
      have hy6 : (g.map oV)[i]? = some y6 := hy6
      rw [List.getElem?_map, hgi] at hy6
      cases hy6
      rw [rowsD_succ hgi]
      have c := c0.keep (same_new (o := .tup [.int (i : Nat), oV o]) hT6)
      have et6 : upd H2 T6 (.tup [.int (i : Nat), oV o]) T6 = some (.tup [.int (i : Nat), oV o]) := upd_same
      have lr : rows.length ≤ 1000 := by
        have := rowsD_len (g.take i)
        rw [List.length_take] at this
        rw [c.len, List.length_map]
        omega
      clear c0
      refine ⟨T6, _, rfl, .inl (.inl et6), rfl, _, _, rfl, _, _, rfl, rfl, ?_⟩
      generalize upd H2 T6 (.tup [.int (i : Nat), oV o]) = H3 at c et6 ⊢
      rcases List.eq_nil_or_concat (rowsD (g.take i)) with e | ⟨rs, r, e⟩
      · rw [e] at c ⊢
        have er : rows = [] := List.eq_nil_of_length_eq_zero (by rw [c.len]; rfl)
        subst er
        refine ⟨_, rfl, false, .inl ⟨_, .inl (.inl c.at_), rfl⟩, ite2 (fun z => absurd z Bool.false_ne_true) fun _ => ite2 (fun z => absurd z Bool.false_ne_true) fun _ => ?_⟩
        refine ⟨.ref k, rfl, .inl ⟨rfl, _, .inl (.inl c.at_)⟩, _, rfl, _, rfl, by show 3 ≤ sizeLine; decide, fun t ht => ?_⟩
        have c2 := c.keep (same_new (o := .tup [.int (i : Nat), oV o, .int 1]) ht)
        refine ⟨k, _, _, rfl, rfl, c2.at_, by show 0 < sizeLine; decide, _, _, _, _, _, [.ref t], rfl, ?_⟩
        have nt : ¬ Plus S k t := (c.occ ho).free ht
        exact c2.step (At.mkRow (r := ((i : Nat), o, 1)) nt upd_same)
      · rw [List.concat_eq_append] at e
        rw [e] at c ⊢
        have ca := c.a
        rw [List.map_append] at ca
        obtain ⟨ys, y, rfl, a1, a2⟩ := AtAll.snoc ca
        obtain ⟨t, rfl, nt, et⟩ := a2.row3
        rw [rw_snoc]
        refine ⟨_, rfl, true, .inl ⟨_, .inl (.inl c.at_), by cases ys <;> rfl⟩, ite2 (fun _ => ?_) (fun z => absurd rfl z)⟩
        refine ⟨_, rfl, _, rfl, k, _, -1, .ref t, rfl, rfl, .inl (.inl c.at_), atI_last ys _, _, rfl, t, r, o, rfl, et, _, rfl, ?_⟩
        cases e3 : goOn r o with
        | true =>
          refine ite2 (fun _ => ?_) (fun z => absurd (show true = true from rfl) z)
          rw [if_pos (show true = true from rfl)]
          refine ⟨.ref k, rfl, .inl ⟨rfl, _, .inl (.inl c.at_)⟩, k, _, .ref t, rfl, rfl, c.at_, by simp, ?_⟩
          rw [List.dropLast_concat]
          have c1 := c.put (ys := ys) (es := rs.map rwD) a1
          have tk : t ≠ k := fun z => nt (.inr z)
          refine ⟨t, _, rfl, .inl (.inl (by rw [upd_ne tk]; exact et)), rfl, _, _, rfl, _, _, rfl, _, _, rfl, rfl, ?_⟩
          refine ⟨.ref k, rfl, .inl ⟨rfl, _, .inl (.inl c1.at_)⟩, _, rfl, _, rfl, _, rfl, r.2.2, 1, rfl, rfl, by show 3 ≤ sizeLine; decide, fun t' ht' => ?_⟩
          have c2 := c1.keep (same_new (o := .tup [.int r.1, oV r.2.1, .int (r.2.2 + 1)]) ht')
          refine ⟨k, _, _, rfl, rfl, c2.at_, ?_, _, _, _, _, _, ys ++ [.ref t'], rfl, ?_⟩
          · rw [List.length_append] at lr
            exact Evl.sz_lt (by omega)
          · have nt' : ¬ Plus S k t' := (c1.occ ho).free ht'
            rw [List.map_append]
            exact c2.step (At.mkRow (r := (r.1, r.2.1, r.2.2 + 1)) nt' upd_same)
        | false =>
          refine ite2 (fun z => absurd z Bool.false_ne_true) (fun _ => ?_)
          rw [if_neg Bool.false_ne_true]
          refine ⟨.ref k, rfl, .inl ⟨rfl, _, .inl (.inl c.at_)⟩, _, rfl, _, rfl, by show 3 ≤ sizeLine; decide, fun t' ht' => ?_⟩
          have c2 := c.keep (same_new (o := .tup [.int (i : Nat), oV o, .int 1]) ht')
          refine ⟨k, _, _, rfl, rfl, c2.at_, Evl.sz_lt (by omega), _, _, _, _, _, ys ++ [.ref t] ++ [.ref t'], rfl, ?_⟩
          have nt' : ¬ Plus S k t' := (c.occ ho).free ht'
          rw [List.map_append (l₂ := [(((i : Nat) : Int), o, (1 : Int))])]
          exact c2.step (At.mkRow (r := ((i : Nat), o, 1)) nt' upd_same)
    · rintro σ H2 ⟨t2, t3, t4, t5, t6, rows, rfl, c⟩
      rw [List.length_map, List.take_length] at c
      exact ⟨.ref k, rfl, q k rows H2 c.s hk c.at_ c.done⟩
end
end My
set_option Elab.async false
set_option linter.all false
set_option maxRecDepth 100000
set_option maxHeartbeats 4000000
namespace My
open PySem PySem.Spec PyProof.Rows L2
/-! H2a: threads (lines of an edition), marks. -/
def sp_threads : Sp := fun vs H Q _ => ∃ (rl : Addr) (ns : List Int) (n : Nat) (sp low way : Int), vs = [.ref rl, .int (n : Nat), .int sp, .int low, .int way] ∧ H rl = some (.lst (ns.map V.int)) ∧ ns.length ≤ 40 ∧ (∀ z ∈ ns, 0 ≤ z) ∧ n ≤ 400 ∧ 1 ≤ sp ∧ sp ≤ 403 ∧ 0 ≤ low ∧ low < 4600 ∧
  ∀ l (Th : List Int) H', Same H H' → H l = none → H' l = some (.lst (Th.map V.int)) → Th.length = n → Th.Nodup → (∀ z ∈ Th, 0 ≤ z ∧ z < 9999) → Q (.ref l) H'
structure EdOk (B : Bks) (L : List Int) : Prop where
  bk : okBks B
  l4 : (plOf B).length ≤ 400
  ll : L.length = (plOf B).length
  nd : L.Nodup
  ln : lns L
/-- lines that may be one further on -/
def lnt (L : List Int) : Prop := ∀ z ∈ L, 0 ≤ z ∧ z < 9999
theorem lnt.ln {L : List Int} (h : lnt L) : lns L := fun z hz => ⟨(h z hz).1, by have := (h z hz).2; omega⟩
def sp_marksL : Sp := fun vs H Q _ => ∃ (c : Int) (n : Nat) (sl : Int), vs = [.int c, .int (n : Nat), .int sl] ∧ n ≤ 400 ∧ 0 ≤ sl ∧ sl ≤ 100000 ∧ ∀ l M H', Same H H' → H l = none → H' l = some (.lst ((M : List Bool).map V.bl)) → M.length = n → Q (.ref l) H'
theorem rep_b (n : Nat) (d : Bool) : (List.replicate n [V.bl d]).flatten = (List.replicate n d).map V.bl := by
  induction n with
  | zero => rfl
  | succ n ih =>
    rw [List.replicate_succ, List.flatten_cons, ih, List.replicate_succ]
    rfl
section
variable {P : Program} {w : World} {K : PySem.W.Frag} {mg : Str → Option Value} {base : Heap}
end
end My
set_option Elab.async false
set_option linter.all false
set_option maxRecDepth 100000
set_option maxHeartbeats 4000000
namespace My
open PySem PySem.Spec PyProof.Rows L2
/-! Q2: Leading: its __init__, what it leads over and back, what it lacks. -/
structure LdC (K : PySem.W.Frag) (C : Addr) : Prop where
  cl : Cls K C
  n1 : NoAttr K C "_one"
  n2 : NoAttr K C "_other"
  n3 : NoAttr K C "_ahead"
  n4 : NoAttr K C "_behind"
  n5 : NoAttr K C "_rows"
structure LdW where
  dx : Addr
  da : Addr
  db : Addr
  dr : Addr
  rows : List V
def ldF (e1 e2 : Addr) (w : LdW) : List (Str × V) := [("_one", .ref e1), ("_other", .ref e2), ("_ahead", .ref w.da), ("_behind", .ref w.db), ("_rows", .ref w.dr)]
structure LdIn (S : Av) (H : Hp) (C x e1 e2 : Addr) (L1 L2 : List Int) (w : LdW) : Prop where
  at_ : H x = some (.ins C w.dx (ldF e1 e2 w))
  n0 : ¬ S x
  n1 : ¬ S w.da
  n2 : ¬ S w.db
  n3 : ¬ S w.dr
  h1 : H w.da = some (.lst ((goD L1 L2).map oV))
  h2 : H w.db = some (.lst ((goD L2 L1).map oV))
  h3 : H w.dr = some (.lst w.rows)
  c3 : AtAll S H w.rows ((rowsD (goD L1 L2)).map rwD)
/-- a leading from the edition at e1 to the one at e2, whose lines are L1 and L2, stands at x -/
def LdAt (S : Av) (H : Hp) (C x e1 e2 : Addr) (L1 L2 : List Int) : Prop := ∃ w, LdIn S H C x e1 e2 L1 L2 w
theorem LdAt.bt {S : Av} {H H' : Hp} {C x e1 e2 : Addr} {L1 L2 : List Int} (h : LdAt S H C x e1 e2 L1 L2) (b : BtS S H H') : LdAt S H' C x e1 e2 L1 L2 := by
  obtain ⟨w, h⟩ := h
  exact ⟨w, { h with at_ := b _ _ h.n0 h.at_, h1 := b _ _ h.n1 h.h1, h2 := b _ _ h.n2 h.h2, h3 := b _ _ h.n3 h.h3, c3 := AtAll.bt b _ _ h.c3 }⟩
theorem LdAt.plusN {S : Av} {H : Hp} {C x e1 e2 : Addr} {L1 L2 : List Int} {D : Addr} (h : LdAt S H C x e1 e2 L1 L2) (g : H D = none) : LdAt (Plus S D) H C x e1 e2 L1 L2 := by
  obtain ⟨w, h⟩ := h
  have ne : ∀ {b : Addr} {o : HO}, H b = some o → ¬ S b → ¬ Plus S D b := fun e n z => z.elim n fun q => by rw [q, g] at e; cases e
  exact ⟨w, { h with n0 := ne h.at_ h.n0, n1 := ne h.h1 h.n1, n2 := ne h.h2 h.n2, n3 := ne h.h3 h.n3, c3 := h.c3.plusN g }⟩
/-- an edition of these books whose lines are L -/
def sp_initL (CL C : Addr) : Sp := fun vs H Q _ => ∃ (S : Av) (x dx e1 e2 : Addr) (B1 B2 : Bks) (L1 L2 : List Int), vs = [.ref x, .ref e1, .ref e2] ∧ ¬ S x ∧ Occ S H ∧ H x = some (.ins CL dx []) ∧ EdAt (Plus S x) H C e1 B1 L1 ∧ EdAt (Plus S x) H C e2 B2 L2 ∧ EdOk B1 L1 ∧ EdOk B2 L2 ∧
  ∀ H', Bt x H H' → LdAt S H' CL x e1 e2 L1 L2 → Q .non H'
/-- the numbers to which those of N lead -/
def LedTo (g : List (Option Int)) (N : List Int) (z : Int) : Prop := ∃ i : Nat, (i : Int) ∈ N ∧ g[i]? = some (some z)
def Lost (g : List (Option Int)) (z : Int) : Prop := ∃ i : Nat, z = (i : Int) ∧ g[i]? = some none
/-- a leading and places of its one (told anew perhaps) -/
structure Led (S : Av) (H : Hp) (CP C p e e' o : Addr) (g : List (Option Int)) (N : List Int) (B B2 : Bks) (L L2 : List Int) : Prop where
  occ : Occ S H
  e : EdAt S H C e B L
  p : PcAt S H CP p e' N
  e' : EdAt S H C e' B L
  o : EdAt S H C o B2 L2
  k1 : EdOk B L
  k2 : EdOk B2 L2
  lg : g.length = (plOf B).length
  gb : ∀ j, some j ∈ g → 0 ≤ j ∧ j < ((plOf B2).length : Nat)
  nN : ∀ z ∈ N, 0 ≤ z ∧ z < ((plOf B).length : Nat)
  pN : N.Pairwise (· < ·)
theorem Led.same {S : Av} {H H' : Hp} {CP C p e e' o : Addr} {g : List (Option Int)} {N : List Int} {B B2 : Bks} {L L2 : List Int} (h : Led S H CP C p e e' o g N B B2 L L2) (z : Same H H') : Led S H' CP C p e e' o g N B B2 L L2 :=
  { h with occ := h.occ.same z, e := h.e.bt (Same.btS z), p := h.p.bt (Same.btS z), e' := h.e'.bt (Same.btS z), o := h.o.bt (Same.btS z) }
def sp_led (CP C : Addr) : Sp := fun vs H Q _ => ∃ (S : Av) (p e e' o gl : Addr) (g : List (Option Int)) (N : List Int) (B B2 : Bks) (L L2 : List Int), vs = [.ref e, .ref gl, .ref o, .ref p] ∧ Led S H CP C p e e' o g N B B2 L L2 ∧ H gl = some (.lst (g.map oV)) ∧
  ∀ v R H', Same H H' → H v = none → R.Pairwise (· < ·) → (∀ z, z ∈ R ↔ LedTo g N z) → PcAt S H' CP v o R → Q (.ref v) H'
def sp_lost (CP C : Addr) : Sp := fun vs H Q _ => ∃ (S : Av) (e gl : Addr) (g : List (Option Int)) (B : Bks) (L : List Int), vs = [.ref e, .ref gl] ∧ Occ S H ∧ EdAt S H C e B L ∧ EdOk B L ∧ g.length = (plOf B).length ∧ H gl = some (.lst (g.map oV)) ∧
  ∀ v R H', Same H H' → H v = none → R.Pairwise (· < ·) → (∀ z, z ∈ R ↔ Lost g z) → PcAt S H' CP v e R → Q (.ref v) H'
def sp_over (CP CL C : Addr) : Sp := fun vs H Q _ => ∃ (S : Av) (x p e1 e' e2 : Addr) (N : List Int) (B1 B2 : Bks) (L1 L2 : List Int), vs = [.ref x, .ref p] ∧ LdAt S H CL x e1 e2 L1 L2 ∧ Led S H CP C p e1 e' e2 (goD L1 L2) N B1 B2 L1 L2 ∧
  ∀ v R H', Same H H' → H v = none → R.Pairwise (· < ·) → (∀ z, z ∈ R ↔ LedTo (goD L1 L2) N z) → PcAt S H' CP v e2 R → Q (.ref v) H'
def sp_backL (CP CL C : Addr) : Sp := fun vs H Q _ => ∃ (S : Av) (x p e1 e' e2 : Addr) (N : List Int) (B1 B2 : Bks) (L1 L2 : List Int), vs = [.ref x, .ref p] ∧ LdAt S H CL x e1 e2 L1 L2 ∧ Led S H CP C p e2 e' e1 (goD L2 L1) N B2 B1 L2 L1 ∧
  ∀ v R H', Same H H' → H v = none → R.Pairwise (· < ·) → (∀ z, z ∈ R ↔ LedTo (goD L2 L1) N z) → PcAt S H' CP v e1 R → Q (.ref v) H'
def sp_lack (CP CL C : Addr) : Sp := fun vs H Q _ => ∃ (S : Av) (x e1 e2 : Addr) (B1 : Bks) (L1 L2 : List Int), vs = [.ref x] ∧ Occ S H ∧ LdAt S H CL x e1 e2 L1 L2 ∧ EdAt S H C e1 B1 L1 ∧ EdOk B1 L1 ∧
  ∀ v R H', Same H H' → H v = none → R.Pairwise (· < ·) → (∀ z, z ∈ R ↔ Lost (goD L1 L2) z) → PcAt S H' CP v e1 R → Q (.ref v) H'
def sp_lackB (CP CL C : Addr) : Sp := fun vs H Q _ => ∃ (S : Av) (x e1 e2 : Addr) (B2 : Bks) (L1 L2 : List Int), vs = [.ref x] ∧ Occ S H ∧ LdAt S H CL x e1 e2 L1 L2 ∧ EdAt S H C e2 B2 L2 ∧ EdOk B2 L2 ∧
  ∀ v R H', Same H H' → H v = none → R.Pairwise (· < ·) → (∀ z, z ∈ R ↔ Lost (goD L2 L1) z) → PcAt S H' CP v e2 R → Q (.ref v) H'
section
variable {P : Program} {w : World} {K : PySem.W.Frag} {mg : Str → Option Value} {base : Heap}
theorem ok_ledP {CP C : Addr} (T : Txt K mg) (c_is_places_of : Cl P w K mg base 5 "is_places_of" ["edition", "thing"] (sp_isPl CP C)) (c_places_of_numbers : Cl P w K mg base 8 "places_of_numbers" ["edition", "numbers"] (sp_ofNum K CP C)) (m_numbers : C8.Met P w K mg base 2 CP "numbers" (sp_pcNums CP) []) (D : Df K mg "places_led" s_places_led ["edition", "goals", "other", "places"]) : Cl P w K mg base 9 "places_led" ["edition", "goals", "other", "places"] (sp_led CP C) := by
  refine ok_of D sc_places_led (fun vs H Q E h => ?_) (fun f cdv A outer s H vs Q E hr h => ?_)
  · obtain ⟨S, p, e, e', o, gl, g, N, B, B2, L, L2, rfl, _⟩ := h
    rfl
  · obtain ⟨S, p, e, e', o, gl, g, N, B, B2, L, L2, rfl, t, hg, q⟩ := h
    refine ⟨_, (pss_cons (ps_if (pt_not (pt_val (pe_cl c_is_places_of hr (by decide) (by rfl) (pa_cons (pv 0) (pa_cons (pv 3) pa_nil))))) (pss_one ps_never) pss_nil)
      (pss_cons (ps_setLc (i := 4) (own := [("number", 5)]) rfl sc_places_led.nd rfl rfl (sw_true rfl rfl rfl (by decide +kernel)) (pi_list (C8.pe_mt0 m_numbers hr (by decide) (pv 3))) (blkOk_by (own := [("number", 5)]) (N := N_places_led) (sc := defScope s_places_led) (by decide +kernel)) (fun _ _ _ _ _ => (pg_name (i := 5) sc_places_led.nd rfl (.inl rfl))) (fun _ _ _ _ _ => pts_nil) (fun _ _ _ _ _ => (pe_ix (ix_listK (K := K) rfl) (pv 1) (pv 5) (fun _ _ => rfl))))
      (pss_one (ps_ret (pe_cl c_places_of_numbers hr (by decide) (by rfl) (pa_cons (pv 2) (pa_cons (pe_lc (own := [("goal", 6)]) rfl sc_places_led.nd (pi_list (pv 4)) (blkOk_by (own := [("goal", 6)]) (N := N_places_led) (sc := defScope s_places_led) (by decide +kernel)) (fun _ _ _ _ _ => (pg_name (i := 6) sc_places_led.nd rfl (.inl rfl))) (fun _ _ _ _ _ => (pts_one (pt_cmpR op_notN (pv 6) pe_non (nomark _)))) (fun _ _ _ _ _ => (pv 6))) pa_nil))))))), ?_⟩
    have lL := t.k1.ll
    have l4 := t.k1.l4
    refine ⟨_, rfl, _, rfl, S, e, p, e', N, B, L, rfl, t.occ, t.e, t.p, t.e', by omega, t.k1.bk.nm, fun H1 S1 => ⟨_, rfl, ite2 (fun z => absurd z (by decide)) fun _ => ?_⟩⟩
    have t1 := t.same S1
    have lN := rise_le t1.pN t1.nN
    obtain ⟨wp, hp⟩ := id t1.p
    refine ⟨.ref p, rfl, p, _, _, rfl, hp.at_, rfl, S, p, e', N, rfl, t1.p, fun l hl => ⟨l, rfl, ⟨_, .inl (.inl upd_same)⟩, fun Dl hDl => ?_⟩⟩
    have S2 := same_new (o := .lst (N.map V.int)) hl
    have el := upd_same (H := H1) (a := l) (o := .lst (N.map V.int))
    generalize upd H1 l (.lst (N.map V.int)) = H2 at S2 el hDl ⊢
    have S02 := S1.trans S2
    have gi : ∀ i z, N[i]? = some z → ∃ (j : Nat) (u : Option Int), z = (j : Int) ∧ g[j]? = some u := fun i z hz => by
      have b := t.nN z (List.mem_of_getElem? hz)
      have hj : z.toNat < g.length := by rw [t.lg]; omega
      exact ⟨z.toNat, _, by omega, List.getElem?_eq_getElem hj⟩
    refine lc_it (walk_list (xs := N.map V.int)) (fun i H' => Same H2 H' ∧ ∃ G : List (Option Int), H' Dl = some (.lst (G.map oV)) ∧ G.length = i ∧ ∀ u, u ∈ G ↔ ∃ j : Nat, (j : Int) ∈ N.take i ∧ g[j]? = some u) ⟨same_new hDl, [], upd_same, rfl, fun u => by simp⟩ (fun i H' _ ⟨z, _⟩ => .inl (.inl (z _ _ el))) ?_ ?_
    · rintro i y0 H3x H3 hi ⟨S3, G, eG, lG, mG⟩ ⟨rfl, hy0⟩
      rw [List.length_map] at hi
      obtain ⟨z, hz⟩ : ∃ z, N[i]? = some z := ⟨_, List.getElem?_eq_getElem hi⟩
      rw [List.getElem?_map, hz] at hy0
      cases hy0
      obtain ⟨j, u, rfl, hu⟩ := gi i z hz
      refine ⟨rfl, _, rfl, _, rfl, gl, _, (j : Nat), oV u, rfl, rfl, .inl (.inl (S3 _ _ (S02 _ _ hg))), atI_nat (j := j) (by rw [List.getElem?_map, hu]; rfl), ?_⟩
      refine ⟨_, eG, Evl.sz_lt (by rw [List.length_map]; omega), same_over S3 hDl, G ++ [u], by rw [upd_same, List.map_append]; rfl, by rw [List.length_append, lG]; rfl, fun x => ?_⟩
      rw [List.mem_append, mG, List.mem_singleton, List.take_add_one, hz]
      constructor
      · rintro (⟨k, hk, e⟩ | rfl)
        · exact ⟨k, List.mem_append_left _ hk, e⟩
        · exact ⟨j, List.mem_append_right _ (by simp), hu⟩
      · rintro ⟨k, hk, e⟩
        rcases List.mem_append.mp hk with hk | hk
        · exact .inl ⟨k, hk, e⟩
        · have h0 : (k : Int) = (j : Int) := by simpa using hk
          have h1 : k = j := by omega
          subst h1
          rw [hu] at e
          exact .inr (Option.some.inj e).symm
    · rintro H3 ⟨S3, G, eG, lG, mG⟩
      rw [List.length_map] at lG
      rw [List.length_map, List.take_length] at mG
      have S03 := S02.trans S3
      refine ⟨_, rfl, .ref Dl, rfl, Dl, rfl, ⟨_, .inl (.inl eG)⟩, fun D2 hD2 => ?_⟩
      refine lc_it (walk_list (xs := G.map oV)) (fun i H' => Same H3 H' ∧ ∃ M : List Int, H' D2 = some (.lst (M.map V.int)) ∧ M.length ≤ i ∧ ∀ z, z ∈ M ↔ some z ∈ G.take i) ⟨same_new hD2, [], upd_same, Nat.le_refl _, fun z => by simp⟩ (fun i H' _ ⟨z, _⟩ => .inl (.inl (z _ _ eG))) ?_ ?_
      · rintro i y0 H4x H4 hi ⟨S4, M, eM, lM, mM⟩ ⟨rfl, hy0⟩
        rw [List.length_map] at hi
        obtain ⟨u, hu⟩ : ∃ u, G[i]? = some u := ⟨_, List.getElem?_eq_getElem hi⟩
        rw [List.getElem?_map, hu] at hy0
        cases hy0
        have et : G.take (i + 1) = G.take i ++ [u] := by rw [List.take_add_one, hu]; rfl
        cases u with
        | none =>
          refine ⟨rfl, _, rfl, rfl, _, rfl, ite2 (fun z => absurd z (by decide)) fun _ => ⟨S4, M, eM, by omega, fun z => ?_⟩⟩
          rw [mM, et, List.mem_append]
          simp
        | some k =>
          refine ⟨rfl, _, rfl, rfl, _, rfl, ite2 (fun _ => ?_) (fun z => absurd (by rfl) z)⟩
          refine ⟨_, rfl, _, eM, Evl.sz_lt (by rw [List.length_map]; omega), same_over S4 hD2, M ++ [k], by rw [upd_same, List.map_append]; rfl, by rw [List.length_append, List.length_singleton]; omega, fun z => ?_⟩
          rw [List.mem_append, mM, et, List.mem_append, List.mem_singleton, List.mem_singleton]
          constructor
          · rintro (h | rfl)
            · exact .inl h
            · exact .inr rfl
          · rintro (h | h)
            · exact .inl h
            · exact .inr (Option.some.inj h)
      · rintro H4 ⟨S4, M, eM, lM, mM⟩
        rw [List.length_map] at lM
        rw [List.length_map, List.take_length] at mM
        have S04 := S03.trans S4
        have t4 := t.same S04
        have key : ∀ z, z ∈ M ↔ LedTo g N z := fun z => by rw [mM, mG]; rfl
        refine ⟨S, o, D2, M, B2, L2, rfl, t4.occ, t4.o, t.k2.l4, .inl (.inl eM), by omega, fun z hz => ?_, fun v R H' s' hv pw mem pc => q v R H' (S04.trans s') (Same.fresh S04 hv) pw (fun z => by rw [mem, key]) pc⟩
        obtain ⟨i, _, e⟩ := (key z).mp hz
        exact t.gb z (List.mem_of_getElem? e)
theorem ok_lostP {CP C : Addr} (T : Txt K mg) (c_places_of_numbers : Cl P w K mg base 8 "places_of_numbers" ["edition", "numbers"] (sp_ofNum K CP C)) (D : Df K mg "places_lost" s_places_lost ["edition", "goals"]) : Cl P w K mg base 9 "places_lost" ["edition", "goals"] (sp_lost CP C) := by
  refine ok_of D sc_places_lost (fun vs H Q E h => ?_) (fun f cdv A outer s H vs Q E hr h => ?_)
  · obtain ⟨S, e, gl, g, B, L, rfl, _⟩ := h
    rfl
  · obtain ⟨S, e, gl, g, B, L, rfl, ho, he, ok, lg, hg, q⟩ := h
    refine ⟨_, (pss_one (ps_ret (pe_cl c_places_of_numbers hr (by decide) (by rfl) (pa_cons (pv 0) (pa_cons (pe_lc (own := [("number", 2), ("goal", 3)]) rfl sc_places_lost.nd (pi_enum (by rfl) T.b_enumerate (pa_cons (pv 1) pa_nil)) (blkOk_by (own := [("number", 2), ("goal", 3)]) (N := N_places_lost) (sc := defScope s_places_lost) (by decide +kernel)) (fun _ _ _ _ _ => (pg_tupK (K := K) (n := 2) rfl rfl (pgs_cons (pg_name (i := 2) sc_places_lost.nd rfl (.inl rfl)) (pgs_cons (pg_name (i := 3) sc_places_lost.nd rfl (.inl rfl)) pgs_nil)))) (fun _ _ _ _ _ => (pts_one (pt_cmpR op_isN (pv 3) pe_non (nomark _)))) (fun _ _ _ _ _ => (pv 2))) pa_nil))))), ?_⟩
    have l4 := ok.l4
    refine ⟨_, rfl, .ref gl, rfl, gl, _, rfl, .inl (.inl hg), fun Dl hDl => ?_⟩
    refine lc_it (walk_enum (xs := g.map oV)) (fun i H' => Same H H' ∧ ∃ M : List Int, H' Dl = some (.lst (M.map V.int)) ∧ M.length ≤ i ∧ ∀ z, z ∈ M ↔ Lost (g.take i) z) ⟨same_new hDl, [], upd_same, Nat.le_refl _, fun z => by simp [Lost]⟩ (fun i H' _ ⟨z, _⟩ => .inl (.inl (z _ _ hg))) ?_ ?_
    · rintro i y H6x H6 hi ⟨S6, M, eM, lM, mM⟩ ⟨T6, x6, y6, rfl, hT6, rfl, e6, hy6⟩
      cases e6
      rw [List.length_map] at hi
      obtain ⟨u, hu⟩ : ∃ u, g[i]? = some u := ⟨_, List.getElem?_eq_getElem hi⟩
      have hy6' : (g.map oV)[i]? = some y6 := hy6
      rw [List.getElem?_map, hu] at hy6'
      cases hy6'
      have S7 := same_new (o := .tup [.int (i : Nat), oV u]) hT6
      have et : ∀ z, Lost (g.take (i + 1)) z ↔ Lost (g.take i) z ∨ (u = none ∧ z = (i : Nat)) := fun z => by
        have e1 : g.take (i + 1) = g.take i ++ [u] := by rw [List.take_add_one, hu]; rfl
        have lt : (g.take i).length = i := by rw [List.length_take]; omega
        rw [e1]
        constructor
        · rintro ⟨k, rfl, e⟩
          by_cases hk : k < i
          · rw [List.getElem?_append_left (by omega)] at e
            exact .inl ⟨k, rfl, e⟩
          · rw [List.getElem?_append_right (by omega), lt] at e
            have hk2 : k - i = 0 := by
              have := (List.getElem?_eq_some_iff.mp e).1
              simp at this
              omega
            rw [hk2] at e
            have : k = i := by omega
            subst this
            exact .inr ⟨Option.some.inj e, rfl⟩
        · rintro (⟨k, rfl, e⟩ | ⟨rfl, rfl⟩)
          · exact ⟨k, rfl, by rw [List.getElem?_append_left (List.getElem?_eq_some_iff.mp e).1]; exact e⟩
          · exact ⟨i, rfl, by rw [List.getElem?_append_right (by omega), lt, Nat.sub_self]; rfl⟩
      refine ⟨T6, _, rfl, .inl (.inl upd_same), rfl, _, _, rfl, _, _, rfl, rfl, rfl, ?_⟩
      cases u with
      | none =>
        refine ⟨_, rfl, rfl, _, rfl, ite2 (fun _ => ?_) (fun z => absurd (by rfl) z)⟩
        refine ⟨_, rfl, _, S7 _ _ eM, Evl.sz_lt (by rw [List.length_map]; omega), same_over (S6.trans S7) hDl, M ++ [((i : Nat) : Int)], by rw [upd_same, List.map_append]; rfl, by rw [List.length_append, List.length_singleton]; omega, fun z => ?_⟩
        rw [List.mem_append, mM, et, List.mem_singleton]
        simp
      | some k =>
        refine ⟨_, rfl, rfl, _, rfl, ite2 (fun z => absurd z (by intro h; cases h)) fun _ => ⟨S6.trans S7, M, S7 _ _ eM, by omega, fun z => ?_⟩⟩
        rw [mM, et]
        simp
    · rintro H6 ⟨S6, M, eM, lM, mM⟩
      rw [List.length_map] at lM
      rw [List.length_map, List.take_length] at mM
      refine ⟨S, e, Dl, M, B, L, rfl, ho.same S6, he.bt (Same.btS S6), l4, .inl (.inl eM), by omega, fun z hz => ?_, fun v R H' s' hv pw mem pc => q v R H' (S6.trans s') (Same.fresh S6 hv) pw (fun z => by rw [mem, mM]) pc⟩
      obtain ⟨i, rfl, e⟩ := (mM z).mp hz
      have := (List.getElem?_eq_some_iff.mp e).1
      omega
theorem ok_over {CP CL C f : Addr} {fd : FuncData} (T : Txt K mg) (LC : LdC K CL) (c_places_led : Cl P w K mg base 9 "places_led" ["edition", "goals", "other", "places"] (sp_led CP C)) (F : Fun K "over" "Leading.over" s_Leading_over f fd) : FnOk P w K mg base CX0 10 f fd ["self", "places"] (sp_over CP CL C) := by
  refine F.ok sc_Leading_over (fun vs H Q E h => ?_) (fun cdv A outer s H vs Q E hr h => ?_)
  · obtain ⟨S, x, p, e1, e', e2, N, B1, B2, L1, L2, rfl, _⟩ := h
    rfl
  · obtain ⟨S, x, p, e1, e', e2, N, B1, B2, L1, L2, rfl, ⟨w, h⟩, t, q⟩ := h
    refine ⟨_, (pss_one (ps_ret (pe_cl c_places_led hr (by decide) (by rfl) (pa_cons (pe_fld (pv 0) rfl) (pa_cons (pe_fld (pv 0) rfl) (pa_cons (pe_fld (pv 0) rfl) (pa_cons (pv 1) pa_nil))))))), ?_⟩
    exact ⟨.ref x, rfl, x, CL, _, _, _, rfl, h.at_, LC.cl, LC.n1, rfl, .ref x, rfl, x, CL, _, _, _, rfl, h.at_, LC.cl, LC.n3, rfl, .ref x, rfl, x, CL, _, _, _, rfl, h.at_, LC.cl, LC.n2, rfl, _, rfl, S, p, e1, e', e2, w.da, _, N, B1, B2, L1, L2, rfl, t, h.h1, q⟩
theorem ok_lack {CP CL C f : Addr} {fd : FuncData} (T : Txt K mg) (LC : LdC K CL) (c_places_lost : Cl P w K mg base 9 "places_lost" ["edition", "goals"] (sp_lost CP C)) (F : Fun K "lacking" "Leading.lacking" s_Leading_lacking f fd) : FnOk P w K mg base CX0 10 f fd ["self"] (sp_lack CP CL C) := by
  refine F.ok sc_Leading_lacking (fun vs H Q E h => ?_) (fun cdv A outer s H vs Q E hr h => ?_)
  · obtain ⟨S, x, e1, e2, B1, L1, L2, rfl, _⟩ := h
    rfl
  · obtain ⟨S, x, e1, e2, B1, L1, L2, rfl, ho, ⟨w, h⟩, he, ok, q⟩ := h
    refine ⟨_, (pss_one (ps_ret (pe_cl c_places_lost hr (by decide) (by rfl) (pa_cons (pe_fld (pv 0) rfl) (pa_cons (pe_fld (pv 0) rfl) pa_nil))))), ?_⟩
    exact ⟨.ref x, rfl, x, CL, _, _, _, rfl, h.at_, LC.cl, LC.n1, rfl, .ref x, rfl, x, CL, _, _, _, rfl, h.at_, LC.cl, LC.n3, rfl, S, e1, w.da, _, B1, L1, rfl, ho, he, ok, by rw [go_len]; exact ok.ll, h.h1, q⟩
theorem ok_initL {CL C f : Addr} {fd : FuncData} (T : Txt K mg) (LC : LdC K CL) (c_check_edition : Cl P w K mg base 2 "check_edition" ["thing"] (sp_chkEd C)) (m_lines : C8.Met P w K mg base 2 C "lines" (sp_lines C) []) (c_parts_with_lines : Cl P w K mg base 4 "parts_with_lines" ["edition", "lines"] (sp_pwl C)) (c_rows_of : Cl P w K mg base 3 "rows_of" ["goals"] (sp_rowsOf K)) (F : Fun K "__init__" "Leading.__init__" s_Leading___init__ f fd) : FnOk P w K mg base CX0 5 f fd ["self", "one", "other"] (sp_initL CL C) := by
  refine F.ok sc_Leading___init__ (fun vs H Q E h => ?_) (fun cdv A outer s H vs Q E hr h => ?_)
  · obtain ⟨S, x, dx, e1, e2, B1, B2, L1, L2, rfl, _⟩ := h
    rfl
  · obtain ⟨S, x, dx, e1, e2, B1, B2, L1, L2, rfl, nx, ho, hx, h1, h2, k1, k2, q⟩ := h
    refine ⟨_, (pss_cons (ps_expr (pe_cl c_check_edition hr (by decide) (by rfl) (pa_cons (pv 1) pa_nil)))
      (pss_cons (ps_expr (pe_cl c_check_edition hr (by decide) (by rfl) (pa_cons (pv 2) pa_nil)))
      (pss_cons (ps_fld (pv 0) (pv 1) rfl)
      (pss_cons (ps_fld (pv 0) (pv 2) rfl)
      (pss_cons (ps_fld (pv 0) (pe_cl c_parts_with_lines hr (by decide) (by rfl) (pa_cons (pv 2) (pa_cons (C8.pe_mt0 m_lines hr (by decide) (pv 1)) pa_nil))) rfl)
      (pss_cons (ps_fld (pv 0) (pe_cl c_parts_with_lines hr (by decide) (by rfl) (pa_cons (pv 1) (pa_cons (C8.pe_mt0 m_lines hr (by decide) (pv 2)) pa_nil))) rfl)
      (pss_one (ps_fld (pv 0) (pe_cl c_rows_of hr (by decide) (by rfl) (pa_cons (pe_fld (pv 0) rfl) pa_nil)) rfl)))))))), ?_⟩
    have oS : Occ (Plus S x) H := ho.plus hx
    have la1 := k1.ll
    have la2 := k2.ll
    have lb1 := k1.l4
    have lb2 := k2.l4
    refine ⟨.ref e1, rfl, _, e1, B1, L1, rfl, h1, ?_⟩
    refine ⟨.ref e2, rfl, _, e2, B2, L2, rfl, h2, ?_⟩
    -- the two editions
    refine ⟨.ref e1, rfl, .ref x, rfl, x, CL, dx, [], rfl, hx, LC.cl, LC.n1, by decide, ?_⟩
    have xa : upd H x (.ins CL dx (putF "_one" (.ref e1) [])) x = some (.ins CL dx [("_one", .ref e1)]) := upd_same
    refine ⟨.ref e2, rfl, .ref x, rfl, x, CL, dx, _, rfl, xa, LC.cl, LC.n2, by show 1 < 1000; decide, ?_⟩
    have Ub : BtS (Plus S x) H (upd (upd H x (.ins CL dx (putF "_one" (.ref e1) []))) x (.ins CL dx (putF "_other" (.ref e2) [("_one", .ref e1)]))) := (BtS.upd (.inr rfl)).trans (BtS.upd (.inr rfl))
    have bb : Bt x H (upd (upd H x (.ins CL dx (putF "_one" (.ref e1) []))) x (.ins CL dx (putF "_other" (.ref e2) [("_one", .ref e1)]))) := Bt.upd.trans Bt.upd
    have xb : upd (upd H x (.ins CL dx (putF "_one" (.ref e1) []))) x (.ins CL dx (putF "_other" (.ref e2) [("_one", .ref e1)])) x = some (.ins CL dx [("_one", .ref e1), ("_other", .ref e2)]) := upd_same
    have ob : Occ (Plus S x) (upd (upd H x (.ins CL dx (putF "_one" (.ref e1) []))) x (.ins CL dx (putF "_other" (.ref e2) [("_one", .ref e1)]))) := oS.upd.upd
    generalize upd (upd H x (.ins CL dx (putF "_one" (.ref e1) []))) x (.ins CL dx (putF "_other" (.ref e2) [("_one", .ref e1)])) = Hb at Ub bb xb ob ⊢
    have h1 := h1.bt Ub
    have h2 := h2.bt Ub
    obtain ⟨w1, hw1⟩ := id h1
    -- ahead
    refine ⟨_, rfl, .ref e1, rfl, e1, _, _, rfl, hw1.at_, rfl, Plus S x, e1, B1, L1, rfl, h1, fun l hl => ?_⟩
    have S1 := same_new (o := .lst (L1.map V.int)) hl
    refine ⟨Plus S x, e2, l, B2, L1, L2, rfl, h2.bt (Same.btS S1), k2.nd, upd_same, k1.ln, by omega, fun da H2 S2 hda eda => ?_⟩
    have S12 := S1.trans S2
    refine ⟨.ref x, rfl, x, CL, dx, _, rfl, S12 _ _ xb, LC.cl, LC.n3, by show 2 < 1000; decide, ?_⟩
    have na : ¬ Plus S x da := ob.free (Same.fresh S1 hda)
    have Uc : BtS (Plus S x) Hb (upd H2 x (.ins CL dx (putF "_ahead" (.ref da) [("_one", .ref e1), ("_other", .ref e2)]))) := (Same.btS S12).trans (BtS.upd (.inr rfl))
    have bc : Bt x H (upd H2 x (.ins CL dx (putF "_ahead" (.ref da) [("_one", .ref e1), ("_other", .ref e2)]))) := (bb.trans (Bt.same S12)).trans Bt.upd
    have xc : upd H2 x (.ins CL dx (putF "_ahead" (.ref da) [("_one", .ref e1), ("_other", .ref e2)])) x = some (.ins CL dx [("_one", .ref e1), ("_other", .ref e2), ("_ahead", .ref da)]) := upd_same
    have oc : Occ (Plus S x) (upd H2 x (.ins CL dx (putF "_ahead" (.ref da) [("_one", .ref e1), ("_other", .ref e2)]))) := (ob.same S12).upd
    have ec := (BtS.upd (S := Plus S x) (H := H2) (p := x) (o := .ins CL dx (putF "_ahead" (.ref da) [("_one", .ref e1), ("_other", .ref e2)])) (.inr rfl)) _ _ na eda
    generalize upd H2 x (.ins CL dx (putF "_ahead" (.ref da) [("_one", .ref e1), ("_other", .ref e2)])) = Hc at Uc bc xc oc ec ⊢
    have h1 := h1.bt Uc
    have h2 := h2.bt Uc
    obtain ⟨w2, hw2⟩ := id h2
    -- behind
    refine ⟨_, rfl, .ref e2, rfl, e2, _, _, rfl, hw2.at_, rfl, Plus S x, e2, B2, L2, rfl, h2, fun l2 hl2 => ?_⟩
    have S3 := same_new (o := .lst (L2.map V.int)) hl2
    refine ⟨Plus S x, e1, l2, B1, L2, L1, rfl, h1.bt (Same.btS S3), k1.nd, upd_same, k2.ln, by omega, fun db H4 S4 hdb edb => ?_⟩
    have S34 := S3.trans S4
    refine ⟨.ref x, rfl, x, CL, dx, _, rfl, S34 _ _ xc, LC.cl, LC.n4, by show 3 < 1000; decide, ?_⟩
    have nb : ¬ Plus S x db := oc.free (Same.fresh S3 hdb)
    have Ud : BtS (Plus S x) Hc (upd H4 x (.ins CL dx (putF "_behind" (.ref db) [("_one", .ref e1), ("_other", .ref e2), ("_ahead", .ref da)]))) := (Same.btS S34).trans (BtS.upd (.inr rfl))
    have bd : Bt x H (upd H4 x (.ins CL dx (putF "_behind" (.ref db) [("_one", .ref e1), ("_other", .ref e2), ("_ahead", .ref da)]))) := (bc.trans (Bt.same S34)).trans Bt.upd
    have xd : upd H4 x (.ins CL dx (putF "_behind" (.ref db) [("_one", .ref e1), ("_other", .ref e2), ("_ahead", .ref da)])) x = some (.ins CL dx [("_one", .ref e1), ("_other", .ref e2), ("_ahead", .ref da), ("_behind", .ref db)]) := upd_same
    have od : Occ (Plus S x) (upd H4 x (.ins CL dx (putF "_behind" (.ref db) [("_one", .ref e1), ("_other", .ref e2), ("_ahead", .ref da)]))) := (oc.same S34).upd
    have fd := (BtS.upd (S := Plus S x) (H := H4) (p := x) (o := .ins CL dx (putF "_behind" (.ref db) [("_one", .ref e1), ("_other", .ref e2), ("_ahead", .ref da)])) (.inr rfl)) _ _ nb edb
    have ed := Ud _ _ na ec
    generalize upd H4 x (.ins CL dx (putF "_behind" (.ref db) [("_one", .ref e1), ("_other", .ref e2), ("_ahead", .ref da)])) = Hd at Ud bd xd od ed fd ⊢
    -- the rows
    refine ⟨.ref x, rfl, x, CL, dx, _, .ref da, rfl, xd, LC.cl, LC.n3, rfl, Plus S x, da, goD L1 L2, rfl, od, .inl (.inl ed), by rw [go_len]; omega, fun dr rows H5 S5 hdr er ar => ?_⟩
    refine ⟨.ref x, rfl, x, CL, dx, _, rfl, S5 _ _ xd, LC.cl, LC.n5, by show 4 < 1000; decide, ?_⟩
    have nr : ¬ Plus S x dr := od.free hdr
    have Ue := BtS.upd (S := Plus S x) (H := H5) (p := x) (o := .ins CL dx (putF "_rows" (.ref dr) [("_one", .ref e1), ("_other", .ref e2), ("_ahead", .ref da), ("_behind", .ref db)])) (.inr rfl)
    have W := (Same.btS S5).trans Ue
    have nn : ∀ {b}, ¬ Plus S x b → ¬ S b := fun n z => n (.inl z)
    refine q _ ((bd.trans (Bt.same S5)).trans Bt.upd) ⟨⟨dx, da, db, dr, rows⟩, ?_⟩
    exact { at_ := upd_same, n0 := nx, n1 := nn na, n2 := nn nb, n3 := nn nr
            h1 := W _ _ na ed, h2 := W _ _ nb fd, h3 := Ue _ _ nr er, c3 := AtAll.weak (fun _ z => .inl z) _ _ (AtAll.bt Ue _ _ ar) }
end
end My
set_option Elab.async false
set_option linter.all false
set_option maxRecDepth 100000
set_option maxHeartbeats 4000000
namespace My
open PySem PySem.Spec PyProof.Rows L2
/-! Q3: a leading's numbers, rows, editions; turned; two leadings one behind the other. -/
/-- a leading made anew -/
theorem mk_ld {S : Av} {H : Hp} {CL C x dx e1 e2 : Addr} {B1 B2 : Bks} {L1 L2 : List Int} {Q : VK} {E : XK} (ho : Occ S H) (a1 : EdAt S H C e1 B1 L1) (a2 : EdAt S H C e2 B2 L2) (k1 : EdOk B1 L1) (k2 : EdOk B2 L2) (hx : H x = none) (hdx : H dx = none) (ne : dx ≠ x)
    (q : ∀ H', Same H H' → LdAt S H' CL x e1 e2 L1 L2 → Q .non H') : sp_initL CL C [.ref x, .ref e1, .ref e2] (upd (upd H dx (.own x)) x (.ins CL dx [])) Q E := by
  have S8 : Same H (upd (upd H dx (.own x)) x (.ins CL dx [])) := (same_new hdx).trans (same_new (by rw [upd_ne ne.symm]; exact hx))
  exact ⟨S, x, dx, e1, e2, B1, B2, L1, L2, rfl, ho.free hx, ho.same S8, upd_same, (a1.plusN hx).bt (Same.btS S8), (a2.plusN hx).bt (Same.btS S8), k1, k2, fun H' b ld => q H' (fun p ob eo => b p ob (ne_of_none eo hx) (S8 p ob eo)) ld⟩
/-- one step behind the other -/
def stp (ways : List (Option Int)) : Option Int → Option Int
  | none => none
  | some j => (ways[j.toNat]?).getD none
def stepD (goes ways : List (Option Int)) : List (Option Int) := goes.map (stp ways)
theorem step_len (g w : List (Option Int)) : (stepD g w).length = g.length := List.length_map ..
theorem step_at {g w : List (Option Int)} {i : Nat} {o : Option Int} (h : g[i]? = some o) : (stepD g w)[i]? = some (stp w o) := by
  unfold stepD
  rw [List.getElem?_map, h]
  rfl
theorem step_led {g w : List (Option Int)} (hb : ∀ j, some j ∈ g → 0 ≤ j) {N M : List Int} (hM : ∀ z, z ∈ M ↔ LedTo g N z) (z : Int) : LedTo w M z ↔ LedTo (stepD g w) N z := by
  constructor
  · rintro ⟨j, hj, e⟩
    obtain ⟨i, hi, e2⟩ := (hM _).mp hj
    refine ⟨i, hi, ?_⟩
    rw [step_at e2]
    show some ((w[((j : Nat) : Int).toNat]?).getD none) = _
    rw [Int.toNat_natCast, e]
    rfl
  · rintro ⟨i, hi, e⟩
    unfold stepD at e
    rw [List.getElem?_map] at e
    obtain ⟨o, ho, e2⟩ := Option.map_eq_some_iff.mp e
    cases o with
    | none => cases e2
    | some j =>
      have b := hb j (List.mem_of_getElem? ho)
      have e3 : (w[j.toNat]?).getD none = some z := e2
      cases hw : w[j.toNat]? with
      | none =>
        rw [hw] at e3
        cases e3
      | some u =>
        rw [hw] at e3
        have e4 : u = some z := e3
        subst e4
        refine ⟨j.toNat, (hM _).mpr ⟨i, hi, ?_⟩, hw⟩
        rw [ho, Int.toNat_of_nonneg b]
def sp_goalAt (K : PySem.W.Frag) : Sp := fun vs H Q _ => ∃ (l : Addr) (g : List (Option Int)) (i : Nat) (o : Option Int), vs = [.ref l, .int (i : Nat)] ∧ SqL K H l (g.map oV) ∧ g[i]? = some o ∧ Q (oV o) H
def sp_goesTo (CL : Addr) : Sp := fun vs H Q _ => ∃ (S : Av) (x e1 e2 : Addr) (L1 L2 : List Int) (i : Nat) (o : Option Int), vs = [.ref x, .int (i : Nat)] ∧ LdAt S H CL x e1 e2 L1 L2 ∧ (goD L1 L2)[i]? = some o ∧ Q (oV o) H
def sp_comesFrom (CL : Addr) : Sp := fun vs H Q _ => ∃ (S : Av) (x e1 e2 : Addr) (L1 L2 : List Int) (i : Nat) (o : Option Int), vs = [.ref x, .int (i : Nat)] ∧ LdAt S H CL x e1 e2 L1 L2 ∧ (goD L2 L1)[i]? = some o ∧ Q (oV o) H
def sp_ldRows (CL : Addr) : Sp := fun vs H Q _ => ∃ (S : Av) (x e1 e2 : Addr) (L1 L2 : List Int), vs = [.ref x] ∧ LdAt S H CL x e1 e2 L1 L2 ∧ ∀ l rows, H l = none → AtAll S H rows ((rowsD (goD L1 L2)).map rwD) → Q (.ref l) (upd H l (.lst rows))
def sp_ldEds (CL : Addr) : Sp := fun vs H Q _ => ∃ (S : Av) (x e1 e2 : Addr) (L1 L2 : List Int), vs = [.ref x] ∧ LdAt S H CL x e1 e2 L1 L2 ∧ ∀ t, H t = none → Q (.ref t) (upd H t (.tup [.ref e1, .ref e2]))
def sp_turned (CL C : Addr) : Sp := fun vs H Q _ => ∃ (S : Av) (x e1 e2 : Addr) (B1 B2 : Bks) (L1 L2 : List Int), vs = [.ref x] ∧ Occ S H ∧ LdAt S H CL x e1 e2 L1 L2 ∧ EdAt S H C e1 B1 L1 ∧ EdAt S H C e2 B2 L2 ∧ EdOk B1 L1 ∧ EdOk B2 L2 ∧ ∀ y H', Same H H' → H y = none → LdAt S H' CL y e2 e1 L2 L1 → Q (.ref y) H'
def sp_chkLd (CL : Addr) : Sp := fun vs H Q _ => ∃ (S : Av) (x e1 e2 : Addr) (L1 L2 : List Int), vs = [.ref x] ∧ LdAt S H CL x e1 e2 L1 L2 ∧ Q .non H
def sp_chkLdF (CL C : Addr) : Sp := fun vs H Q _ => ∃ (S : Av) (e x e1 e2 : Addr) (B : Bks) (L1 L2 : List Int), vs = [.ref e, .ref x] ∧ Occ S H ∧ EdAt S H C e B L1 ∧ EdOk B L1 ∧ LdAt S H CL x e1 e2 L1 L2 ∧ EdAt S H C e1 B L1 ∧ ∀ H', Same H H' → Q .non H'
/-- two leadings, the second from where the first ends -/
structure Thr (S : Av) (H : Hp) (CL C x y e1 e2 e2' e3 : Addr) (B1 B2 B3 : Bks) (L1 L2 L3 : List Int) : Prop where
  occ : Occ S H
  x : LdAt S H CL x e1 e2 L1 L2
  y : LdAt S H CL y e2' e3 L2 L3
  a1 : EdAt S H C e1 B1 L1
  a2 : EdAt S H C e2 B2 L2
  a2' : EdAt S H C e2' B2 L2
  a3 : EdAt S H C e3 B3 L3
  k1 : EdOk B1 L1
  k2 : EdOk B2 L2
  k3 : EdOk B3 L3
theorem Thr.same {S : Av} {H H' : Hp} {CL C x y e1 e2 e2' e3 : Addr} {B1 B2 B3 : Bks} {L1 L2 L3 : List Int} (h : Thr S H CL C x y e1 e2 e2' e3 B1 B2 B3 L1 L2 L3) (z : Same H H') : Thr S H' CL C x y e1 e2 e2' e3 B1 B2 B3 L1 L2 L3 :=
  { h with occ := h.occ.same z, x := h.x.bt (Same.btS z), y := h.y.bt (Same.btS z), a1 := h.a1.bt (Same.btS z), a2 := h.a2.bt (Same.btS z), a2' := h.a2'.bt (Same.btS z), a3 := h.a3.bt (Same.btS z) }
def sp_chkLds (CL C : Addr) : Sp := fun vs H Q _ => ∃ (S : Av) (x y e1 e2 e2' e3 : Addr) (B1 B2 B3 : Bks) (L1 L2 L3 : List Int), vs = [.ref x, .ref y] ∧ Thr S H CL C x y e1 e2 e2' e3 B1 B2 B3 L1 L2 L3 ∧ ∀ H', Same H H' → Q .non H'
def sp_through (CP CL C : Addr) : Sp := fun vs H Q _ => ∃ (S : Av) (x y p e1 e1' e2 e2' e3 : Addr) (N : List Int) (B1 B2 B3 : Bks) (L1 L2 L3 : List Int), vs = [.ref x, .ref y, .ref p] ∧ Thr S H CL C x y e1 e2 e2' e3 B1 B2 B3 L1 L2 L3 ∧ PcAt S H CP p e1' N ∧ EdAt S H C e1' B1 L1 ∧ (∀ z ∈ N, 0 ≤ z ∧ z < ((plOf B1).length : Nat)) ∧ N.Pairwise (· < ·) ∧
  ∀ v R H', Same H H' → H v = none → R.Pairwise (· < ·) → (∀ z, z ∈ R ↔ LedTo (stepD (goD L1 L2) (goD L2 L3)) N z) → PcAt S H' CP v e3 R → Q (.ref v) H'
def sp_rowsThr (CL C : Addr) : Sp := fun vs H Q _ => ∃ (S : Av) (x y e1 e2 e2' e3 : Addr) (B1 B2 B3 : Bks) (L1 L2 L3 : List Int), vs = [.ref x, .ref y] ∧ Thr S H CL C x y e1 e2 e2' e3 B1 B2 B3 L1 L2 L3 ∧ ∀ k rows H', Same H H' → H k = none → H' k = some (.lst rows) → AtAll S H' rows ((rowsD (stepD (goD L1 L2) (goD L2 L3))).map rwD) → Q (.ref k) H'
section
variable {P : Program} {w : World} {K : PySem.W.Frag} {mg : Str → Option Value} {base : Heap}
theorem ok_ldRows {CL f : Addr} {fd : FuncData} (T : Txt K mg) (LC : LdC K CL) (F : Fun K "rows" "Leading.rows" s_Leading_rows f fd) : FnOk P w K mg base CX0 2 f fd ["self"] (sp_ldRows CL) := by
  refine F.ok sc_Leading_rows (fun vs H Q E h => ?_) (fun cdv A outer s H vs Q E hr h => ?_)
  · obtain ⟨S, x, e1, e2, L1, L2, rfl, _⟩ := h
    rfl
  · obtain ⟨S, x, e1, e2, L1, L2, rfl, ⟨w, h⟩, q⟩ := h
    refine ⟨_, (pss_one (ps_ret (pe_callTy call_list_of (by rfl) T.b_list (by decide +kernel) (pa_cons (pe_fld (pv 0) rfl) pa_nil)))), ?_⟩
    exact ⟨.ref x, rfl, x, CL, _, _, _, rfl, h.at_, LC.cl, LC.n5, rfl, _, _, rfl, .inl (.inl (.inl h.h3)), fun l hl => q l w.rows hl h.c3⟩
theorem ok_ldEds {CL f : Addr} {fd : FuncData} (T : Txt K mg) (LC : LdC K CL) (F : Fun K "editions" "Leading.editions" s_Leading_editions f fd) : FnOk P w K mg base CX0 2 f fd ["self"] (sp_ldEds CL) := by
  refine F.ok sc_Leading_editions (fun vs H Q E h => ?_) (fun cdv A outer s H vs Q E hr h => ?_)
  · obtain ⟨S, x, e1, e2, L1, L2, rfl, _⟩ := h
    rfl
  · obtain ⟨S, x, e1, e2, L1, L2, rfl, ⟨w, h⟩, q⟩ := h
    refine ⟨_, (pss_one (ps_ret (pe_tup (pa_cons (pe_fld (pv 0) rfl) (pa_cons (pe_fld (pv 0) rfl) pa_nil))))), ?_⟩
    exact ⟨.ref x, rfl, x, CL, _, _, _, rfl, h.at_, LC.cl, LC.n1, rfl, .ref x, rfl, x, CL, _, _, _, rfl, h.at_, LC.cl, LC.n2, rfl, by show 2 ≤ sizeLine; decide, fun t ht => q t ht⟩
end
end My
set_option Elab.async false
set_option linter.all false
set_option maxRecDepth 100000
set_option maxHeartbeats 4000000
namespace My
open PySem PySem.Spec PyProof.Rows L2
/-! X4: the classes of errors; what is asked of any data; checks that refuse. -/
/-! ### any data -/
def isNumD : PyData → Bool
  | .int _ => true
  | _ => false
def wholeD (lo hi : Int) : PyData → Bool
  | .int i => decide (lo ≤ i) && decide (i ≤ hi)
  | _ => false
def tupD (lo hi : Int) : PyData → Bool
  | .tuple ds => decide (lo ≤ (ds.length : Int)) && decide ((ds.length : Int) ≤ hi)
  | _ => false
def isRowD (lo hi : Int) : PyData → Bool
  | .list ds => decide (lo ≤ (ds.length : Int)) && decide ((ds.length : Int) ≤ hi)
  | .tuple ds => decide (lo ≤ (ds.length : Int)) && decide ((ds.length : Int) ≤ hi)
  | _ => false
/-- a stretch that fits an edition of n parts -/
def strD (n : Int) : PyData → Bool
  | .tuple [.int a, .int b] => decide (0 ≤ a) && decide (a ≤ n - 1) && (decide (a ≤ b) && decide (b ≤ n - 1))
  | _ => false
/-- the type's name -/
def tyD : PyData → String
  | .none => "NoneType"
  | .bool _ => "bool"
  | .int _ => "int"
  | .str _ => "str"
  | .list _ => "list"
  | .tuple _ => "tuple"
  | .dict _ => "dict"
theorem At.ty {K : PySem.W.Frag} {S : Av} {H : Hp} : ∀ {v : V} {D : PyData}, At S H v D → TyOf K H v (.type (tyD D))
  | _, _, .non => .non
  | _, _, .bl b => .bl b
  | _, _, .int i => .int i
  | _, _, .str x => .str x
  | _, _, .lst _ e _ => .lst e
  | _, _, .tup _ e _ => .tup e
def sp_numDt (K : PySem.W.Frag) : Sp := fun vs H Q _ => ∃ (S : Av) (x : V) (D : PyData), vs = [x] ∧ At S H x D ∧ Q (.bl (isNumD D)) H
def sp_wholeD : Sp := fun vs H Q _ => ∃ (S : Av) (x : V) (D : PyData) (lo hi : Int), vs = [x, .int lo, .int hi] ∧ At S H x D ∧ Q (.bl (wholeD lo hi D)) H
def sp_tupD : Sp := fun vs H Q _ => ∃ (S : Av) (x : V) (D : PyData) (lo hi : Int), vs = [x, .int lo, .int hi] ∧ At S H x D ∧ Q (.bl (tupD lo hi D)) H
def sp_rowDt : Sp := fun vs H Q _ => ∃ (S : Av) (x : V) (D : PyData) (lo hi : Int), vs = [x, .int lo, .int hi] ∧ At S H x D ∧ ∀ H', Same H H' → Q (.bl (isRowD lo hi D)) H'
def sp_strD : Sp := fun vs H Q _ => ∃ (S : Av) (x : V) (D : PyData) (n : Int), vs = [x, .int n] ∧ At S H x D ∧ Q (.bl (strD n D)) H
section
variable {P : Program} {w : World} {K : PySem.W.Frag} {mg : Str → Option Value} {base : Heap}
theorem noRow (t : String) (h1 : kitB t "list" = some false) (h2 : kitB t "tuple" = some false) : PySem.W.kitAny K (.type t) [.type "list", .type "tuple"] = some false :=
  kitAny_cons (kit_ty (b := "list") (r := false) h1) (fun _ => kitAny_cons (kit_ty (b := "tuple") (r := false) h2) (fun _ => rfl) (fun z => nomatch z)) (fun z => nomatch z)
theorem isi_d {S : Av} {H : Hp} {v : V} {D : PyData} {T : String} {b : Bool} (h : At S H v D) (e : kitB (tyD D) T = some b) {Q : VK} (q : Q (.bl b) H) : RB K [v, .ty T] H Q := isi_b h.ty e q
theorem ok_numDt (T : Txt K mg) (D : Df K mg "is_number" s_is_number ["thing"]) : Cl P w K mg base 1 "is_number" ["thing"] (sp_numDt K) := by
  refine ok_of D sc_is_number (fun vs H Q E h => ?_) (fun f cdv A outer s H vs Q E hr h => ?_)
  · obtain ⟨S, x, D, rfl, _⟩ := h
    rfl
  · obtain ⟨S, x, D, rfl, hx, q⟩ := h
    refine ⟨_, (pss_one (ps_ret (pe_and (pe_callB call_isb (by rfl) T.b_isinstance (by decide +kernel) (pa_cons (pv 0) (pa_cons (pe_bltn (v := .ty "int") (u := .type "int") (by rfl) T.b_int (by decide +kernel) rfl) pa_nil))) (pe_one (pe_not (pe_callB call_isb (by rfl) T.b_isinstance (by decide +kernel) (pa_cons (pv 0) (pa_cons (pe_bltn (v := .ty "bool") (u := .type "bool") (by rfl) T.b_bool (by decide +kernel) rfl) pa_nil)))))))), ?_⟩
    refine ⟨x, rfl, ?_⟩
    cases D with
    | none => exact isi_d (b := false) hx (show kitB "NoneType" "int" = some false by decide +kernel) ⟨_, rfl, ite2 (fun z => absurd z (by decide)) fun _ => q⟩
    | bool b => exact isi_d (b := true) hx (show kitB "bool" "int" = some true by decide +kernel) ⟨_, rfl, ite2 (fun _ => ⟨x, rfl, isi_d (b := true) hx (show kitB "bool" "bool" = some true by decide +kernel) ⟨_, rfl, q⟩⟩) fun z => absurd (show true = true from rfl) z⟩
    | int i => exact isi_d (b := true) hx (show kitB "int" "int" = some true by decide +kernel) ⟨_, rfl, ite2 (fun _ => ⟨x, rfl, isi_d (b := false) hx (show kitB "int" "bool" = some false by decide +kernel) ⟨_, rfl, q⟩⟩) fun z => absurd (show true = true from rfl) z⟩
    | str z => exact isi_d (b := false) hx (show kitB "str" "int" = some false by decide +kernel) ⟨_, rfl, ite2 (fun z => absurd z (by decide)) fun _ => q⟩
    | list ds => exact isi_d (b := false) hx (show kitB "list" "int" = some false by decide +kernel) ⟨_, rfl, ite2 (fun z => absurd z (by decide)) fun _ => q⟩
    | tuple ds => exact isi_d (b := false) hx (show kitB "tuple" "int" = some false by decide +kernel) ⟨_, rfl, ite2 (fun z => absurd z (by decide)) fun _ => q⟩
    | dict ds => cases hx
theorem ok_wholeD (T : Txt K mg) (c_is_number : Cl P w K mg base 1 "is_number" ["thing"] (sp_numDt K)) (D : Df K mg "is_whole" s_is_whole ["thing", "low", "high"]) : Cl P w K mg base 2 "is_whole" ["thing", "low", "high"] sp_wholeD := by
  refine ok_of D sc_is_whole (fun vs H Q E h => ?_) (fun f cdv A outer s H vs Q E hr h => ?_)
  · obtain ⟨S, x, D, lo, hi, rfl, _⟩ := h
    rfl
  · obtain ⟨S, x, D, lo, hi, rfl, hx, q⟩ := h
    refine ⟨_, (pss_one (ps_ret (pe_and (pe_cl c_is_number hr (by decide) (by rfl) (pa_cons (pv 0) pa_nil)) (pe_one (pe_chain op_le op_le (pv 1) (pv 0) (pv 2)))))), ?_⟩
    refine ⟨x, rfl, S, x, D, rfl, hx, _, rfl, ite2 (fun e => ?_) (fun e => ?_)⟩
    · cases D with
      | int i =>
        cases hx
        refine ⟨.int lo, rfl, .int i, rfl, lo, i, rfl, rfl, _, rfl, ite2 (fun e3 => ?_) (fun e3 => ?_)⟩
        · refine ⟨.int hi, rfl, i, hi, rfl, rfl, ?_⟩
          have q : Q (.bl (decide (lo ≤ i) && decide (i ≤ hi))) H := q
          rw [e3, Bool.true_and] at q
          exact q
        · have q : Q (.bl (decide (lo ≤ i) && decide (i ≤ hi))) H := q
          rw [Bool.eq_false_iff.mpr e3, Bool.false_and] at q
          exact q
      | _ => exact absurd e Bool.false_ne_true
    · cases D with
      | int i => exact absurd rfl e
      | _ => exact q
theorem ok_tupD (T : Txt K mg) (D : Df K mg "is_tuple" s_is_tuple ["thing", "fewest", "most"]) : Cl P w K mg base 2 "is_tuple" ["thing", "fewest", "most"] sp_tupD := by
  refine ok_of D sc_is_tuple (fun vs H Q E h => ?_) (fun f cdv A outer s H vs Q E hr h => ?_)
  · obtain ⟨S, x, D, lo, hi, rfl, _⟩ := h
    rfl
  · obtain ⟨S, x, D, lo, hi, rfl, hx, q⟩ := h
    refine ⟨_, (pss_one (ps_ret (pe_and (pe_callB call_isb (by rfl) T.b_isinstance (by decide +kernel) (pa_cons (pv 0) (pa_cons (pe_bltn (v := .ty "tuple") (u := .type "tuple") (by rfl) T.b_tuple (by decide +kernel) rfl) pa_nil))) (pe_one (pe_chain op_le op_le (pv 1) (pe_callB call_len (by rfl) T.b_len (by decide +kernel) (pa_cons (pv 0) pa_nil)) (pv 2)))))), ?_⟩
    refine ⟨x, rfl, ?_⟩
    cases D with
    | tuple ds =>
      cases hx with
      | @tup a xs _ n ha k =>
      have lx : xs.length = ds.length := k.len
      refine isi_b (b := true) (.tup ha) (by decide +kernel) ⟨_, rfl, ite2 (fun _ => ?_) (fun z => absurd rfl z)⟩
      refine ⟨.int lo, rfl, .ref a, rfl, _, _, rfl, .inr ⟨_, .inl (.inl ha), rfl⟩, lo, _, rfl, rfl, _, rfl, ite2 (fun e => ?_) (fun e => ?_)⟩
      · have q : Q (.bl (decide (lo ≤ (ds.length : Int)) && decide ((ds.length : Int) ≤ hi))) H := q
        rw [← lx] at q
        refine ⟨.int hi, rfl, _, _, rfl, rfl, ?_⟩
        rw [e, Bool.true_and] at q
        exact q
      · have q : Q (.bl (decide (lo ≤ (ds.length : Int)) && decide ((ds.length : Int) ≤ hi))) H := q
        rw [← lx, Bool.eq_false_iff.mpr e, Bool.false_and] at q
        exact q
    | none => exact isi_d (b := false) hx (show kitB "NoneType" "tuple" = some false by decide +kernel) ⟨_, rfl, ite2 (fun z => absurd z (by decide)) fun _ => q⟩
    | bool b => exact isi_d (b := false) hx (show kitB "bool" "tuple" = some false by decide +kernel) ⟨_, rfl, ite2 (fun z => absurd z (by decide)) fun _ => q⟩
    | int i => exact isi_d (b := false) hx (show kitB "int" "tuple" = some false by decide +kernel) ⟨_, rfl, ite2 (fun z => absurd z (by decide)) fun _ => q⟩
    | str z => exact isi_d (b := false) hx (show kitB "str" "tuple" = some false by decide +kernel) ⟨_, rfl, ite2 (fun z => absurd z (by decide)) fun _ => q⟩
    | list ds => exact isi_d (b := false) hx (show kitB "list" "tuple" = some false by decide +kernel) ⟨_, rfl, ite2 (fun z => absurd z (by decide)) fun _ => q⟩
    | dict ds => cases hx
theorem ok_rowDt (T : Txt K mg) (D : Df K mg "is_row" s_is_row ["thing", "fewest", "most"]) : Cl P w K mg base 2 "is_row" ["thing", "fewest", "most"] sp_rowDt := by
  refine ok_of D sc_is_row (fun vs H Q E h => ?_) (fun f cdv A outer s H vs Q E hr h => ?_)
  · obtain ⟨S, x, D, lo, hi, rfl, _⟩ := h
    rfl
  · obtain ⟨S, x, D, lo, hi, rfl, hx, q⟩ := h
    refine ⟨_, (pss_one (ps_ret (pe_and (pe_callB call_isiT (by rfl) T.b_isinstance (by decide +kernel) (pa_cons (pv 0) (pa_cons (pe_tup (pa_cons (pe_bltn (v := .ty "list") (u := .type "list") (by rfl) T.b_list (by decide +kernel) rfl) (pa_cons (pe_bltn (v := .ty "tuple") (u := .type "tuple") (by rfl) T.b_tuple (by decide +kernel) rfl) pa_nil))) pa_nil))) (pe_one (pe_chain op_le op_le (pv 1) (pe_callB call_len (by rfl) T.b_len (by decide +kernel) (pa_cons (pv 0) pa_nil)) (pv 2)))))), ?_⟩
    refine ⟨x, rfl, by show 2 ≤ sizeLine; decide, fun t ht => ?_⟩
    have S1 := same_new (o := .tup [.ty "list", .ty "tuple"]) ht
    have hx := hx.same S1
    have et : upd H t (.tup [.ty "list", .ty "tuple"]) t = some (.tup [.ty "list", .ty "tuple"]) := upd_same
    generalize upd H t (.tup [.ty "list", .ty "tuple"]) = H1 at S1 hx et ⊢
    obtain ⟨ty, b, h1, h2, h3⟩ : ∃ ty b, TyX K H1 x ty ∧ PySem.W.kitAny K ty [.type "list", .type "tuple"] = some b ∧ ((b = true ∧ ∃ (a : Addr) (xs : List V), x = .ref a ∧ Rw H1 a xs ∧ isRowD lo hi D = (decide (lo ≤ (xs.length : Int)) && decide ((xs.length : Int) ≤ hi))) ∨ (b = false ∧ isRowD lo hi D = false)) := by
      have row : ∀ (a : Addr) (xs : List V), x = .ref a → Rw H1 a xs → isRowD lo hi D = (decide (lo ≤ (xs.length : Int)) && decide ((xs.length : Int) ≤ hi)) → ∃ ty b, TyX K H1 x ty ∧ PySem.W.kitAny K ty [.type "list", .type "tuple"] = some b ∧ ((b = true ∧ ∃ (a : Addr) (xs : List V), x = .ref a ∧ Rw H1 a xs ∧ isRowD lo hi D = (decide (lo ≤ (xs.length : Int)) && decide ((xs.length : Int) ≤ hi))) ∨ (b = false ∧ isRowD lo hi D = false)) := fun a xs e r ed => by
        obtain ⟨ty, h1, h2⟩ := row_kit (K := K) r
        exact ⟨ty, true, e ▸ h1, h2, .inl ⟨rfl, a, xs, e, r, ed⟩⟩
      cases D with
      | list ds =>
        cases hx with
        | lst n e k => exact row _ _ rfl (.inl e) (by rw [k.len]; rfl)
      | tuple ds =>
        cases hx with
        | tup n e k => exact row _ _ rfl (.inr e) (by rw [k.len]; rfl)
      | none => exact ⟨_, false, .base hx.ty, noRow "NoneType" (by decide +kernel) (by decide +kernel), .inr ⟨rfl, rfl⟩⟩
      | bool b => exact ⟨_, false, .base hx.ty, noRow "bool" (by decide +kernel) (by decide +kernel), .inr ⟨rfl, rfl⟩⟩
      | int i => exact ⟨_, false, .base hx.ty, noRow "int" (by decide +kernel) (by decide +kernel), .inr ⟨rfl, rfl⟩⟩
      | str z => exact ⟨_, false, .base hx.ty, noRow "str" (by decide +kernel) (by decide +kernel), .inr ⟨rfl, rfl⟩⟩
      | dict ds => cases hx
    refine ⟨x, t, _, ty, _, b, rfl, et, two_ty, h1, h2, _, rfl, ?_⟩
    rcases h3 with ⟨rfl, a, xs, rfl, ra, ed⟩ | ⟨rfl, ed⟩
    · refine ite2 (fun _ => ?_) (fun z => absurd rfl z)
      refine ⟨.int lo, rfl, .ref a, rfl, ?_⟩
      obtain ⟨b, hq⟩ := ra.sq (K := K)
      have q := q _ S1
      rw [ed] at q
      refine ⟨_, _, rfl, hq.lenV, lo, _, rfl, rfl, _, rfl, ite2 (fun e => ?_) (fun e => ?_)⟩
      · refine ⟨.int hi, rfl, _, _, rfl, rfl, ?_⟩
        rw [e, Bool.true_and] at q
        exact q
      · rw [Bool.eq_false_iff.mpr e, Bool.false_and] at q
        exact q
    · refine ite2 (fun z => absurd z (by decide)) fun _ => ?_
      have q := q _ S1
      rw [ed] at q
      exact q
end
end My
set_option Elab.async false
set_option linter.all false
set_option maxRecDepth 100000
set_option maxHeartbeats 4000000
namespace My
open PySem PySem.Spec PyProof.Rows L2
/-! X5: the classes of errors; a stretch among any data; checks that refuse. -/
theorem tyD_mem {S : Av} {H : Hp} {v : V} {D : PyData} (h : At S H v D) : tyD D ∈ ["NoneType", "bool", "int", "str", "list", "tuple"] := by
  cases D with
  | dict ds => cases h
  | none => exact List.mem_cons_self ..
  | bool b => show "bool" ∈ _; decide
  | int b => show "int" ∈ _; decide
  | str b => show "str" ∈ _; decide
  | list b => show "list" ∈ _; decide
  | tuple b => show "tuple" ∈ _; decide
def intD : PyData → Int
  | .int i => i
  | _ => 0
/-- a stretch that fits an edition of n parts -/
def fitD (n : Int) : PyData → Bool
  | .tuple [a, b] => wholeD 0 (n - 1) a && wholeD (intD a) (n - 1) b
  | _ => false
def sp_fit : Sp := fun vs H Q _ => ∃ (S : Av) (x : V) (D : PyData) (n : Int), vs = [x, .int n] ∧ At S H x D ∧ Q (.bl (fitD n D)) H
/-- what y of v is refused -/
def KpBad (H : Hp) (n : Int) (v : V) (D : PyData) (y : V) : Prop := (D ≠ .none ∧ isRowD 0 400 D = false ∧ y = v) ∨
  ∃ (a : Addr) (xs : List V) (ds : List PyData) (i : Nat) (d : PyData), v = .ref a ∧ Rw H a xs ∧ isRowD 0 400 D = true ∧ (D = .list ds ∨ D = .tuple ds) ∧ xs[i]? = some y ∧ ds[i]? = some d ∧ fitD n d = false ∧ ∀ (j : Nat) (e : PyData), j < i → ds[j]? = some e → fitD n e = true
def sp_chkX (CE : Addr) : Sp := fun vs H Q E => ∃ (S : Av) (x : V) (D : PyData), vs = [x] ∧ At S H x D ∧ ∀ dd H', Same H H' → H' dd = some (.xd [("found", x)]) → E (.ref CE) (some dd) H'
def sp_kpX (CN : Addr) : Sp := fun vs H Q E => ∃ (S : Av) (v : V) (D : PyData) (n : Int) (y : V), vs = [v, .int n] ∧ At S H v D ∧ KpBad H n v D y ∧ ∀ dd H', Same H H' → H' dd = some (.xd [("found", y)]) → E (.ref CN) (some dd) H'
section
variable {P : Program} {w : World} {K : PySem.W.Frag} {mg : Str → Option Value} {base : Heap}
theorem ok_PlaceErrorI {f : Addr} {fd : FuncData} (T : Txt K mg) (vV : PySem.W.findCls K (.type "ValueError") (.type "type") "__init__" = some (.val (.builtin "ValueError.__init__"))) (F : Fun K "__init__" "PlaceError.__init__" s_PlaceError___init__ f fd) : FnOk P w K mg base CX0 2 f fd ["self", "text"] (sp_base K) := by
  refine F.ok sc_PlaceError___init__ (fun vs H Q E h => ?_) (fun cdv A outer s H vs Q E hr h => ?_)
  · obtain ⟨a, C, x, rfl, _⟩ := h
    rfl
  · obtain ⟨a, C, x, rfl, hC, ha, q⟩ := h
    refine ⟨_, (pss_one (ps_expr (pe_veinit (by rfl) T.b_ValueError vV (pa_cons (pv 0) (pa_cons (pv 1) pa_nil))))), ?_⟩
    exact ⟨.ref a, rfl, x, rfl, a, C, [x], rfl, (by show 1 ≤ 1000; decide), hC, ha, q⟩
theorem ok_NoEditionI {f fB C B : Addr} {fd fdB : FuncData} (X : ExC K mg "NoEdition" C f) (cdB : CDef K B "__init__" fB) (gB : mg "PlaceError" = some (.ref B)) (kB : PySem.W.keepIn K (.ref fB) = true) (bB : Binds K fdB ["self", "text"] []) (GB : FnOk P w K mg base CX0 2 fB fdB ["self", "text"] (sp_base K)) (F : Fun K "__init__" "NoEdition.__init__" s_NoEdition___init__ f fd) : FnOk P w K mg base CX0 3 f fd ["self", "found"] (sp_found C) := by
  refine F.ok sc_NoEdition___init__ (fun vs H Q E h => ?_) (fun cdv A outer s H vs Q E hr h => ?_)
  · obtain ⟨a, x, rfl, _⟩ := h
    rfl
  · obtain ⟨a, x, rfl, ha, q⟩ := h
    refine ⟨_, (pss_cons (ps_expr (pe_cinit cdB GB hr (by rfl) gB kB bB (pa_cons (pv 0) (pa_cons pe_str pa_nil))))
      (pss_one (ps_ost (pv 0) (pv 1)))), ?_⟩
    refine ⟨.ref a, rfl, a, C, _, rfl, X.T, ha, ?_⟩
    exact ⟨x, rfl, .ref a, rfl, a, C, rfl, X.T, X.nF, .inl ⟨ha, q⟩⟩
theorem ok_NoPlacesI {f fB C B : Addr} {fd fdB : FuncData} (X : ExC K mg "NoPlaces" C f) (cdB : CDef K B "__init__" fB) (gB : mg "PlaceError" = some (.ref B)) (kB : PySem.W.keepIn K (.ref fB) = true) (bB : Binds K fdB ["self", "text"] []) (GB : FnOk P w K mg base CX0 2 fB fdB ["self", "text"] (sp_base K)) (F : Fun K "__init__" "NoPlaces.__init__" s_NoPlaces___init__ f fd) : FnOk P w K mg base CX0 3 f fd ["self", "found"] (sp_found C) := by
  refine F.ok sc_NoPlaces___init__ (fun vs H Q E h => ?_) (fun cdv A outer s H vs Q E hr h => ?_)
  · obtain ⟨a, x, rfl, _⟩ := h
    rfl
  · obtain ⟨a, x, rfl, ha, q⟩ := h
    refine ⟨_, (pss_cons (ps_expr (pe_cinit cdB GB hr (by rfl) gB kB bB (pa_cons (pv 0) (pa_cons pe_str pa_nil))))
      (pss_one (ps_ost (pv 0) (pv 1)))), ?_⟩
    refine ⟨.ref a, rfl, a, C, _, rfl, X.T, ha, ?_⟩
    exact ⟨x, rfl, .ref a, rfl, a, C, rfl, X.T, X.nF, .inl ⟨ha, q⟩⟩
theorem ok_fit (T : Txt K mg) (c_is_whole : Cl P w K mg base 2 "is_whole" ["thing", "low", "high"] sp_wholeD) (c_is_tuple : Cl P w K mg base 2 "is_tuple" ["thing", "fewest", "most"] sp_tupD) (D : Df K mg "is_stretch" s_is_stretch ["thing", "size"]) : Cl P w K mg base 3 "is_stretch" ["thing", "size"] sp_fit := by
  refine ok_of D sc_is_stretch (fun vs H Q E h => ?_) (fun f cdv A outer s H vs Q E hr h => ?_)
  · obtain ⟨S, x, D, n, rfl, _⟩ := h
    rfl
  · obtain ⟨S, x, D, n, rfl, hx, q⟩ := h
    refine ⟨_, (pss_one (ps_ret (pe_and (pe_cl c_is_tuple hr (by decide) (by rfl) (pa_cons (pv 0) (pa_cons pe_int (pa_cons pe_int pa_nil)))) (pe_and (pe_cl c_is_whole hr (by decide) (by rfl) (pa_cons (pe_ix ix_tup (pv 0) pe_int (fun _ _ => rfl)) (pa_cons pe_int (pa_cons (pe_op op_sub (pv 1) pe_int) pa_nil)))) (pe_one (pe_cl c_is_whole hr (by decide) (by rfl) (pa_cons (pe_ix ix_tup (pv 0) pe_int (fun _ _ => rfl)) (pa_cons (pe_ix ix_tup (pv 0) pe_int (fun _ _ => rfl)) (pa_cons (pe_op op_sub (pv 1) pe_int) pa_nil))))))))), ?_⟩
    refine ⟨x, rfl, S, x, D, 2, 2, rfl, hx, _, rfl, ?_⟩
    by_cases e : tupD 2 2 D = true
    · refine ite2 (fun _ => ?_) (fun z => absurd e z)
      cases D with
      | tuple ds =>
        obtain ⟨e1, e2⟩ := Bool.and_eq_true_iff.mp (show (decide ((2 : Int) ≤ (ds.length : Int)) && decide ((ds.length : Int) ≤ 2)) = true from e)
        have e1 := of_decide_eq_true e1
        have e2 := of_decide_eq_true e2
        cases hx with
        | @tup a xs _ nS ht k =>
        obtain ⟨d1, d2, rfl⟩ : ∃ d1 d2, ds = [d1, d2] := by
          match ds, e1, e2 with
          | [d1, d2], _, _ => exact ⟨d1, d2, rfl⟩
          | [], e1, _ => simp at e1
          | [_], e1, _ => simp at e1
          | _ :: _ :: _ :: r, _, e2 => simp at e2; omega
        cases k with
        | @cons u1 us _ _ k1 kr =>
        cases kr with
        | @cons u2 us _ _ k2 kr =>
        cases kr
        have q : Q (.bl (wholeD 0 (n - 1) d1 && wholeD (intD d1) (n - 1) d2)) H := q
        refine ⟨_, rfl, a, _, 0, _, rfl, rfl, .inl (.inl ht), atI_nat (j := 0) rfl, _, rfl, n, 1, rfl, rfl, S, u1, d1, 0, n - 1, rfl, k1, _, rfl, ?_⟩
        by_cases e3 : wholeD 0 (n - 1) d1 = true
        · refine ite2 (fun _ => ?_) (fun z => absurd e3 z)
          cases d1 with
          | int i =>
            cases k1
            refine ⟨_, rfl, a, _, 1, _, rfl, rfl, .inl (.inl ht), atI_nat (j := 1) rfl, _, rfl, a, _, 0, _, rfl, rfl, .inl (.inl ht), atI_nat (j := 0) rfl, _, rfl, n, 1, rfl, rfl, S, u2, d2, i, n - 1, rfl, k2, ?_⟩
            rw [e3, Bool.true_and] at q
            exact q
          | _ => exact absurd e3 Bool.false_ne_true
        · refine ite2 (fun z => absurd z e3) fun _ => ?_
          rw [Bool.eq_false_iff.mpr e3, Bool.false_and] at q
          exact q
      | _ => exact absurd e Bool.false_ne_true
    · refine ite2 (fun z => absurd z e) fun _ => ?_
      have ef : fitD n D = false := by
        cases D with
        | tuple ds =>
          match ds, e with
          | [d1, d2], e => exact absurd rfl e
          | [], _ => rfl
          | [_], _ => rfl
          | _ :: _ :: _ :: r, _ => rfl
        | _ => rfl
      rw [ef] at q
      exact q
theorem ok_chkX {C CE : Addr} (T : Txt K mg) (nb : NoBi K C) (gC : ∃ u, mg "Edition" = some u ∧ RelV (.ref C) u) (x_NoEdition : CxE P w K mg base "NoEdition" CE) (D : Df K mg "check_edition" s_check_edition ["thing"]) : ClX P w K mg base 5 "check_edition" ["thing"] (sp_chkX CE) := by
  refine okX_of D sc_check_edition (fun vs H Q E h => ?_) (fun f cdv A outer s H vs Q E hr h => ?_)
  · obtain ⟨S, x, D, rfl, _⟩ := h
    rfl
  · obtain ⟨S, x, D, rfl, hx, q⟩ := h
    refine ⟨_, (pss_one (ps_if (pt_not (pt_val (pe_callB call_isb (by rfl) T.b_isinstance (by decide +kernel) (pa_cons (pv 0) (pa_cons (C8.pe_gc (by rfl) gC) pa_nil))))) (pss_one (ps_raiseF rfl (takes_of rfl rfl rfl rfl) x_NoEdition hr (by decide) (by rfl) (pv 0))) pss_nil)), ?_⟩
    refine ⟨x, rfl, .inl ⟨x, .ref C, _, _, false, rfl, .own C, .base hx.ty, nb _ (tyD_mem hx), _, rfl, ite2 (fun _ => ?_) fun z => absurd (show (!false) = true from rfl) z⟩⟩
    exact ⟨x, rfl, fun dd H' S1 _ e => q dd H' S1 e⟩
theorem ok_kpX {CN : Addr} (T : Txt K mg) (c_is_row : Cl P w K mg base 2 "is_row" ["thing", "fewest", "most"] sp_rowDt) (c_is_stretch : Cl P w K mg base 3 "is_stretch" ["thing", "size"] sp_fit) (x_NoPlaces : CxE P w K mg base "NoPlaces" CN) (D : Df K mg "kept_pairs" s_kept_pairs ["pairs", "size"]) : ClX P w K mg base 5 "kept_pairs" ["pairs", "size"] (sp_kpX CN) := by
  refine okX_of D sc_kept_pairs (fun vs H Q E h => ?_) (fun f cdv A outer s H vs Q E hr h => ?_)
  · obtain ⟨S, v, D, n, y, rfl, _⟩ := h
    rfl
  · obtain ⟨S, v, D, n, y, rfl, hv, bad, q⟩ := h
    refine ⟨_, (pss_cons (ps_if (pt_cmpR op_isN (pv 0) pe_non (nomark _)) (pss_one (ps_ret (pe_lst pa_nil))) pss_nil)
      (pss_cons (ps_if (pt_not (pt_val (pe_cl c_is_row hr (by decide) (by rfl) (pa_cons (pv 0) (pa_cons pe_int (pa_cons (C8.pe_gc (by rfl) T.g_MOST_PAIRS_places) pa_nil)))))) (pss_one (ps_raiseF rfl (takes_of rfl rfl rfl rfl) x_NoPlaces hr (by decide) (by rfl) (pv 0))) pss_nil)
      (pss_cons (ps_for PassesOwn.leaving rfl (pi_row (pv 0)) (pg_name (i := 2) sc_kept_pairs.nd rfl (.inl rfl))
        (pss_one (ps_if (pt_not (pt_val (pe_cl c_is_stretch hr (by decide) (by rfl) (pa_cons (pv 2) (pa_cons (pv 1) pa_nil))))) (pss_one (ps_raiseF rfl (takes_of rfl rfl rfl rfl) x_NoPlaces hr (by decide) (by rfl) (pv 2))) pss_nil)))
      (pss_one (ps_ret (pe_callTy call_list_of (by rfl) T.b_list (by decide +kernel) (pa_cons (pv 0) pa_nil))))))), ?_⟩
    have nn : v ≠ .non := fun e => by
      subst e
      cases hv
      rcases bad with ⟨z, _⟩ | ⟨a, xs, ds, i, d, z, _⟩
      · exact z rfl
      · cases z
    refine ⟨_, rfl, rfl, _, rfl, ite2 (fun z => absurd (of_decide_eq_true z) nn) (fun _ => ?_)⟩
    refine ⟨v, rfl, S, v, D, 0, 400, rfl, hv, fun H1 S1 => ?_⟩
    rcases bad with ⟨_, nr, rfl⟩ | ⟨a, xs, ds, i, d, rfl, ra, yr, eD, xi, di, nf, before⟩
    · rw [nr]
      refine ⟨_, rfl, ite2 (fun _ => ?_) fun z => absurd (show (!false) = true from rfl) z⟩
      exact ⟨y, rfl, fun dd H' S2 _ e => q dd H' (S1.trans S2) e⟩
    · rw [yr]
      refine ⟨_, rfl, ite2 (fun z => absurd z (by decide)) fun _ => ?_⟩
      obtain ⟨bb, hq⟩ := ra.sq (K := K)
      have lx : i < xs.length := (List.getElem?_eq_some_iff.mp xi).1
      have hk : AtAll S H xs ds := by
        rcases eD with rfl | rfl
        · cases hv with
          | lst n e k =>
          rcases ra with z | z
          · cases e.symm.trans z
            exact k
          · cases e.symm.trans z
        · cases hv with
          | tup n e k =>
          rcases ra with z | z
          · cases e.symm.trans z
          · cases e.symm.trans z
            exact k
      refine ⟨.ref a, rfl, a, bb, xs, rfl, Sq.same hq S1, for_it walk_row (fun j σ H' => ∃ (t2 : Option V), σ = [some (.ref a), some (.int n), t2] ∧ Same H H' ∧ j ≤ i) ⟨_, rfl, S1, Nat.zero_le _⟩ (fun j σ H' _ ⟨_, _, z, _⟩ => Sq.same hq z) ?_ ?_⟩
      · rintro j x σ H2 H2' hj ⟨t2, rfl, S2, le⟩ ⟨rfl, hxj⟩
        obtain ⟨dj, edj, at1⟩ := (show AtAll S H xs (ds.map id) by rw [List.map_id]; exact hk).at_ hxj
        refine ⟨x, rfl, _, rfl, S, x, dj, n, rfl, at1.same S2, ?_⟩
        by_cases e : j = i
        · subst e
          rw [xi] at hxj
          cases hxj
          rw [di] at edj
          cases edj
          rw [nf]
          refine ⟨_, rfl, ite2 (fun _ => ?_) fun z => absurd (show (!false) = true from rfl) z⟩
          exact ⟨y, rfl, fun dd H' S3 _ e => q dd H' (S2.trans S3) e⟩
        · rw [before j dj (by omega) edj]
          exact ⟨_, rfl, ite2 (fun z => absurd z (by decide)) fun _ => ⟨_, rfl, S2, by omega⟩⟩
      · rintro σ H2 ⟨t2, rfl, S2, le⟩
        omega
end
end My
set_option Elab.async false
set_option linter.all false
set_option maxRecDepth 100000
set_option maxHeartbeats 4000000
namespace My
open PySem PySem.Spec PyProof.Rows L2
/-! X6: Places that refuse. -/
theorem FnOk.lift {P : Program} {w : World} {K : PySem.W.Frag} {mg : Str → Option Value} {base : Heap} {CX : CXT} {k j : Nat} {f : Addr} {fd : FuncData} {ps : List Str} {sp : Sp} (F : FnOk P w K mg base CX k f fd ps sp) (h : k ≤ j) : FnOk P w K mg base CX j f fd ps sp :=
  ⟨F.len, fun A outer s H args us vs Q E hr => F.run A outer s H args us vs Q E (hr.mono h)⟩
theorem funD_okX {P : Program} {w : World} {K : PySem.W.Frag} {mg : Str → Option Value} {base : Heap} {x qual : Str} {st : Stmt} {dvs : List V} {kws : List (Str × V)} {f : Addr} {fd : FuncData} {N ps : List Str} {k : Nat} {sp : Sp} (F : FunD K x qual (defArgs st) (defBody st) (defScope st) dvs kws f fd) (S : FnScope N ps (defScope st)) (len : ∀ vs H Q E, sp vs H Q E → vs.length = ps.length)
    (hbody : ∀ (cdv : Value) (A : Around) (outer : List Env) (s : Shared) (H : Hp) (vs : List V) (Q : VK) (E : XK), Room k (A.deeper (envOfC qual (defScope st) s.heap.objs.size f cdv)) → sp vs H Q E →
      ∃ t, PSs (cxOf (L2.CX P w) P w K mg base N qual (defScope st) f cdv A outer s H E) (defBody st) t ∧ t { nx := fun _ H' => Q .non H', rt := Q } (start N vs) H) : FnOk P w K mg base (L2.CX P w) (k + 1) f fd ps sp := by
  obtain ⟨⟨oc, od, dV, kV, dc, pm, an, cd, ct, osl, rfl, lk, hcd, _⟩, _⟩ := F
  exact fn_of lk hcd S len fun A outer s H vs Q E hr hsp => hbody cd A outer s H vs Q E hr hsp
/-- both answers -/
def sp_chkB (C CE : Addr) : Sp := fun vs H Q E => sp_chkEd C vs H Q E ∨ sp_chkX CE vs H Q E
theorem KpBad.bt {H H' : Hp} {n : Int} {v y : V} {D : PyData} (h : KpBad H n v D y) (z : ∀ (a : Addr) (xs : List V), Rw H a xs → Rw H' a xs) : KpBad H' n v D y := by
  rcases h with h | ⟨a, xs, ds, i, d, e, r, h⟩
  · exact .inl h
  · exact .inr ⟨a, xs, ds, i, d, e, z _ _ r, h⟩
def sp_initX (CP C CE CN : Addr) : Sp := fun vs H Q E => (∃ (S : Av) (x : Addr) (v lv : V) (D : PyData), vs = [.ref x, v, lv] ∧ At S H v D ∧ ∀ dd H', Same H H' → H' dd = some (.xd [("found", v)]) → E (.ref CE) (some dd) H') ∨
  ∃ (S : Av) (x dx e : Addr) (lv y : V) (B : Bks) (L : List Int) (D : PyData), vs = [.ref x, .ref e, lv] ∧ H x = some (.ins CP dx []) ∧ EdAt (Plus S x) H C e B L ∧ At (Plus S x) H lv D ∧ KpBad H (plOf B).length lv D y ∧ ∀ dd H', Bt x H H' → H' dd = some (.xd [("found", y)]) → E (.ref CN) (some dd) H'
section
variable {P : Program} {w : World} {K : PySem.W.Frag} {mg : Str → Option Value} {base : Heap}
theorem ok_chkB {C CE : Addr} (T : Txt K mg) (O : OwnK K C) (kk : PySem.W.kitOne K (.ref C) (.ref C) = some true) (nb : NoBi K C) (gC : ∃ u, mg "Edition" = some u ∧ RelV (.ref C) u) (x_NoEdition : CxE P w K mg base "NoEdition" CE) (D : Df K mg "check_edition" s_check_edition ["thing"]) : ClX P w K mg base 5 "check_edition" ["thing"] (sp_chkB C CE) := by
  refine okX_of D sc_check_edition (fun vs H Q E h => ?_) (fun f cdv A outer s H vs Q E hr h => ?_)
  · rcases h with ⟨_, _, _, _, rfl, _⟩ | ⟨_, _, _, rfl, _⟩ <;> rfl
  · refine ⟨_, (pss_one (ps_if (pt_not (pt_val (pe_callB call_isb (by rfl) T.b_isinstance (by decide +kernel) (pa_cons (pv 0) (pa_cons (C8.pe_gc (by rfl) gC) pa_nil))))) (pss_one (ps_raiseF rfl (takes_of rfl rfl rfl rfl) x_NoEdition hr (by decide) (by rfl) (pv 0))) pss_nil)), ?_⟩
    rcases h with ⟨S, e, B, L, rfl, h1, q⟩ | ⟨S, x, D, rfl, hx, q⟩
    · obtain ⟨w1, hw1⟩ := id h1
      exact ⟨.ref e, rfl, .inl ⟨.ref e, .ref C, _, _, true, rfl, .own C, .base (.ins hw1.at_ O.cl O.ha O.hn O.htk O.hm), kk, _, rfl, ite2 (fun z => absurd z (by decide)) fun _ => q⟩⟩
    · refine ⟨x, rfl, .inl ⟨x, .ref C, _, _, false, rfl, .own C, .base hx.ty, nb _ (tyD_mem hx), _, rfl, ite2 (fun _ => ?_) fun z => absurd (show (!false) = true from rfl) z⟩⟩
      exact ⟨x, rfl, fun dd H' S1 _ e => q dd H' S1 e⟩
theorem ok_initX {CP C CE CN f : Addr} {fd : FuncData} (T : Txt K mg) (PC : PlC K CP) (EC : EdC K C) (cx_check_edition : ClX P w K mg base 5 "check_edition" ["thing"] (sp_chkB C CE)) (cx_kept_pairs : ClX P w K mg base 5 "kept_pairs" ["pairs", "size"] (sp_kpX CN)) (c_numbers_in : Cl P w K mg base 2 "numbers_in" ["stretches"] (sp_numsIn K)) (c_runs_of : Cl P w K mg base 2 "runs_of" ["numbers"] (sp_runsOf K)) (m_size : C8.Met P w K mg base 2 C "size" (sp_size C) []) {dvs : List V} {kws : List (Str × V)} (F : FunD K "__init__" "Places.__init__" (defArgs s_Places___init__) (defBody s_Places___init__) (defScope s_Places___init__) dvs kws f fd) : FnOk P w K mg base (L2.CX P w) 6 f fd ["self", "edition", "pairs"] (sp_initX CP C CE CN) := by
  refine funD_okX F sc_Places___init__ (fun vs H Q E h => ?_) (fun cdv A outer s H vs Q E hr h => ?_)
  · rcases h with ⟨_, _, _, _, _, rfl, _⟩ | ⟨_, _, _, _, _, _, _, _, _, rfl, _⟩ <;> rfl
  · refine ⟨_, (pss_cons (ps_expr (pe_clX cx_check_edition hr (by decide) (by rfl) (takes_of rfl rfl rfl rfl) (pa_cons (pv 1) pa_nil)))
      (pss_cons (ps_fld (pv 0) (pv 1) rfl)
      (pss_cons (ps_fld (pv 0) (pe_cl c_numbers_in hr (by decide) (by rfl) (pa_cons (pe_clX cx_kept_pairs hr (by decide) (by rfl) (takes_of rfl rfl rfl rfl) (pa_cons (pv 2) (pa_cons (C8.pe_mt0 m_size hr (by decide) (pv 1)) pa_nil))) pa_nil)) rfl)
      (pss_cons (ps_fld (pv 0) (pe_cl c_runs_of hr (by decide) (by rfl) (pa_cons (pe_fld (pv 0) rfl) pa_nil)) rfl)
      (pss_one (ps_fld (pv 0) (pe_dc (own := [("number", 3)]) rfl sc_Places___init__.nd (pi_list (pe_fld (pv 0) rfl)) (blkOk_by (own := [("number", 3)]) (N := N_Places___init__) (sc := defScope s_Places___init__) (by decide +kernel)) (fun _ _ _ _ _ => (pg_name (i := 3) sc_Places___init__.nd rfl (.inl rfl))) (fun _ _ _ _ _ => pts_nil) (fun _ _ _ _ _ => (pv 3)) (fun _ _ _ _ _ => pe_bl)) rfl)))))), ?_⟩
    rcases h with ⟨S, x, v, lv, D, rfl, hv, q⟩ | ⟨S, x, dx, e, lv, y, B, L, D, rfl, hx, hE, hl, bad, q⟩
    · exact ⟨v, rfl, .inr ⟨S, v, D, rfl, hv, q⟩⟩
    · refine ⟨.ref e, rfl, .inl ⟨_, e, B, L, rfl, hE, ?_⟩⟩
      refine ⟨.ref e, rfl, .ref x, rfl, x, CP, dx, [], rfl, hx, PC.cl, PC.n1, by decide, ?_⟩
      have Ua := BtS.upd (S := Plus S x) (H := H) (p := x) (o := .ins CP dx (putF "_edition" (.ref e) [])) (.inr rfl)
      have Ea := hE.bt Ua
      have La := At.bt Ua _ _ hl
      have ba : Bt x H (upd H x (.ins CP dx (putF "_edition" (.ref e) []))) := Bt.upd
      have Ka := bad.bt (H' := upd H x (.ins CP dx (putF "_edition" (.ref e) []))) fun a xs r => by
        rcases r with r | r
        · exact .inl (ba _ _ (fun z => by rw [z, hx] at r; cases r) r)
        · exact .inr (ba _ _ (fun z => by rw [z, hx] at r; cases r) r)
      generalize upd H x (.ins CP dx (putF "_edition" (.ref e) [])) = Ha at Ea La ba Ka ⊢
      obtain ⟨we, hwe⟩ := id Ea
      refine ⟨lv, rfl, .ref e, rfl, e, _, _, rfl, hwe.at_, rfl, Plus S x, e, B, L, rfl, Ea, _, lv, D, _, y, rfl, La, Ka, fun dd H' S1 e => q dd H' (ba.trans (Bt.same S1)) e⟩
end
end My
set_option Elab.async false
set_option linter.all false
set_option maxRecDepth 100000
set_option maxHeartbeats 4000000
namespace My
open PySem PySem.Spec PyProof.Rows L2
/-! Y2: a leading that refuses. -/
def sp_initLX (CL C CE : Addr) : Sp := fun vs H Q E => ∃ (S : Av) (x : Addr) (v1 v2 y : V), vs = [.ref x, v1, v2] ∧ ((y = v1 ∧ ∃ D, At S H v1 D) ∨ (y = v2 ∧ ∃ (e : Addr) (B : Bks) (L : List Int) (D : PyData), v1 = .ref e ∧ EdAt S H C e B L ∧ At S H v2 D)) ∧
  ∀ dd H', Same H H' → H' dd = some (.xd [("found", y)]) → E (.ref CE) (some dd) H'
def sp_initLB (CL C CE : Addr) : Sp := fun vs H Q E => sp_initL CL C vs H Q E ∨ sp_initLX CL C CE vs H Q E
section
variable {P : Program} {w : World} {K : PySem.W.Frag} {mg : Str → Option Value} {base : Heap}
theorem ok_initLX {CL C CE f : Addr} {fd : FuncData} (T : Txt K mg) (LC : LdC K CL) (cx_check_edition : ClX P w K mg base 5 "check_edition" ["thing"] (sp_chkB C CE)) (m_lines : C8.Met P w K mg base 2 C "lines" (sp_lines C) []) (c_parts_with_lines : Cl P w K mg base 4 "parts_with_lines" ["edition", "lines"] (sp_pwl C)) (c_rows_of : Cl P w K mg base 3 "rows_of" ["goals"] (sp_rowsOf K)) (F : Fun K "__init__" "Leading.__init__" s_Leading___init__ f fd) : FnOk P w K mg base (L2.CX P w) 6 f fd ["self", "one", "other"] (sp_initLX CL C CE) := by
  refine F.okX sc_Leading___init__ (fun vs H Q E h => ?_) (fun cdv A outer s H vs Q E hr h => ?_)
  · obtain ⟨_, _, _, _, _, rfl, _⟩ := h
    rfl
  · obtain ⟨S, x, v1, v2, y, rfl, h, q⟩ := h
    refine ⟨_, (pss_cons (ps_expr (pe_clX cx_check_edition hr (by decide) (by rfl) (takes_of rfl rfl rfl rfl) (pa_cons (pv 1) pa_nil)))
      (pss_cons (ps_expr (pe_clX cx_check_edition hr (by decide) (by rfl) (takes_of rfl rfl rfl rfl) (pa_cons (pv 2) pa_nil)))
      (pss_cons (ps_fld (pv 0) (pv 1) rfl)
      (pss_cons (ps_fld (pv 0) (pv 2) rfl)
      (pss_cons (ps_fld (pv 0) (pe_cl c_parts_with_lines hr (by decide) (by rfl) (pa_cons (pv 2) (pa_cons (C8.pe_mt0 m_lines hr (by decide) (pv 1)) pa_nil))) rfl)
      (pss_cons (ps_fld (pv 0) (pe_cl c_parts_with_lines hr (by decide) (by rfl) (pa_cons (pv 1) (pa_cons (C8.pe_mt0 m_lines hr (by decide) (pv 2)) pa_nil))) rfl)
      (pss_one (ps_fld (pv 0) (pe_cl c_rows_of hr (by decide) (by rfl) (pa_cons (pe_fld (pv 0) rfl) pa_nil)) rfl)))))))), ?_⟩
    rcases h with ⟨rfl, D, a⟩ | ⟨rfl, e, B, L, D, rfl, ed, a⟩
    · exact ⟨_, rfl, .inr ⟨S, _, D, rfl, a, q⟩⟩
    · exact ⟨_, rfl, .inl ⟨S, e, B, L, rfl, ed, _, rfl, .inr ⟨S, _, D, rfl, a, q⟩⟩⟩
end
end My
set_option Elab.async false
set_option linter.all false
set_option maxRecDepth 100000
set_option maxHeartbeats 4000000
namespace My
open PySem PySem.Spec PyProof.Rows L2
/-! Y1: any two data, told alike or not. -/
mutual
/-- the same, type by type -/
def alB : PyData → PyData → Bool
  | f, .none => match f with
    | .none => true
    | _ => false
  | f, .bool b => match f with
    | .bool c => decide (c = b)
    | _ => false
  | f, .int b => match f with
    | .int c => decide (c = b)
    | _ => false
  | f, .str b => match f with
    | .str c => decide (c = b)
    | _ => false
  | f, .list b => match f with
    | .list c => decide (c.length = b.length) && alBs c b
    | _ => false
  | f, .tuple b => match f with
    | .tuple c => decide (c.length = b.length) && alBs c b
    | _ => false
  | _, .dict _ => false
def alBs : List PyData → List PyData → Bool
  | _, [] => true
  | [], _ :: _ => false
  | c :: cs, b :: bs => alB c b && alBs cs bs
end
/-- one by one -/
def alRow (cs bs : List PyData) (n : Nat) : List Bool := (List.range n).map fun i => alB (cs.getD i .none) (bs.getD i .none)
theorem alRow_all : ∀ (cs bs : List PyData), cs.length = bs.length → (alRow cs bs bs.length).all id = alBs cs bs
  | [], [], _ => rfl
  | c :: cs, b :: bs, h => by
    have ih := alRow_all cs bs (Nat.succ.inj h)
    unfold alRow at ih ⊢
    rw [List.length_cons, List.range_succ_eq_map, List.map_cons, List.map_map, List.all_cons]
    show (alB c b && _) = (alB c b && alBs cs bs)
    rw [← ih]
    rfl
  | [], _ :: _, h => absurd h (by simp)
  | _ :: _, [], h => absurd h (by simp)
def sp_alikeG (n : Nat) : Sp := fun vs H Q _ => ∃ (S1 S2 : Av) (f d : V) (F D : PyData), vs = [f, d] ∧ At S1 H f F ∧ At S2 H d D ∧ Dpt n D ∧ ∀ H', Same H H' → Q (.bl (alB F D)) H'
section
variable {P : Program} {w : World} {K : PySem.W.Frag} {mg : Str → Option Value} {base : Heap}
theorem ok_alikeG0 (T : Txt K mg) (D : Df K mg "_law_alike" s__law_alike ["found", "due"]) : Cl P w K mg base 1 "_law_alike" ["found", "due"] (sp_alikeG 0) := by
  refine ok_of D sc__law_alike (fun vs H Q E h => ?_) (fun f cdv A outer s H vs Q E hr h => ?_)
  · obtain ⟨_, _, _, _, _, _, _, _, _, h, _⟩ := h
    exact h.elim
  · obtain ⟨_, _, _, _, _, _, _, _, _, h, _⟩ := h
    exact h.elim
theorem tyF {K : PySem.W.Frag} {S : Av} {H : Hp} : ∀ {v : V} {D : PyData}, At S H v D → TyOf K H v (.type (match D with | .none => "NoneType" | .bool _ => "bool" | .int _ => "int" | .str _ => "str" | .list _ => "list" | .tuple _ => "tuple" | .dict _ => "dict"))
  | _, _, .non => .non
  | _, _, .bl b => .bl b
  | _, _, .int i => .int i
  | _, _, .str x => .str x
  | _, _, .lst _ e _ => .lst e
  | _, _, .tup _ e _ => .tup e
theorem ok_alikeGS {k n : Nat} (T : Txt K mg) (c__law_alike : Cl P w K mg base (k + 1) "_law_alike" ["found", "due"] (sp_alikeG n)) (D : Df K mg "_law_alike" s__law_alike ["found", "due"]) : Cl P w K mg base (k + 2) "_law_alike" ["found", "due"] (sp_alikeG (n + 1)) := by
  refine ok_of D sc__law_alike (fun vs H Q E h => ?_) (fun f cdv A outer s H vs Q E hr h => ?_)
  · obtain ⟨_, _, _, _, _, _, rfl, _⟩ := h
    rfl
  · obtain ⟨S1, S2, fo, du, F, D, rfl, hf, hd, dp, q⟩ := h
    refine ⟨_, (pss_cons (ps_if (pt_cmpR op_isN (pv 1) pe_non (nomark _)) (pss_one (ps_ret (pe_cmpR op_isN (pv 0) pe_non (nomark _)))) pss_nil)
      (pss_cons (ps_if (pt_val (pe_callB call_isb (by rfl) T.b_isinstance (by decide +kernel) (pa_cons (pv 1) (pa_cons (pe_bltn (v := .ty "bool") (u := .type "bool") (by rfl) T.b_bool (by decide +kernel) rfl) pa_nil)))) (pss_one (ps_ret (pe_and (pe_callB call_isb (by rfl) T.b_isinstance (by decide +kernel) (pa_cons (pv 0) (pa_cons (pe_bltn (v := .ty "bool") (u := .type "bool") (by rfl) T.b_bool (by decide +kernel) rfl) pa_nil))) (pe_one (pe_cmpR op_eq (pv 0) (pv 1) (nomark _)))))) pss_nil)
      (pss_cons (ps_if (pt_val (pe_callB call_isb (by rfl) T.b_isinstance (by decide +kernel) (pa_cons (pv 1) (pa_cons (pe_bltn (v := .ty "int") (u := .type "int") (by rfl) T.b_int (by decide +kernel) rfl) pa_nil)))) (pss_one (ps_ret (pe_and (pe_callB call_isb (by rfl) T.b_isinstance (by decide +kernel) (pa_cons (pv 0) (pa_cons (pe_bltn (v := .ty "int") (u := .type "int") (by rfl) T.b_int (by decide +kernel) rfl) pa_nil))) (pe_and (pe_not (pe_callB call_isb (by rfl) T.b_isinstance (by decide +kernel) (pa_cons (pv 0) (pa_cons (pe_bltn (v := .ty "bool") (u := .type "bool") (by rfl) T.b_bool (by decide +kernel) rfl) pa_nil)))) (pe_one (pe_cmpR op_eq (pv 0) (pv 1) (nomark _))))))) pss_nil)
      (pss_cons (ps_if (pt_val (pe_callB call_isb (by rfl) T.b_isinstance (by decide +kernel) (pa_cons (pv 1) (pa_cons (pe_bltn (v := .ty "str") (u := .type "str") (by rfl) T.b_str (by decide +kernel) rfl) pa_nil)))) (pss_one (ps_ret (pe_and (pe_callB call_isb (by rfl) T.b_isinstance (by decide +kernel) (pa_cons (pv 0) (pa_cons (pe_bltn (v := .ty "str") (u := .type "str") (by rfl) T.b_str (by decide +kernel) rfl) pa_nil))) (pe_one (pe_cmpR op_eq (pv 0) (pv 1) (nomark _)))))) pss_nil)
      (C8.pss_cut (ps_if (pt_val (pe_callB call_isb (by rfl) T.b_isinstance (by decide +kernel) (pa_cons (pv 1) (pa_cons (pe_bltn (v := .ty "tuple") (u := .type "tuple") (by rfl) T.b_tuple (by decide +kernel) rfl) pa_nil)))) (pss_one (ps_if (pt_not (pt_val (pe_callB call_isb (by rfl) T.b_isinstance (by decide +kernel) (pa_cons (pv 0) (pa_cons (pe_bltn (v := .ty "tuple") (u := .type "tuple") (by rfl) T.b_tuple (by decide +kernel) rfl) pa_nil))))) (pss_one (ps_ret pe_bl)) pss_nil)) (pss_one (ps_if (pt_not (pt_val (pe_callB call_isb (by rfl) T.b_isinstance (by decide +kernel) (pa_cons (pv 0) (pa_cons (pe_bltn (v := .ty "list") (u := .type "list") (by rfl) T.b_list (by decide +kernel) rfl) pa_nil))))) (pss_one (ps_ret pe_bl)) pss_nil)))
      (pss_cons (ps_if (pt_cmpR op_ne (pe_callB call_len (by rfl) T.b_len (by decide +kernel) (pa_cons (pv 0) pa_nil)) (pe_callB call_len (by rfl) T.b_len (by decide +kernel) (pa_cons (pv 1) pa_nil)) (nomark _)) (pss_one (ps_ret pe_bl)) pss_nil)
      (pss_one (ps_ret (pe_callB (cr_all rfl) (by rfl) T.b_all (by decide +kernel) (pa_cons (pe_lc (own := [("k", 2)]) rfl sc__law_alike.nd (pi_range1 (by rfl) T.b_range (pa_cons (pe_callB call_len (by rfl) T.b_len (by decide +kernel) (pa_cons (pv 1) pa_nil)) pa_nil)) (blkOk_by (own := [("k", 2)]) (N := N__law_alike) (sc := defScope s__law_alike) (by decide +kernel)) (fun _ _ _ _ _ => (pg_name (i := 2) sc__law_alike.nd rfl (.inl rfl))) (fun _ _ _ _ _ => pts_nil) (fun _ _ _ _ _ => (pe_cl c__law_alike hr (Nat.le_refl _) (by rfl) (pa_cons (pe_ix (ix_seqK (K := K) rfl) (pv 0) (pv 2) (fun _ _ => rfl)) (pa_cons (pe_ix (ix_seqK (K := K) rfl) (pv 1) (pv 2) (fun _ _ => rfl)) pa_nil))))) pa_nil)))))))))), ?_⟩
    have no : ∀ {x : V}, x ≠ .non → ∀ {Q1 Q2 : Prop}, Q2 → (if decide (x = V.non) = true then Q1 else Q2) := fun h _ _ q => ite2 (fun z => absurd (of_decide_eq_true z) h) fun _ => q
    have q0 := q H (Same.refl H)
    rcases dp with (⟨b, rfl⟩ | rfl) | ⟨i, rfl⟩ | ⟨z, rfl⟩ | ⟨ds, l1, sub, e⟩
    · cases hd
      refine ⟨_, rfl, rfl, _, rfl, no (by intro z; cases z) ?_⟩
      refine ⟨_, rfl, isi_b (b := true) (.bl _) (by decide +kernel) ⟨_, rfl, ite2 (fun _ => ?_) fun z => absurd (show true = true from rfl) z⟩⟩
      cases F with
      | bool c =>
        cases hf
        refine ⟨_, rfl, isi_b (b := true) (.bl _) (by decide +kernel) ⟨_, rfl, ite2 (fun _ => ?_) fun z => absurd (show true = true from rfl) z⟩⟩
        refine ⟨_, rfl, _, rfl, rfl, ?_⟩
        have e : decide (V.bl c = V.bl b) = decide (c = b) := by by_cases h : c = b <;> simp [h]
        rw [e]
        exact q0
      | none => exact ⟨_, rfl, isi_b (b := false) (tyF hf) (show kitB "NoneType" "bool" = some false by decide +kernel) ⟨_, rfl, ite2 (fun z => absurd z (by decide)) fun _ => q0⟩⟩
      | int c => exact ⟨_, rfl, isi_b (b := false) (tyF hf) (show kitB "int" "bool" = some false by decide +kernel) ⟨_, rfl, ite2 (fun z => absurd z (by decide)) fun _ => q0⟩⟩
      | str c => exact ⟨_, rfl, isi_b (b := false) (tyF hf) (show kitB "str" "bool" = some false by decide +kernel) ⟨_, rfl, ite2 (fun z => absurd z (by decide)) fun _ => q0⟩⟩
      | list c => exact ⟨_, rfl, isi_b (b := false) (tyF hf) (show kitB "list" "bool" = some false by decide +kernel) ⟨_, rfl, ite2 (fun z => absurd z (by decide)) fun _ => q0⟩⟩
      | tuple c => exact ⟨_, rfl, isi_b (b := false) (tyF hf) (show kitB "tuple" "bool" = some false by decide +kernel) ⟨_, rfl, ite2 (fun z => absurd z (by decide)) fun _ => q0⟩⟩
      | dict c => cases hf
    · cases hd
      refine ⟨_, rfl, rfl, _, rfl, ite2 (fun _ => ?_) fun z => absurd (decide_eq_true rfl) z⟩
      refine ⟨_, rfl, rfl, ?_⟩
      have e : decide (fo = V.non) = alB F .none := by
        cases F with
        | none => cases hf; rfl
        | dict c => cases hf
        | bool c => cases hf; rfl
        | int c => cases hf; rfl
        | str c => cases hf; rfl
        | list c => cases hf; rfl
        | tuple c => cases hf; rfl
      rw [e]
      exact q0
    · cases hd
      refine ⟨_, rfl, rfl, _, rfl, no (by intro z; cases z) ?_⟩
      refine ⟨_, rfl, isi_b (b := false) (.int _) (by decide +kernel) ⟨_, rfl, ite2 (fun z => absurd z (by decide)) fun _ => ?_⟩⟩
      refine ⟨_, rfl, isi_b (b := true) (.int _) (by decide +kernel) ⟨_, rfl, ite2 (fun _ => ?_) fun z => absurd (show true = true from rfl) z⟩⟩
      cases F with
      | int c =>
        cases hf
        refine ⟨_, rfl, isi_b (b := true) (.int _) (by decide +kernel) ⟨_, rfl, ite2 (fun _ => ?_) fun z => absurd (show true = true from rfl) z⟩⟩
        refine ⟨_, rfl, isi_b (b := false) (.int _) (by decide +kernel) ⟨_, rfl, _, rfl, ite2 (fun _ => ?_) fun z => absurd (show (!false) = true from rfl) z⟩⟩
        refine ⟨_, rfl, _, rfl, rfl, ?_⟩
        have e : decide (V.int c = V.int i) = decide (c = i) := by by_cases h : c = i <;> simp [h]
        rw [e]
        exact q0
      | bool c =>
        refine ⟨_, rfl, isi_b (b := true) (tyF hf) (show kitB "bool" "int" = some true by decide +kernel) ⟨_, rfl, ite2 (fun _ => ?_) fun z => absurd (show true = true from rfl) z⟩⟩
        exact ⟨_, rfl, isi_b (b := true) (tyF hf) (show kitB "bool" "bool" = some true by decide +kernel) ⟨_, rfl, _, rfl, ite2 (fun z => absurd z (by decide)) fun _ => q0⟩⟩
      | none => exact ⟨_, rfl, isi_b (b := false) (tyF hf) (show kitB "NoneType" "int" = some false by decide +kernel) ⟨_, rfl, ite2 (fun z => absurd z (by decide)) fun _ => q0⟩⟩
      | str c => exact ⟨_, rfl, isi_b (b := false) (tyF hf) (show kitB "str" "int" = some false by decide +kernel) ⟨_, rfl, ite2 (fun z => absurd z (by decide)) fun _ => q0⟩⟩
      | list c => exact ⟨_, rfl, isi_b (b := false) (tyF hf) (show kitB "list" "int" = some false by decide +kernel) ⟨_, rfl, ite2 (fun z => absurd z (by decide)) fun _ => q0⟩⟩
      | tuple c => exact ⟨_, rfl, isi_b (b := false) (tyF hf) (show kitB "tuple" "int" = some false by decide +kernel) ⟨_, rfl, ite2 (fun z => absurd z (by decide)) fun _ => q0⟩⟩
      | dict c => cases hf
    · cases hd
      refine ⟨_, rfl, rfl, _, rfl, no (by intro z; cases z) ?_⟩
      refine ⟨_, rfl, isi_b (b := false) (.str _) (by decide +kernel) ⟨_, rfl, ite2 (fun z => absurd z (by decide)) fun _ => ?_⟩⟩
      refine ⟨_, rfl, isi_b (b := false) (.str _) (by decide +kernel) ⟨_, rfl, ite2 (fun z => absurd z (by decide)) fun _ => ?_⟩⟩
      refine ⟨_, rfl, isi_b (b := true) (.str _) (by decide +kernel) ⟨_, rfl, ite2 (fun _ => ?_) fun z => absurd (show true = true from rfl) z⟩⟩
      cases F with
      | str c =>
        cases hf
        refine ⟨_, rfl, isi_b (b := true) (.str _) (by decide +kernel) ⟨_, rfl, ite2 (fun _ => ?_) fun z => absurd (show true = true from rfl) z⟩⟩
        refine ⟨_, rfl, _, rfl, rfl, ?_⟩
        have e : decide (V.str c = V.str z) = decide (c = z) := by by_cases h : c = z <;> simp [h]
        rw [e]
        exact q0
      | none => exact ⟨_, rfl, isi_b (b := false) (tyF hf) (show kitB "NoneType" "str" = some false by decide +kernel) ⟨_, rfl, ite2 (fun z => absurd z (by decide)) fun _ => q0⟩⟩
      | bool c => exact ⟨_, rfl, isi_b (b := false) (tyF hf) (show kitB "bool" "str" = some false by decide +kernel) ⟨_, rfl, ite2 (fun z => absurd z (by decide)) fun _ => q0⟩⟩
      | int c => exact ⟨_, rfl, isi_b (b := false) (tyF hf) (show kitB "int" "str" = some false by decide +kernel) ⟨_, rfl, ite2 (fun z => absurd z (by decide)) fun _ => q0⟩⟩
      | list c => exact ⟨_, rfl, isi_b (b := false) (tyF hf) (show kitB "list" "str" = some false by decide +kernel) ⟨_, rfl, ite2 (fun z => absurd z (by decide)) fun _ => q0⟩⟩
      | tuple c => exact ⟨_, rfl, isi_b (b := false) (tyF hf) (show kitB "tuple" "str" = some false by decide +kernel) ⟨_, rfl, ite2 (fun z => absurd z (by decide)) fun _ => q0⟩⟩
      | dict c => cases hf
    · obtain ⟨a2, ys, rfl, k2, kd⟩ : ∃ (a2 : Addr) (ys : List V), du = .ref a2 ∧ AtAll S2 H ys ds ∧ ((D = .list ds ∧ H a2 = some (.lst ys)) ∨ (D = .tuple ds ∧ H a2 = some (.tup ys))) := by
        rcases e with rfl | rfl
        · cases hd with
          | lst n2 e2 k2 => exact ⟨_, _, rfl, k2, .inl ⟨rfl, e2⟩⟩
        · cases hd with
          | tup n2 e2 k2 => exact ⟨_, _, rfl, k2, .inr ⟨rfl, e2⟩⟩
      clear hd e
      have nB : ∀ {Q : VK}, Q (.bl false) H → RB K [.ref a2, .ty "bool"] H Q := fun q => kd.elim (fun e => isi_b (b := false) (.lst e.2) (by decide +kernel) q) fun e => isi_b (b := false) (.tup e.2) (by decide +kernel) q
      have nI : ∀ {Q : VK}, Q (.bl false) H → RB K [.ref a2, .ty "int"] H Q := fun q => kd.elim (fun e => isi_b (b := false) (.lst e.2) (by decide +kernel) q) fun e => isi_b (b := false) (.tup e.2) (by decide +kernel) q
      have nS : ∀ {Q : VK}, Q (.bl false) H → RB K [.ref a2, .ty "str"] H Q := fun q => kd.elim (fun e => isi_b (b := false) (.lst e.2) (by decide +kernel) q) fun e => isi_b (b := false) (.tup e.2) (by decide +kernel) q
      refine ⟨_, rfl, rfl, _, rfl, no (by intro z; cases z) ?_⟩
      refine ⟨_, rfl, nB ⟨_, rfl, ite2 (fun z => absurd z (by decide)) fun _ => ?_⟩⟩
      refine ⟨_, rfl, nI ⟨_, rfl, ite2 (fun z => absurd z (by decide)) fun _ => ?_⟩⟩
      refine ⟨_, rfl, nS ⟨_, rfl, ite2 (fun z => absurd z (by decide)) fun _ => ?_⟩⟩
      refine ⟨fun σ H' => σ = L2.start N__law_alike [fo, .ref a2] ∧ H' = H ∧ ∃ (a1 : Addr) (xs : List V) (cs : List PyData), fo = .ref a1 ∧ AtAll S1 H xs cs ∧ ((H a1 = some (.lst xs) ∧ H a2 = some (.lst ys)) ∨ (H a1 = some (.tup xs) ∧ H a2 = some (.tup ys))) ∧ alB F D = (decide (cs.length = ds.length) && alBs cs ds), ?_, ?_⟩
      · rcases kd with ⟨rfl, e2⟩ | ⟨rfl, e2⟩
        · refine ⟨_, rfl, isi_b (b := false) (.lst e2) (by decide +kernel) ⟨_, rfl, ite2 (fun z => absurd z (by decide)) fun _ => ?_⟩⟩
          cases F with
          | list c =>
            cases hf with
            | lst n1 e1 k1 => exact ⟨_, rfl, isi_b (b := true) (.lst e1) (by decide +kernel) ⟨_, rfl, ite2 (fun z => absurd z (by decide)) fun _ => ⟨rfl, rfl, _, _, c, rfl, k1, .inl ⟨e1, e2⟩, rfl⟩⟩⟩
          | none => exact ⟨_, rfl, isi_b (b := false) (tyF hf) (show kitB "NoneType" "list" = some false by decide +kernel) ⟨_, rfl, ite2 (fun _ => q0) fun z => absurd (show (!false) = true from rfl) z⟩⟩
          | bool c => exact ⟨_, rfl, isi_b (b := false) (tyF hf) (show kitB "bool" "list" = some false by decide +kernel) ⟨_, rfl, ite2 (fun _ => q0) fun z => absurd (show (!false) = true from rfl) z⟩⟩
          | int c => exact ⟨_, rfl, isi_b (b := false) (tyF hf) (show kitB "int" "list" = some false by decide +kernel) ⟨_, rfl, ite2 (fun _ => q0) fun z => absurd (show (!false) = true from rfl) z⟩⟩
          | str c => exact ⟨_, rfl, isi_b (b := false) (tyF hf) (show kitB "str" "list" = some false by decide +kernel) ⟨_, rfl, ite2 (fun _ => q0) fun z => absurd (show (!false) = true from rfl) z⟩⟩
          | tuple c => exact ⟨_, rfl, isi_b (b := false) (tyF hf) (show kitB "tuple" "list" = some false by decide +kernel) ⟨_, rfl, ite2 (fun _ => q0) fun z => absurd (show (!false) = true from rfl) z⟩⟩
          | dict c => cases hf
        · refine ⟨_, rfl, isi_b (b := true) (.tup e2) (by decide +kernel) ⟨_, rfl, ite2 (fun _ => ?_) fun z => absurd (show true = true from rfl) z⟩⟩
          cases F with
          | tuple c =>
            cases hf with
            | tup n1 e1 k1 => exact ⟨_, rfl, isi_b (b := true) (.tup e1) (by decide +kernel) ⟨_, rfl, ite2 (fun z => absurd z (by decide)) fun _ => ⟨rfl, rfl, _, _, c, rfl, k1, .inr ⟨e1, e2⟩, rfl⟩⟩⟩
          | none => exact ⟨_, rfl, isi_b (b := false) (tyF hf) (show kitB "NoneType" "tuple" = some false by decide +kernel) ⟨_, rfl, ite2 (fun _ => q0) fun z => absurd (show (!false) = true from rfl) z⟩⟩
          | bool c => exact ⟨_, rfl, isi_b (b := false) (tyF hf) (show kitB "bool" "tuple" = some false by decide +kernel) ⟨_, rfl, ite2 (fun _ => q0) fun z => absurd (show (!false) = true from rfl) z⟩⟩
          | int c => exact ⟨_, rfl, isi_b (b := false) (tyF hf) (show kitB "int" "tuple" = some false by decide +kernel) ⟨_, rfl, ite2 (fun _ => q0) fun z => absurd (show (!false) = true from rfl) z⟩⟩
          | str c => exact ⟨_, rfl, isi_b (b := false) (tyF hf) (show kitB "str" "tuple" = some false by decide +kernel) ⟨_, rfl, ite2 (fun _ => q0) fun z => absurd (show (!false) = true from rfl) z⟩⟩
          | list c => exact ⟨_, rfl, isi_b (b := false) (tyF hf) (show kitB "list" "tuple" = some false by decide +kernel) ⟨_, rfl, ite2 (fun _ => q0) fun z => absurd (show (!false) = true from rfl) z⟩⟩
          | dict c => cases hf
      · rintro σ H' ⟨rfl, rfl, a1, xs, cs, rfl, k1, kind, eB⟩
        rw [eB] at q q0
        clear nB nI nS kd eB
        have lx : xs.length = cs.length := k1.len
        have ly : ys.length = ds.length := k2.len
        have k1 : AtAll S1 H' xs (cs.map id) := by rw [List.map_id]; exact k1
        have k2 : AtAll S2 H' ys (ds.map id) := by rw [List.map_id]; exact k2
        have len1 : LenV K (.ref a1) H' xs.length := kind.elim (fun e => .inl ⟨xs, .inl (.inl e.1), rfl⟩) fun e => .inr ⟨xs, .inl (.inl e.1), rfl⟩
        have len2 : LenV K (.ref a2) H' ys.length := kind.elim (fun e => .inl ⟨ys, .inl (.inl e.2), rfl⟩) fun e => .inr ⟨ys, .inl (.inl e.2), rfl⟩
        have ix1 : ∀ {Q : VK} {H2 : Hp} {i : Nat} {x : V}, Same H' H2 → xs[i]? = some x → Q x H2 → rIx K (.ref a1) (.int (0 + (i : Int))) H2 Q := fun z h q => kind.elim (fun e => .inl ⟨a1, xs, _, _, rfl, rfl, .inl (.inl (z _ _ e.1)), at_of (Int.zero_add _) h, q⟩) fun e => .inr (.inl ⟨a1, xs, _, _, rfl, rfl, .inl (.inl (z _ _ e.1)), at_of (Int.zero_add _) h, q⟩)
        have ix2 : ∀ {Q : VK} {H2 : Hp} {i : Nat} {x : V}, Same H' H2 → ys[i]? = some x → Q x H2 → rIx K (.ref a2) (.int (0 + (i : Int))) H2 Q := fun z h q => kind.elim (fun e => .inl ⟨a2, ys, _, _, rfl, rfl, .inl (.inl (z _ _ e.2)), at_of (Int.zero_add _) h, q⟩) fun e => .inr (.inl ⟨a2, ys, _, _, rfl, rfl, .inl (.inl (z _ _ e.2)), at_of (Int.zero_add _) h, q⟩)
        refine ⟨_, rfl, _, xs.length, rfl, len1, _, rfl, _, ys.length, rfl, len2, rfl, _, rfl, ite2 (fun z => ?_) fun z => ?_⟩
        · have ne : ¬ cs.length = ds.length := fun e => by
            rw [lx, ly, e, decide_eq_true rfl] at z
            exact absurd z (by decide)
          rw [decide_eq_false ne, Bool.false_and] at q0
          exact q0
        have el : cs.length = ds.length := by
          refine Classical.byContradiction fun ne => z ?_
          rw [lx, ly]
          have : decide (V.int ((cs.length : Nat) : Int) = V.int ((ds.length : Nat) : Int)) = false := decide_eq_false fun h => ne (by have := V.int.inj h; omega)
          rw [this]
          rfl
        rw [decide_eq_true el, Bool.true_and] at q
        refine ⟨_, rfl, _, ys.length, rfl, len2, _, rfl, by omega, by omega, fun Dl hDl => ?_⟩
        rw [Int.toNat_natCast]
        refine lc_range (lo := 0) (n := ys.length) (fun i H2 => Same H' H2 ∧ H2 Dl = some (.lst ((alRow cs ds i).map V.bl))) ⟨same_new hDl, upd_same⟩ ?_ ?_
        · rintro i H2 hi ⟨S2', hD⟩
          have hxi : xs[i]? = some xs[i] := List.getElem?_eq_getElem (by omega)
          have hyi : ys[i]? = some ys[i] := List.getElem?_eq_getElem hi
          obtain ⟨d1, hd1, at1⟩ := k1.at_ hxi
          obtain ⟨d2, hd2, at2⟩ := k2.at_ hyi
          refine ⟨rfl, _, rfl, _, rfl, ix1 S2' hxi ⟨_, rfl, _, rfl, ix2 S2' hyi ⟨_, _, _, _, d1, d2, rfl, At.same at1 S2', At.same at2 S2', sub d2 (List.mem_of_getElem? hd2), fun H3 S3 => ?_⟩⟩⟩
          have er : alRow cs ds (i + 1) = alRow cs ds i ++ [alB d1 d2] := by
            unfold alRow
            rw [List.range_succ, List.map_append, List.map_singleton, List.getD_eq_getElem?_getD, List.getD_eq_getElem?_getD, hd1, hd2]
            rfl
          refine ⟨_, S3 _ _ hD, ?_, ?_, ?_⟩
          · unfold alRow
            rw [List.length_map, List.length_map, List.length_range]
            exact Evl.sz_lt (by omega)
          · exact fun b o e => by
              rw [upd_ne (ne_of_none e hDl)]
              exact S3 _ _ (S2' b o e)
          · rw [upd_same, er, List.map_append]
            rfl
        · rintro H2 ⟨S2', hD⟩
          refine ⟨Dl, _, rfl, .inl (.inl hD), ?_⟩
          rw [ly, alRow_all cs ds el]
          exact q H2 S2'
/-- any two, to seven steps into the depth -/
theorem ok_alikeG (T : Txt K mg) (D : Df K mg "_law_alike" s__law_alike ["found", "due"]) : Cl P w K mg base 8 "_law_alike" ["found", "due"] (sp_alikeG 7) :=
  ok_alikeGS T (ok_alikeGS T (ok_alikeGS T (ok_alikeGS T (ok_alikeGS T (ok_alikeGS T (ok_alikeGS T (ok_alikeG0 T D) D) D) D) D) D) D) D
end
end My
set_option Elab.async false
set_option linter.all false
set_option maxRecDepth 100000
set_option maxHeartbeats 4000000
namespace My
open PySem PySem.Spec PyProof.Rows L2
/-! Y3: equal rows without a bool are just the rows that are alike. -/
def isB : PyData → Bool
  | .bool _ => true
  | _ => false
/-- whether a bool is among the items of a row -/
def hasB : PyData → Bool
  | .tuple ds => ds.any isB
  | .list ds => ds.any isB
  | _ => false
theorem al_int (d : PyData) (i : Int) : alB d (.int i) = (PyData.eqv d (.int i) && !isB d) := by
  cases d with
  | int j =>
    show decide (j = i) = ((j == i) && true)
    rw [Bool.and_true]
    by_cases h : j = i
    · rw [h, decide_eq_true rfl, beq_self_eq_true]
    · rw [decide_eq_false h, beq_eq_false_iff_ne.mpr h]
  | bool b => exact (Bool.and_false _).symm
  | _ => rfl
theorem al_none (d : PyData) : alB d .none = (PyData.eqv d .none && !isB d) := by
  cases d with
  | bool b => exact (Bool.and_false _).symm
  | _ => rfl
theorem al_oD (d : PyData) (o : Option Int) : alB d (oD o) = (PyData.eqv d (oD o) && !isB d) := by
  cases o with
  | none => exact al_none d
  | some i => exact al_int d i
theorem al_row (d : PyData) (r : Rw3) : alB d (rwD r) = (PyData.eqv d (rwD r) && !hasB d) := by
  cases d with
  | tuple ds =>
    match ds with
    | [] => rfl
    | [a] =>
      have e : PyData.eqv (.tuple [a]) (rwD r) = false := by
        show (PyData.eqv a (.int r.1) && false) = false
        exact Bool.and_false _
      rw [e, Bool.false_and]
      rfl
    | [a, b] =>
      have e : PyData.eqv (.tuple [a, b]) (rwD r) = false := by
        show (PyData.eqv a (.int r.1) && (PyData.eqv b (oD r.2.1) && false)) = false
        rw [Bool.and_false, Bool.and_false]
      rw [e, Bool.false_and]
      rfl
    | [a, b, c] =>
      show (decide (3 = 3) && (alB a (.int r.1) && (alB b (oD r.2.1) && (alB c (.int r.2.2) && true)))) = ((PyData.eqv a (.int r.1) && (PyData.eqv b (oD r.2.1) && (PyData.eqv c (.int r.2.2) && true))) && !(isB a || (isB b || (isB c || false))))
      rw [al_int, al_oD, al_int]
      cases PyData.eqv a (.int r.1) <;> cases PyData.eqv b (oD r.2.1) <;> cases PyData.eqv c (.int r.2.2) <;> cases isB a <;> cases isB b <;> cases isB c <;> rfl
    | a :: b :: c :: d :: t =>
      have e : PyData.eqv (.tuple (a :: b :: c :: d :: t)) (rwD r) = false := by
        show (PyData.eqv a (.int r.1) && (PyData.eqv b (oD r.2.1) && (PyData.eqv c (.int r.2.2) && false))) = false
        rw [Bool.and_false, Bool.and_false, Bool.and_false]
      rw [e, Bool.false_and]
      show (decide ((a :: b :: c :: d :: t).length = 3) && alBs (a :: b :: c :: d :: t) [.int r.1, oD r.2.1, .int r.2.2]) = false
      rw [decide_eq_false (by simp), Bool.false_and]
  | _ => rfl
theorem al_rows : ∀ (ds : List PyData) (R : List Rw3), (decide (ds.length = (R.map rwD).length) && alBs ds (R.map rwD)) = (PyData.eqvAll ds (R.map rwD) && !(ds.any hasB))
  | [], [] => rfl
  | [], r :: R => rfl
  | d :: ds, [] => rfl
  | d :: ds, r :: R => by
    have ih := al_rows ds R
    show (decide ((d :: ds).length = (rwD r :: R.map rwD).length) && (alB d (rwD r) && alBs ds (R.map rwD))) = ((PyData.eqv d (rwD r) && PyData.eqvAll ds (R.map rwD)) && !(hasB d || ds.any hasB))
    have e : decide ((d :: ds).length = (rwD r :: R.map rwD).length) = decide (ds.length = (R.map rwD).length) := by
      rw [List.length_cons, List.length_cons]
      by_cases h : ds.length = (R.map rwD).length
      · rw [decide_eq_true h, decide_eq_true (by omega)]
      · rw [decide_eq_false h, decide_eq_false (by omega)]
    rw [e, al_row]
    generalize decide (ds.length = (R.map rwD).length) = p at ih ⊢
    generalize alBs ds (R.map rwD) = s at ih ⊢
    generalize PyData.eqvAll ds (R.map rwD) = t at ih ⊢
    generalize ds.any hasB = u at ih ⊢
    cases PyData.eqv d (rwD r) <;> cases hasB d <;> cases p <;> cases s <;> cases t <;> cases u <;> first | rfl | exact absurd ih (by decide)
/-- what shows_rows tells of any data -/
def shB (D : PyData) (R : List Rw3) : Bool := match D with
  | .list ds => PyData.eqvAll ds (R.map rwD) && !(ds.any hasB)
  | _ => false
theorem shB_al (D : PyData) (R : List Rw3) : shB D R = alB D (.list (R.map rwD)) := by
  cases D with
  | list ds => exact (al_rows ds R).symm
  | _ => rfl
end My
set_option Elab.async false
set_option linter.all false
set_option maxRecDepth 100000
set_option maxHeartbeats 4000000
namespace My
open PySem PySem.Spec PyProof.Rows L2
/-! H2b: threads. -/
theorem lnP_succN (low : Int) (i : Nat) : lnP (low, ((i + 1 : Nat) : Int)) = lnP (low, ((i : Nat) : Int)) ++ [low + (i : Int)] := by
  unfold lnP
  show (List.range ((i + 1 : Nat) : Int).toNat).map _ = (List.range ((i : Nat) : Int).toNat).map _ ++ _
  rw [Int.toNat_natCast, Int.toNat_natCast, List.range_succ, List.map_append]
  rfl
theorem shapedI (L : List Int) : SeqAt.shaped (.list (L.map PyData.int)) = true := by
  unfold SeqAt.shaped
  rw [Bool.and_eq_true]
  refine ⟨lay_map PyData.int L fun _ _ => rfl, decide_eq_true ?_⟩
  have := dep_map PyData.int 0 L fun x _ => Nat.le_refl _
  show PyData.depthAll _ + 1 ≤ 64
  omega
theorem tk_some {L : List Int} {z : Int} (m : z ∈ L) : (valV (tkD L) (Sum.inl z : Key)).isSome = true := by
  have := tk_any L z
  rw [decide_eq_true m] at this
  unfold valV
  cases hf : (tkD L).find? (fun kv => decide (kv.1 = (Sum.inl z : Key))) with
  | none =>
    rw [List.find?_eq_none] at hf
    obtain ⟨kv, a, b⟩ := List.any_eq_true.mp this
    exact absurd b (hf kv a)
  | some kv => rfl
structure OkTh (Th : List Int) (n : Nat) (lo hi : Int) : Prop where
  nd : Th.Nodup
  bd : ∀ z ∈ Th, lo ≤ z ∧ z < hi
  ln : Th.length ≤ n
section
variable {P : Program} {w : World} {K : PySem.W.Frag} {mg : Str → Option Value} {base : Heap}
theorem ok_threads (T : Txt K mg) (D : Df K mg "_law_threads" s__law_threads ["row", "size", "span", "low", "way"]) : Cl P w K mg base 2 "_law_threads" ["row", "size", "span", "low", "way"] sp_threads := by
  refine ok_of D sc__law_threads (fun vs H Q E h => ?_) (fun f cdv A outer s H vs Q E hr h => ?_)
  · obtain ⟨rl, ns, n, sp, low, way, rfl, _⟩ := h
    rfl
  · obtain ⟨rl, ns, n, sp, low, way, rfl, hrl, l40, nn, n4, p0, p1, l0, l1, q⟩ := h
    refine ⟨_, (pss_cons (ps_if (pt_cmpR op_eq (pv 4) pe_int (nomark _)) (pss_one (ps_ret (pe_lc (own := [("n", 11)]) rfl sc__law_threads.nd (pi_range1 (by rfl) T.b_range (pa_cons (pv 1) pa_nil)) (blkOk_by (own := [("n", 11)]) (N := N__law_threads) (sc := defScope s__law_threads) (by decide +kernel)) (fun _ _ _ _ _ => (pg_name (i := 11) sc__law_threads.nd rfl (.inl rfl))) (fun _ _ _ _ _ => pts_nil) (fun _ _ _ _ _ => (pe_op op_add (pv 3) (pv 11)))))) pss_nil)
      (pss_cons (ps_set (i := 5) sc__law_threads.nd rfl (.inl rfl) (pe_lst pa_nil))
      (pss_cons (ps_set (i := 6) sc__law_threads.nd rfl (.inl rfl) pe_dnewK)
      (pss_cons (ps_for PassesOwn.never rfl (pi_list (pv 0)) (pg_name (i := 7) sc__law_threads.nd rfl (.inl rfl))
        (pss_cons (ps_set (i := 8) sc__law_threads.nd rfl (.inl rfl) (pe_op op_add (pv 3) (pe_op op_mod (pv 7) (pv 2))))
        (C8.pss_cut (ps_if (PW.pt (pw_and (pt_cmpR op_eq (pv 4) pe_int (nomark _)) (pw_and1 (pt_cmpR (op_neD hr.units) (pv 5) (pe_lst pa_nil) (nomark _))))) (pss_one (ps_set (i := 8) sc__law_threads.nd rfl (.inl rfl) (pe_op op_add (pe_op op_add (pe_ix ix_list (pv 5) (pe_un un_neg pe_int) (fun _ _ => rfl)) pe_int) (pe_op op_mod (pv 7) pe_int)))) pss_nil)
        (pss_cons (ps_set (i := 9) sc__law_threads.nd rfl (.inl rfl) (pe_op op_add pe_int (pe_op op_mod (pe_op op_fdiv (pv 7) (pv 2)) (pe_ix ix_list (pe_lst (pa_cons pe_int (pa_cons pe_int (pa_cons pe_int (pa_cons pe_int pa_nil))))) (pe_op op_mod (pe_op op_fdiv (pv 7) (pe_op op_mul pe_int (pv 2))) pe_int) (fun _ _ => rfl)))))
        (pss_one (ps_for PassesOwn.never rfl (pi_range2 (by rfl) T.b_range (pa_cons (pv 8) (pa_cons (pe_op op_add (pv 8) (pv 9)) pa_nil))) (pg_name (i := 10) sc__law_threads.nd rfl (.inl rfl))
          (pss_one (ps_if (PW.pt (pw_and (pt_cmp (pc_dnotin (hu_of hr) (pv 10) (pv 6))) (pw_and1 (pt_cmpR op_lt (pe_callB call_len (by rfl) T.b_len (by decide +kernel) (pa_cons (pv 5) pa_nil)) (pv 1) (nomark _))))) (pss_cons (ps_dput (hu_of hr) (pv 6) (pv 10) pe_bl rfl)
            (pss_one (ps_expr (pe_bm PySem.F.plainAttrs_list PySem.F.slot_list_append PySem.F.type_list_append mt_append (pv 5) (pa_cons (pv 10) pa_nil))))) pss_nil))))))))
      (pss_one (ps_ret (pe_op op_cat (pv 5) (pe_lc (own := [("k", 12)]) rfl sc__law_threads.nd (pi_range1 (by rfl) T.b_range (pa_cons (pe_op op_sub (pv 1) (pe_callB call_len (by rfl) T.b_len (by decide +kernel) (pa_cons (pv 5) pa_nil))) pa_nil)) (blkOk_by (own := [("k", 12)]) (N := N__law_threads) (sc := defScope s__law_threads) (by decide +kernel)) (fun _ _ _ _ _ => (pg_name (i := 12) sc__law_threads.nd rfl (.inl rfl))) (fun _ _ _ _ _ => pts_nil) (fun _ _ _ _ _ => (pe_op op_add (pe_op op_add (pv 3) pe_int) (pv 12))))))))))), ?_⟩
    refine ⟨_, rfl, rfl, _, rfl, ite2 (fun _ => ?_) (fun _ => ?_)⟩
    · refine ⟨_, rfl, (n : Nat), rfl, by omega, by omega, fun Dl hDl => ?_⟩
      rw [Int.toNat_natCast]
      refine lc_range (lo := 0) (n := n) (fun i H' => Same H H' ∧ H' Dl = some (.lst ((lnP (low, (i : Nat))).map V.int))) ⟨same_new hDl, upd_same⟩ ?_ ?_
      · rintro i H1 hi ⟨S1, e1⟩
        refine ⟨rfl, _, rfl, _, rfl, low, 0 + (i : Int), rfl, rfl, _, e1, Evl.sz_lt (by rw [List.length_map, lnP_len]; show (i : Int).toNat < 100000; omega), fun b o eo => ?_, ?_⟩
        · rw [upd_ne (ne_of_none eo hDl)]
          exact S1 b o eo
        · rw [upd_same, lnP_succN, List.map_append]
          show some (HO.lst (_ ++ [V.int (low + (0 + (i : Int)))])) = _
          rw [Int.zero_add]
          rfl
      · rintro H1 ⟨S1, e1⟩
        exact q Dl _ H1 S1 hDl e1 (by rw [lnP_len]; exact Int.toNat_natCast n) (lnP_nodup _) fun z hz => by
          have := mem_lnP hz
          dsimp only at this
          omega
    refine ⟨Nat.zero_le _, fun tl htl => ?_⟩
    intro d hd
    have S0 := (same_new (o := .lst []) htl).trans (same_new (o := .dK []) hd)
    have hd0 : H d = none := Same.fresh (same_new htl) hd
    have tne : tl ≠ d := fun z => by rw [z, upd_same] at hd; cases hd
    have rt : rl ≠ tl := ne_of_none hrl htl
    have rd : rl ≠ d := ne_of_none hrl hd0
    refine ⟨_, rfl, rl, rfl, ⟨_, .inl (.inl (S0 _ _ hrl))⟩, for_it (walk_list (xs := ns.map V.int)) (fun i σ H' => ∃ (t7 t8 t9 t10 : Option V) (Th : List Int), σ = [some (.ref rl), some (.int (n : Nat)), some (.int sp), some (.int low), some (.int way), some (.ref tl), some (.ref d), t7, t8, t9, t10, none, none] ∧ Same H H' ∧ H' rl = some (.lst (ns.map V.int)) ∧ H' tl = some (.lst (Th.map V.int)) ∧ H' d = some (.dK (tkD Th)) ∧ OkTh Th n low (low + 500 + 70 * (i : Int))) ⟨_, _, _, _, [], rfl, S0, S0 _ _ hrl, same_new hd _ _ upd_same, upd_same, List.nodup_nil, (fun z h => nomatch h), Nat.zero_le _⟩ (fun i σ H' _ ⟨_, _, _, _, _, _, _, z, _⟩ => .inl (.inl z)) ?_ ?_⟩
    · rintro i x σ H1x H1 hi ⟨t7, t8, t9, t10, Th, rfl, S1, r1, a1, b1, ok1⟩ ⟨rfl, hx⟩
      rw [List.length_map] at hi
      obtain ⟨z, hz⟩ : ∃ z, ns[i]? = some z := ⟨_, List.getElem?_eq_getElem hi⟩
      rw [List.getElem?_map, hz] at hx
      cases hx
      have z0 := nn z (List.mem_of_getElem? hz)
      have n3 : (0 : Int) < sp := by omega
      have m0 := Int.emod_nonneg z (show sp ≠ 0 by omega)
      have m1 := Int.emod_lt_of_pos z n3
      refine ⟨_, rfl, _, rfl, _, rfl, z, _, rfl, rfl, n3, low, _, rfl, rfl, ?_⟩
      refine ⟨fun σ H' => ∃ (fi : Int), σ = [some (.ref rl), some (.int (n : Nat)), some (.int sp), some (.int low), some (.int way), some (.ref tl), some (.ref d), some (.int z), some (.int fi), t9, t10, none, none] ∧ Same H1 H' ∧ low ≤ fi ∧ fi < low + 503 + 70 * (i : Int), ?_, ?_⟩
      · refine ⟨_, rfl, rfl, _, rfl, ite2 (fun _ => ?_) (fun _ => ite2 (fun z => absurd z Bool.false_ne_true) fun _ => ⟨_, rfl, Same.refl _, by omega, by omega⟩)⟩
        refine ⟨_, rfl, Nat.zero_le _, fun n0 hn0 => ?_⟩
        have S2 := same_new (o := .lst []) hn0
        have dpr : Dp K (upd H1 n0 (.lst [])) (.ref tl) (.list (Th.map PyData.int)) := At.dp _ _ (.lst (p := fun _ => False) (xs := Th.map V.int) (fun z => z) (S2 _ _ a1) (AtAll.ints Th))
        refine ⟨_, .list [], dpr, .lst (.inl (.inl upd_same)) .nil, shapedI _, by decide +kernel, ?_⟩
        clear dpr
        rcases List.eq_nil_or_concat Th with e | ⟨T0, m, e⟩
        · rw [e]
          exact ⟨_, rfl, ite2 (fun z => absurd z (by decide)) fun _ => ⟨_, rfl, S2, by omega, by omega⟩⟩
        · rw [List.concat_eq_append] at e
          have ev : (!PyData.eqv (.list (Th.map PyData.int)) (.list [])) = true := by
            rw [e]
            cases T0 <;> rfl
          rw [ev]
          have hm := ok1.bd m (by rw [e]; simp)
          have k0 := Int.emod_nonneg z (show (3 : Int) ≠ 0 by decide)
          have k1 := Int.emod_lt_of_pos z (show (0 : Int) < 3 by decide)
          have at2 := S2 _ _ a1
          rw [e, List.map_append] at at2
          exact ⟨_, rfl, ite2 (fun _ => ⟨_, rfl, _, rfl, tl, _, -1, .int m, rfl, rfl, .inl (.inl at2), atI_last _ _, m, 1, rfl, rfl, _, rfl, z, 3, rfl, rfl, (by show (0 : Int) < 3; decide), _, _, rfl, rfl, _, rfl, S2, by omega, by omega⟩) (fun z => absurd (show true = true from rfl) z)⟩
      rintro σ H2 ⟨fi, rfl, S2, f0, f1⟩
      obtain ⟨mv, hmv, v0, v1⟩ : ∃ v, atI [V.int 1, .int 3, .int 9, .int 60] (z / (60 * sp) % 4) = some (.int v) ∧ 1 ≤ v ∧ v ≤ 60 := by
        generalize z / (60 * sp) = g
        rcases (by omega : g % 4 = 0 ∨ g % 4 = 1 ∨ g % 4 = 2 ∨ g % 4 = 3) with e | e | e | e <;> rw [e]
        · exact ⟨1, rfl, by decide, by decide⟩
        · exact ⟨3, rfl, by decide, by decide⟩
        · exact ⟨9, rfl, by decide, by decide⟩
        · exact ⟨60, rfl, by decide, by decide⟩
      refine ⟨_, rfl, _, rfl, z, _, rfl, rfl, ⟨by omega, by omega⟩, by show 4 ≤ sizeLine; decide, fun b hb => ⟨_, rfl, _, rfl, 60, _, rfl, rfl, .inl ⟨by decide, by decide⟩, z, _, rfl, rfl, ⟨by omega, by omega⟩, _, 4, rfl, rfl, (by show (0 : Int) < 4; decide), b, _, _, _, rfl, rfl, .inl (.inl upd_same), hmv, _, mv, rfl, rfl, (by show 0 < mv; omega), 1, _, rfl, rfl, ?_⟩⟩
      have y0 := Int.emod_nonneg (z / sp) (show mv ≠ 0 by omega)
      have y1 := Int.emod_lt_of_pos (z / sp) (show 0 < mv by omega)
      obtain ⟨y, hy⟩ : ∃ y, z / sp % mv = y := ⟨_, rfl⟩
      rw [hy] at y0 y1
      have S3 := (S1.trans S2).trans (same_new (o := .lst [V.int 1, .int 3, .int 9, .int 60]) hb)
      have S13 := S2.trans (same_new (o := .lst [V.int 1, .int 3, .int 9, .int 60]) hb)
      have i40 : (i : Int) < 40 := by omega
      refine ⟨_, rfl, _, rfl, _, rfl, fi, 1 + y, rfl, congrArg (fun g => V.int (1 + g)) hy, fi, fi + (1 + y), rfl, ⟨by omega, by omega, by omega, by omega⟩, for_range (lo := fi) (n := (fi + (1 + y) - fi).toNat) (fun j σ H' => ∃ (t9 t10 : Option V) (Th : List Int), σ = [some (.ref rl), some (.int (n : Nat)), some (.int sp), some (.int low), some (.int way), some (.ref tl), some (.ref d), some (.int z), some (.int fi), t9, t10, none, none] ∧ Same H H' ∧ H' rl = some (.lst (ns.map V.int)) ∧ H' tl = some (.lst (Th.map V.int)) ∧ H' d = some (.dK (tkD Th)) ∧ OkTh Th n low (low + 500 + 70 * ((i + 1 : Nat) : Int))) ⟨_, _, Th, rfl, S3, S13 _ _ r1, S13 _ _ a1, S13 _ _ b1, ok1.nd, fun u hu => ?_, ok1.ln⟩ ?_ ?_⟩
      · have := ok1.bd u hu
        omega
      · rintro j σ H4 hj ⟨t9, t10, Th, rfl, S4, r4, a4, b4, ok4⟩
        by_cases hin : fi + (j : Int) ∈ Th
        · refine ⟨_, rfl, .ref d, rfl, d, _, rfl, DGet.k (k := Sum.inl (fi + (j : Int))) b4, _, rfl, ite2 (fun c => ?_) (fun _ => ite2 (fun z => absurd z Bool.false_ne_true) fun _ => ⟨_, _, Th, rfl, S4, r4, a4, b4, ok4⟩)⟩
          rw [tk_some hin] at c
          exact absurd c (by decide)
        · refine ⟨_, rfl, .ref d, rfl, d, _, rfl, DGet.k (k := Sum.inl (fi + (j : Int))) b4, _, rfl, ?_⟩
          rw [tk_val hin]
          refine ite2 (fun _ => ?_) (fun z => absurd (show (!false) = true from rfl) z)
          refine ⟨_, rfl, _, Th.length, rfl, .inl ⟨_, .inl (.inl a4), (List.length_map ..).symm⟩, _, rfl, _, _, rfl, rfl, _, rfl, ite2 (fun c => ?_) (fun _ => ⟨_, _, Th, rfl, S4, r4, a4, b4, ok4⟩)⟩
          have c := of_decide_eq_true c
          refine ⟨.ref d, rfl, _, rfl, d, _, rfl, DPut.k (k := Sum.inl (fi + (j : Int))) b4 (Evl.sz_lt (by unfold tkD; rw [List.length_map]; omega)), ?_⟩
          refine ⟨_, rfl, .inl ⟨rfl, _, .inl (.inl (by rw [upd_ne tne]; exact a4))⟩, _, rfl, tl, _, _, rfl, rfl, by rw [upd_ne tne]; exact a4, Evl.sz_lt (by rw [List.length_map]; omega), ?_⟩
          refine ⟨_, _, Th ++ [fi + (j : Int)], rfl, fun b o eo => ?_, ?_, by rw [upd_same, List.map_append]; rfl, ?_, ?_⟩
          · rw [upd_ne (ne_of_none eo htl), upd_ne (ne_of_none eo hd0)]
            exact S4 b o eo
          · rw [upd_ne rt, upd_ne rd]
            exact r4
          · rw [upd_ne tne.symm, upd_same, tk_put hin]
          · refine ⟨List.nodup_append.mpr ⟨ok4.nd, by simp, fun a ha b hb => ?_⟩, fun u hu => ?_, by rw [List.length_append, List.length_singleton]; omega⟩
            · rw [List.mem_singleton.mp hb]
              exact fun e => hin (e ▸ ha)
            · rcases List.mem_append.mp hu with hu | hu
              · exact ok4.bd u hu
              · have := List.mem_singleton.mp hu
                omega
      · rintro σ H4 ⟨t9, t10, Th, rfl, S4, r4, a4, b4, ok4⟩
        exact ⟨_, _, _, _, Th, rfl, S4, r4, a4, b4, ok4⟩
    · rintro σ H1 ⟨t7, t8, t9, t10, Th, rfl, S1, r1, a1, b1, ok1⟩
      have l4' := ok1.ln
      refine ⟨_, rfl, _, rfl, _, rfl, _, Th.length, rfl, .inl ⟨_, .inl (.inl a1), (List.length_map ..).symm⟩, _, _, rfl, rfl, _, rfl, by omega, by omega, fun Dl hDl => ?_⟩
      have hDl0 : H Dl = none := Same.fresh S1 hDl
      refine lc_range (lo := 0) (n := (((n : Nat) : Int) - (Th.length : Int)).toNat) (fun i H' => Same H1 H' ∧ H' Dl = some (.lst ((lnP (low + 5000, (i : Nat))).map V.int))) ⟨same_new hDl, upd_same⟩ ?_ ?_
      · rintro i H2 hi ⟨S2, e2⟩
        refine ⟨rfl, _, rfl, low, 5000, rfl, rfl, _, rfl, _, 0 + (i : Int), rfl, rfl, _, e2, Evl.sz_lt (by rw [List.length_map, lnP_len]; show (i : Int).toNat < 100000; omega), fun b o eo => ?_, ?_⟩
        · rw [upd_ne (ne_of_none eo hDl)]
          exact S2 b o eo
        · rw [upd_same, lnP_succN, List.map_append]
          show some (HO.lst (_ ++ [V.int (low + 5000 + (0 + (i : Int)))])) = _
          rw [Int.zero_add]
          rfl
      · rintro H2 ⟨S2, e2⟩
        refine ⟨tl, Dl, _, _, rfl, rfl, S2 _ _ a1, e2, Nat.le_of_lt (Evl.sz_lt (by rw [List.length_map, List.length_map, lnP_len]; dsimp only; omega)), fun k hk => ?_⟩
        have S12 := S1.trans S2
        refine q k (Th ++ lnP (low + 5000, ((((n : Nat) : Int) - (Th.length : Int)).toNat : Nat))) _ (S12.trans (same_new hk)) (Same.fresh S12 hk) (by rw [upd_same, List.map_append]) ?_ ?_ ?_
        · rw [List.length_append, lnP_len]
          dsimp only
          omega
        · refine List.nodup_append.mpr ⟨ok1.nd, lnP_nodup _, fun a ha b hb => ?_⟩
          have h1 := ok1.bd a ha
          have h2 := mem_lnP hb
          dsimp only at h2
          rw [List.length_map] at h1
          omega
        · intro u hu
          rcases List.mem_append.mp hu with hu | hu
          · have h1 := ok1.bd u hu
            rw [List.length_map] at h1
            omega
          · have h2 := mem_lnP hu
            dsimp only at h2
            omega
end
end My
set_option Elab.async false
set_option linter.all false
set_option maxRecDepth 100000
set_option maxHeartbeats 4000000
namespace My
open PySem PySem.Spec PyProof.Rows L2
/-! H3a: two books with their lines; where lines lead. -/
theorem max_if (a b : Int) : (if b > a then b else a) = max a b := by split <;> omega
def sp_twoB (K : PySem.W.Frag) : Sp := fun vs H Q _ => ∃ (S : Av) (a : Addr) (ns : List Int), vs = [.ref a] ∧ Occ S H ∧ SqL K H a (ns.map V.int) ∧ ∀ (t b1 t1 b2 t2 : Addr) (B1 B2 : Bks) (L1 L2 : List Int) H', Same H H' → H t = none → H' t = some (.tup [.ref b1, .ref t1, .ref b2, .ref t2]) →
  At S H' (.ref b1) (bksLD B1) → At S H' (.ref b2) (bksLD B2) → H' t1 = some (.lst (L1.map V.int)) → H' t2 = some (.lst (L2.map V.int)) → EdOk B1 L1 → EdOk B2 L2 → lnt L1 → Q (.ref t) H'
def sp_goesL : Sp := fun vs H Q _ => ∃ (f s : Addr) (L M : List Int), vs = [.ref f, .ref s] ∧ H f = some (.lst (L.map V.int)) ∧ H s = some (.lst (M.map V.int)) ∧ M.Nodup ∧ L.length ≤ 1000 ∧ M.length ≤ 1000 ∧ ∀ k H', Same H H' → H k = none → H' k = some (.lst ((goD L M).map oV)) → Q (.ref k) H'
section
variable {P : Program} {w : World} {K : PySem.W.Frag} {mg : Str → Option Value} {base : Heap}
theorem ok_goesL (T : Txt K mg) (D : Df K mg "_law_goes" s__law_goes ["first", "second"]) : Cl P w K mg base 2 "_law_goes" ["first", "second"] sp_goesL := by
  refine ok_of D sc__law_goes (fun vs H Q E h => ?_) (fun f cdv A outer s H vs Q E hr h => ?_)
  · obtain ⟨f, s, L, M, rfl, _⟩ := h
    rfl
  · obtain ⟨fi, se, L, M, rfl, hf, hs, nd, lL, lM, q⟩ := h
    refine ⟨_, (pss_cons (ps_set (i := 2) sc__law_goes.nd rfl (.inr rfl) pe_dnewK)
      (pss_cons (ps_for PassesOwn.never rfl (pi_enum (by rfl) T.b_enumerate (pa_cons (pv 1) pa_nil)) (pg_tup rfl (pgs_cons (pg_name (i := 3) sc__law_goes.nd rfl (.inl rfl)) (pgs_cons (pg_name (i := 4) sc__law_goes.nd rfl (.inl rfl)) pgs_nil)))
        (pss_one (ps_dput (hu_of hr) (pv 2) (pv 4) (pv 3) rfl)))
      (pss_one (ps_ret (pe_lc (own := [("thread", 4)]) rfl sc__law_goes.nd (pi_list (pv 0)) (blkOk_by (own := [("thread", 4)]) (N := N__law_goes) (sc := defScope s__law_goes) (by decide +kernel)) (fun _ _ _ _ _ => (pg_name (i := 4) sc__law_goes.nd rfl (.inl rfl))) (fun _ _ _ _ _ => pts_nil) (fun _ _ _ _ _ => (pe_dget1 (hu_of hr) (pv 2) (pv 4) ⟨rfl, rfl, rfl, rfl⟩))))))), ?_⟩
    intro d hd
    have fd := ne_of_none hf hd
    have sd := ne_of_none hs hd
    refine ⟨.ref se, rfl, se, _, rfl, .inl (.inl (same_new hd _ _ hs)), for_it (walk_enum (xs := M.map V.int)) (fun i σ H' => ∃ (t3 t4 : Option V), σ = [some (.ref fi), some (.ref se), some (.ref d), t3, t4] ∧ Same H H' ∧ H' d = some (.dK (numD (M.take i)))) ⟨_, _, rfl, same_new hd, upd_same⟩ (fun i σ H' _ ⟨_, _, _, z, _⟩ => .inl (.inl (z _ _ hs))) ?_ ?_⟩
    · rintro i y σ H2x H2 hi ⟨t3, t4, rfl, S2, ed⟩ ⟨T6, x6, y6, rfl, hT6, rfl, e6, hy6⟩
      cases e6
      rw [List.length_map] at hi
      have hMi : M[i]? = some M[i] := List.getElem?_eq_getElem hi
      have hy6' : (M.map V.int)[i]? = some y6 := hy6
      rw [List.getElem?_map, hMi] at hy6'
      cases hy6'
      have S7 := same_new (o := .tup [.int (i : Nat), .int M[i]]) hT6
      have nin : M[i] ∉ M.take i := fun z => by
        obtain ⟨j, hj, e⟩ := List.mem_iff_getElem.mp z
        rw [List.length_take] at hj
        rw [List.getElem_take] at e
        have := (List.pairwise_iff_getElem.mp nd) j i (by omega) hi (by omega)
        exact this e
      have new : valV (numD (M.take i)) (Sum.inl M[i] : Key) = none := num_no nin
      refine ⟨T6, _, rfl, .inl (.inl upd_same), rfl, _, _, rfl, _, _, rfl, rfl, ?_⟩
      refine ⟨_, rfl, .ref d, rfl, _, rfl, d, _, rfl, DPut.k (k := Sum.inl M[i]) (S7 _ _ ed) (Evl.sz_lt (by unfold numD; rw [List.length_map, List.length_zipIdx, List.length_take]; omega)), ?_⟩
      refine ⟨_, _, rfl, fun b o eo => ?_, ?_⟩
      · rw [upd_ne (ne_of_none eo hd)]
        exact S7 _ _ (S2 b o eo)
      · rw [upd_same, putK_new _ new, numD_succ hMi]
    · rintro σ H2 ⟨t3, t4, rfl, S2, ed⟩
      rw [List.length_map, List.take_length] at ed
      refine ⟨.ref fi, rfl, fi, rfl, ⟨_, .inl (.inl (S2 _ _ hf))⟩, fun k hk => ?_⟩
      refine lc_it (walk_list (xs := L.map V.int)) (fun i H' => Same H2 H' ∧ H' k = some (.lst ((goD (L.take i) M).map oV))) ⟨same_new hk, upd_same⟩ (fun i H' _ ⟨z, _⟩ => .inl (.inl (z _ _ (S2 _ _ hf)))) ?_ ?_
      · rintro i y0 H3x H3 hi ⟨S3, ek⟩ ⟨rfl, hy0⟩
        rw [List.length_map] at hi
        obtain ⟨z, hz⟩ : ∃ z, L[i]? = some z := ⟨_, List.getElem?_eq_getElem hi⟩
        rw [List.getElem?_map, hz] at hy0
        cases hy0
        refine ⟨rfl, .ref d, rfl, d, rfl, .inl ⟨_, .inl (S3 _ _ ed)⟩, _, rfl, _, DGet.k (k := Sum.inl z) (S3 _ _ ed), ?_⟩
        show ∃ acc, H3 k = some (.lst acc) ∧ acc.length < sizeLine ∧ Same H2 (upd H3 k (.lst (acc ++ [(valV (numD M) (Sum.inl z : Key)).getD .non]))) ∧ upd H3 k (.lst (acc ++ [(valV (numD M) (Sum.inl z : Key)).getD .non])) k = _
        rw [gO_val nd]
        refine ⟨_, ek, Evl.sz_lt (by rw [List.length_map, go_len, List.length_take]; omega), same_over S3 hk, ?_⟩
        rw [upd_same]
        unfold goD
        rw [List.take_add_one, hz, List.map_append, List.map_append]
        rfl
      · rintro H3 ⟨S3, ek⟩
        rw [List.length_map, List.take_length] at ek
        exact q k H3 (S2.trans S3) (Same.fresh S2 hk) ek
theorem ok_twoB (T : Txt K mg) (c__law_cell_at : Cl P w K mg base 2 "_law_cell_at" ["script", "k"] (sp_cellAt K)) (c__law_books : Cl P w K mg base 3 "_law_books" ["cell", "salt"] sp_booksK) (c__law_spots : Cl P w K mg base 2 "_law_spots" ["books"] sp_spotsL) (c__law_row : Cl P w K mg base 2 "_law_row" ["cell", "many", "salt"] sp_row)
    (c__law_threads : Cl P w K mg base 2 "_law_threads" ["row", "size", "span", "low", "way"] sp_threads) (D : Df K mg "_law_two" s__law_two ["script"]) : Cl P w K mg base 4 "_law_two" ["script"] (sp_twoB K) := by
  refine ok_of D sc__law_two (fun vs H Q E h => ?_) (fun f cdv A outer s H vs Q E hr h => ?_)
  · obtain ⟨S, a, ns, rfl, _⟩ := h
    rfl
  · obtain ⟨S, a, ns, rfl, ho, hS, q⟩ := h
    refine ⟨_, (pss_cons (ps_set (i := 1) sc__law_two.nd rfl (.inl rfl) (pe_cl c__law_books hr (by decide) (by rfl) (pa_cons (pe_cl c__law_cell_at hr (by decide) (by rfl) (pa_cons (pv 0) (pa_cons pe_int pa_nil))) (pa_cons pe_int pa_nil))))
      (pss_cons (ps_set (i := 2) sc__law_two.nd rfl (.inl rfl) (pe_cl c__law_books hr (by decide) (by rfl) (pa_cons (pe_cl c__law_cell_at hr (by decide) (by rfl) (pa_cons (pv 0) (pa_cons pe_int pa_nil))) (pa_cons pe_int pa_nil))))
      (pss_cons (ps_set (i := 3) sc__law_two.nd rfl (.inl rfl) (pe_cl c__law_cell_at hr (by decide) (by rfl) (pa_cons (pv 0) (pa_cons pe_int pa_nil))))
      (C8.pss_cut (ps_if (pt_cmpR op_eq (pe_op op_mod (pv 3) pe_int) pe_int (nomark _)) (pss_one (ps_set (i := 2) sc__law_two.nd rfl (.inl rfl) (pv 1))) pss_nil)
      (pss_cons (ps_set (i := 4) sc__law_two.nd rfl (.inl rfl) (pe_callB call_len (by rfl) T.b_len (by decide +kernel) (pa_cons (pe_cl c__law_spots hr (by decide) (by rfl) (pa_cons (pv 1) pa_nil)) pa_nil)))
      (pss_cons (ps_set (i := 5) sc__law_two.nd rfl (.inl rfl) (pe_callB call_len (by rfl) T.b_len (by decide +kernel) (pa_cons (pe_cl c__law_spots hr (by decide) (by rfl) (pa_cons (pv 2) pa_nil)) pa_nil)))
      (pss_cons (ps_set (i := 6) sc__law_two.nd rfl (.inl rfl) (pe_op op_add (pe_callB (call_max2 rfl) (by rfl) T.b_max (by decide +kernel) (pa_cons (pv 4) (pa_cons (pv 5) pa_nil))) pe_int))
      (pss_cons (ps_set (i := 7) sc__law_two.nd rfl (.inl rfl) (pe_ix ix_list (pe_lst (pa_cons pe_int (pa_cons (pe_op op_mod (pe_op op_fdiv (pv 3) pe_int) pe_int) pa_nil))) (pe_op op_mod (pe_op op_fdiv (pv 3) pe_int) pe_int) (fun _ _ => rfl)))
      (pss_cons (ps_set (i := 8) sc__law_two.nd rfl (.inl rfl) (pe_cl c__law_threads hr (by decide) (by rfl) (pa_cons (pe_cl c__law_row hr (by decide) (by rfl) (pa_cons (pe_cl c__law_cell_at hr (by decide) (by rfl) (pa_cons (pv 0) (pa_cons pe_int pa_nil))) (pa_cons pe_int (pa_cons pe_int pa_nil)))) (pa_cons (pv 4) (pa_cons (pv 6) (pa_cons (pv 7) (pa_cons (pe_op op_mod (pe_op op_fdiv (pv 3) pe_int) pe_int) pa_nil)))))))
      (pss_cons (ps_set (i := 9) sc__law_two.nd rfl (.inl rfl) (pe_cl c__law_threads hr (by decide) (by rfl) (pa_cons (pe_cl c__law_row hr (by decide) (by rfl) (pa_cons (pe_cl c__law_cell_at hr (by decide) (by rfl) (pa_cons (pv 0) (pa_cons pe_int pa_nil))) (pa_cons pe_int (pa_cons pe_int pa_nil)))) (pa_cons (pv 5) (pa_cons (pv 6) (pa_cons (pv 7) (pa_cons (pe_op op_mod (pe_op op_fdiv (pv 3) pe_int) pe_int) pa_nil)))))))
      (C8.pss_cut (ps_if (pt_cmpR op_eq (pe_op op_mod (pv 3) pe_int) pe_int (nomark _)) (pss_one (ps_set (i := 9) sc__law_two.nd rfl (.inl rfl) (pe_callTy call_list_of (by rfl) T.b_list (by decide +kernel) (pa_cons (pv 8) pa_nil)))) pss_nil)
      (pss_one (ps_ret (pe_tup (pa_cons (pv 1) (pa_cons (pv 8) (pa_cons (pv 2) (pa_cons (pv 9) pa_nil)))))))))))))))))), ?_⟩
    refine ⟨.ref a, rfl, a, ns, 0, rfl, hS, by decide, fun z0 => ?_⟩
    refine ⟨S, z0, 7, rfl, by decide, by decide, ho, fun B1 b1 H1 ok1 S1 hb1 a1 => ?_⟩
    refine ⟨.ref a, rfl, a, ns, 1, rfl, S1.seq hS, by decide, fun z1 => ?_⟩
    refine ⟨S, z1, 9, rfl, by decide, by decide, ho.same S1, fun B2 b2 H2 ok2 S2 hb2 a2 => ?_⟩
    have S02 := S1.trans S2
    have a1 := At.same a1 S2
    refine ⟨_, rfl, a, ns, 4, rfl, S02.seq hS, by decide, fun way => ?_⟩
    refine ⟨fun σ H' => ∃ (b2 : Addr) (B2 : Bks), σ = [some (.ref a), some (.ref b1), some (.ref b2), some (.int way), none, none, none, none, none, none] ∧ H' = H2 ∧ At S H2 (.ref b2) (bksLD B2) ∧ okBks B2 ∧ (way % 8 = 7 → B2 = B1), ?_, ?_⟩
    · refine ⟨_, rfl, way, 8, rfl, rfl, (by show (0 : Int) < 8; decide), rfl, _, rfl, ite2 (fun _ => ?_) (fun z => ⟨b2, B2, rfl, rfl, a2, ok2, fun e => absurd (decide_eq_true (congrArg V.int e)) z⟩)⟩
      exact ⟨_, rfl, b1, B1, rfl, rfl, a1, ok1, fun _ => rfl⟩
    clear a2 ok2 hb2 b2 B2
    rintro σ H2x ⟨b2, B2, rfl, rfl, a2, ok2, same⟩
    have len : ∀ {B : Bks}, okBks B → 1 ≤ (plOf B).length ∧ (plOf B).length ≤ 400 := fun {B} ok => by
      have z1 := size_pos ok
      have e := plOf_sum B fun b hb c hc m hm => by
        have := (((ok.ch b hb).2.2 c hc).x m hm).1
        omega
      have := ok.prs
      omega
    have n1 := len ok1
    have n2 := len ok2
    refine ⟨_, rfl, S, S, .ref b1, B1, rfl, ho.same S02, a1, ok1, fun l1 r1 H3 hl1 S3 el1 al1 => ⟨_, r1.length, rfl, .inl ⟨r1, .inl (.inl el1), rfl⟩, ?_⟩⟩
    have e1 : r1.length = (plOf B1).length := by rw [al1.len, List.length_map]
    rw [e1]
    have S03 := S02.trans S3
    have a2 := At.same a2 S3
    refine ⟨_, rfl, S, S, .ref b2, B2, rfl, ho.same S03, a2, ok2, fun l2 r2 H4 hl2 S4 el2 al2 => ⟨_, r2.length, rfl, .inl ⟨r2, .inl (.inl el2), rfl⟩, ?_⟩⟩
    have e2 : r2.length = (plOf B2).length := by rw [al2.len, List.length_map]
    rw [e2]
    have S04 := S03.trans S4
    have a1 := At.same a1 (S3.trans S4)
    have a2 := At.same a2 S4
    obtain ⟨sp, hsp, p0, p1⟩ : ∃ sp : Int, (if (((plOf B2).length : Nat) : Int) > ((plOf B1).length : Nat) then (((plOf B2).length : Nat) : Int) else ((plOf B1).length : Nat)) + 3 = sp ∧ 1 ≤ sp ∧ sp ≤ 403 := ⟨_, rfl, by split <;> omega, by split <;> omega⟩
    subst hsp
    refine ⟨_, rfl, _, rfl, _, _, rfl, _, 3, rfl, rfl, ?_⟩
    obtain ⟨low, hlow, w0, w1⟩ : ∃ low : Int, atI [V.int 0, V.int (way / 144 % 4600)] (way / 72 % 2) = some (.int low) ∧ 0 ≤ low ∧ low < 4600 := by
      rcases (by omega : way / 72 % 2 = 0 ∨ way / 72 % 2 = 1) with e | e
      · exact ⟨0, by rw [e]; rfl, by decide, by decide⟩
      · exact ⟨way / 144 % 4600, by rw [e]; rfl, by omega, by omega⟩
    refine ⟨_, rfl, way, 144, rfl, rfl, ⟨by decide, by decide⟩, _, 4600, rfl, rfl, (by show (0 : Int) < 4600; decide), by show 2 ≤ sizeLine; decide, fun wl hwl => ?_⟩
    refine ⟨_, rfl, way, 72, rfl, rfl, ⟨by decide, by decide⟩, _, 2, rfl, rfl, (by show (0 : Int) < 2; decide), wl, _, _, _, rfl, rfl, .inl (.inl upd_same), hlow, ?_⟩
    have S5 := same_new (o := .lst [V.int 0, V.int (way / 144 % 4600)]) hwl
    have S05 := S04.trans S5
    -- the first lines
    refine ⟨.ref a, rfl, a, ns, 2, rfl, S05.seq hS, by decide, fun z2 => ⟨z2, 40, 19, rfl, by decide, by decide, by decide, fun ns1 rl1 H6 lns1 hz1 hrl1 S6 erl1 => ?_⟩⟩
    refine ⟨_, rfl, _, rfl, _, rfl, _, rfl, way, 8, rfl, rfl, ⟨by decide, by decide⟩, _, 3, rfl, rfl, (by show (0 : Int) < 3; decide), rl1, ns1, (plOf B1).length, _, low, _, rfl, erl1, by omega, fun z hz => (hz1 z hz).1, n1.2, p0, p1, w0, w1, fun t1 L1 H7 S7 ht1 et1 lt1 nd1 bd1 => ?_⟩
    have S07 := (S05.trans S6).trans S7
    -- the second ones
    refine ⟨.ref a, rfl, a, ns, 3, rfl, S07.seq hS, by decide, fun z3 => ⟨z3, 40, 23, rfl, by decide, by decide, by decide, fun ns2 rl2 H8 lns2 hz2 hrl2 S8 erl2 => ?_⟩⟩
    refine ⟨_, rfl, _, rfl, _, rfl, _, rfl, way, 24, rfl, rfl, ⟨by decide, by decide⟩, _, 3, rfl, rfl, (by show (0 : Int) < 3; decide), rl2, ns2, (plOf B2).length, _, low, _, rfl, erl2, by omega, fun z hz => (hz2 z hz).1, n2.2, p0, p1, w0, w1, fun t2 L2 H9 S9 ht2 et2 lt2 nd2 bd2 => ?_⟩
    have S79 := S8.trans S9
    have S09 := S07.trans S79
    have S49 := (S5.trans S6).trans (S7.trans S79)
    have et1 := S79 _ _ et1
    refine ⟨fun σ H' => ∃ (t2 : Addr) (L2 : List Int), σ = [some (.ref a), some (.ref b1), some (.ref b2), some (.int way), some (.int ((plOf B1).length : Nat)), some (.int ((plOf B2).length : Nat)), some (.int ((if (((plOf B2).length : Nat) : Int) > ((plOf B1).length : Nat) then (((plOf B2).length : Nat) : Int) else ((plOf B1).length : Nat)) + 3)), some (.int low), some (.ref t1), some (.ref t2)] ∧ Same H9 H' ∧ H' t2 = some (.lst (L2.map V.int)) ∧ EdOk B2 L2, ?_, ?_⟩
    · refine ⟨_, rfl, way, 16, rfl, rfl, (by show (0 : Int) < 16; decide), rfl, _, rfl, ite2 (fun z => ?_) (fun _ => ⟨t2, L2, rfl, Same.refl _, et2, ok2, n2.2, lt2, nd2, lnt.ln bd2⟩)⟩
      have hw : way % 16 = 15 := V.int.inj (of_decide_eq_true z)
      have eB := same (by omega)
      subst eB
      exact ⟨_, rfl, t1, _, rfl, .inl (.inl (.inl et1)), fun l hl => ⟨l, L1, rfl, same_new hl, upd_same, ok2, n2.2, lt1, nd1, lnt.ln bd1⟩⟩
    clear et2 lt2 nd2 bd2 ht2 t2 L2
    rintro σ HA ⟨t2, L2, rfl, SA, et2, k2⟩
    refine ⟨_, rfl, _, rfl, _, rfl, _, rfl, by show 4 ≤ sizeLine; decide, fun t ht => ?_⟩
    have SB := same_new (o := .tup [.ref b1, .ref t1, .ref b2, .ref t2]) ht
    have S0A := S09.trans SA
    exact q t b1 t1 b2 t2 B1 B2 L1 L2 _ (S0A.trans SB) (Same.fresh S0A ht) upd_same (At.same a1 ((S49.trans SA).trans SB)) (At.same a2 ((S49.trans SA).trans SB)) (SB _ _ (SA _ _ et1)) (SB _ _ et2) ⟨ok1, n1.2, lt1, nd1, lnt.ln bd1⟩ k2 bd1
end
end My
set_option Elab.async false
set_option linter.all false
set_option maxRecDepth 100000
set_option maxHeartbeats 4000000
namespace My
open PySem PySem.Spec PyProof.Rows L2
/-! H4a: a third edition's books and lines; one step behind the other; rows of goals. -/
def sp_third (K : PySem.W.Frag) : Sp := fun vs H Q _ => ∃ (S : Av) (a b1 t1 : Addr) (ns : List Int) (B1 : Bks) (L1 : List Int), vs = [.ref a, .ref b1, .ref t1] ∧ Occ S H ∧ SqL K H a (ns.map V.int) ∧ At S H (.ref b1) (bksLD B1) ∧ H t1 = some (.lst (L1.map V.int)) ∧ EdOk B1 L1 ∧ lnt L1 ∧
  ∀ (t b3 t3 : Addr) (B3 : Bks) (L3 : List Int) H', Same H H' → H t = none → H' t = some (.tup [.ref b3, .ref t3]) → At S H' (.ref b3) (bksLD B3) → H' t3 = some (.lst (L3.map V.int)) → EdOk B3 L3 → lnt L3 → Q (.ref t) H'
def sp_steps : Sp := fun vs H Q _ => ∃ (gl wl : Addr) (g w : List (Option Int)), vs = [.ref gl, .ref wl] ∧ H gl = some (.lst (g.map oV)) ∧ H wl = some (.lst (w.map oV)) ∧ g.length ≤ 1000 ∧ (∀ j, some j ∈ g → 0 ≤ j ∧ j < (w.length : Nat)) ∧ ∀ k H', Same H H' → H k = none → H' k = some (.lst ((stepD g w).map oV)) → Q (.ref k) H'
def sp_rowsL : Sp := fun vs H Q _ => ∃ (S : Av) (l : Addr) (g : List (Option Int)), vs = [.ref l] ∧ Occ S H ∧ H l = some (.lst (g.map oV)) ∧ g.length ≤ 1000 ∧ ∀ k rows H', Same H H' → H k = none → H' k = some (.lst rows) → AtAll S H' rows ((rowsD g).map rwD) → Q (.ref k) H'
section
variable {P : Program} {w : World} {K : PySem.W.Frag} {mg : Str → Option Value} {base : Heap}
end
end My
set_option Elab.async false
set_option linter.all false
set_option maxRecDepth 100000
set_option maxHeartbeats 4000000
namespace My
open PySem PySem.Spec PyProof.Rows L2
/-! H4b: the law's rows of goals. -/
theorem lay_rw (r : Rw3) : (rwD r).canLay0 = true := by
  obtain ⟨a, b, c⟩ := r
  cases b <;> rfl
theorem dep_rw (r : Rw3) : (rwD r).depth ≤ 1 := by
  obtain ⟨a, b, c⟩ := r
  cases b <;> exact Nat.le_refl _
theorem shaped_rws (L : List Rw3) : SeqAt.shaped (.list (L.map rwD)) = true := by
  unfold SeqAt.shaped
  rw [Bool.and_eq_true]
  refine ⟨lay_map rwD _ fun s _ => lay_rw s, decide_eq_true ?_⟩
  have := dep_map rwD 1 L fun s _ => dep_rw s
  show PyData.depthAll _ + 1 ≤ 64
  omega
section
variable {P : Program} {w : World} {K : PySem.W.Frag} {mg : Str → Option Value} {base : Heap}
theorem ok_rowsL (T : Txt K mg) (D : Df K mg "_law_rows" s__law_rows ["goes"]) : Cl P w K mg base 2 "_law_rows" ["goes"] sp_rowsL := by
  refine ok_of D sc__law_rows (fun vs H Q E h => ?_) (fun f cdv A outer s H vs Q E hr h => ?_)
  · obtain ⟨S, l, g, rfl, _⟩ := h
    rfl
  · obtain ⟨S, l, g, rfl, ho, hg, lg, q⟩ := h
    refine ⟨_, (pss_cons (ps_set (i := 1) sc__law_rows.nd rfl (.inl rfl) (pe_lst pa_nil))
      (pss_cons (ps_for PassesOwn.never rfl (pi_enum (by rfl) T.b_enumerate (pa_cons (pv 0) pa_nil)) (pg_tup rfl (pgs_cons (pg_name (i := 2) sc__law_rows.nd rfl (.inl rfl)) (pgs_cons (pg_name (i := 3) sc__law_rows.nd rfl (.inl rfl)) pgs_nil)))
        (pss_one (ps_if (pt_cmpR (op_neD hr.units) (pv 1) (pe_lst pa_nil) (nomark _)) (pss_cons (ps_asg (pe_ix ix_list (pv 1) (pe_un un_neg pe_int) (fun _ _ => rfl)) (pg_tup rfl (pgs_cons (pg_name (i := 4) sc__law_rows.nd rfl (.inl rfl)) (pgs_cons (pg_name (i := 5) sc__law_rows.nd rfl (.inl rfl)) (pgs_cons (pg_name (i := 6) sc__law_rows.nd rfl (.inl rfl)) pgs_nil)))))
          (pss_cons (ps_set (i := 7) sc__law_rows.nd rfl (.inl rfl) (pe_and (pe_cmpR op_isN (pv 5) pe_non (nomark _)) (pe_one (pe_cmpR op_isN (pv 3) pe_non (nomark _)))))
          (pss_one (ps_if (PW.pt (pw_or (pt_val (pv 7)) (pw_or1 (PW.pt (pw_and (pt_cmpR op_notN (pv 5) pe_non (nomark _)) (pw_and (pt_cmpR op_notN (pv 3) pe_non (nomark _)) (pw_and1 (pt_cmpR op_eq (pv 3) (pe_op op_add (pv 5) (pv 6)) (nomark _))))))))) (pss_one (ps_asg (pe_tup (pa_cons (pv 4) (pa_cons (pv 5) (pa_cons (pe_op op_add (pv 6) pe_int) pa_nil)))) (pg_sub (pv 1) (pe_un un_neg pe_int) set_list))) (pss_one (ps_expr (pe_bm PySem.F.plainAttrs_list PySem.F.slot_list_append PySem.F.type_list_append mt_append (pv 1) (pa_cons (pe_tup (pa_cons (pv 2) (pa_cons (pv 3) (pa_cons pe_int pa_nil)))) pa_nil)))))))) (pss_one (ps_expr (pe_bm PySem.F.plainAttrs_list PySem.F.slot_list_append PySem.F.type_list_append mt_append (pv 1) (pa_cons (pe_tup (pa_cons (pv 2) (pa_cons (pv 3) (pa_cons pe_int pa_nil)))) pa_nil)))))))
      (pss_one (ps_ret (pv 1))))), ?_⟩
    refine ⟨Nat.zero_le _, fun k hk => ?_⟩
    refine ⟨.ref l, rfl, l, _, rfl, .inl (.inl (same_new hk _ _ hg)), for_it (walk_enum (xs := g.map oV)) (fun i σ H' => ∃ (t2 t3 t4 t5 t6 t7 : Option V) (rows : List V), σ = [some (.ref l), some (.ref k), t2, t3, t4, t5, t6, t7] ∧ LcS S H k rows ((rowsD (g.take i)).map rwD) H') ⟨_, _, _, _, _, _, _, rfl, LcS.start hk⟩ (fun i σ H' _ ⟨_, _, _, _, _, _, _, _, L⟩ => .inl (.inl (L.s _ _ hg))) ?_ ?_⟩
    · rintro i y σ H2 H2' hi ⟨t2, t3, t4, t5, t6, t7, rows, rfl, c0⟩ ⟨T6, x6, y6, rfl, hT6, rfl, e6, hy6⟩
      cases e6
      rw [List.length_map] at hi
      obtain ⟨o, hgi⟩ : ∃ o, g[i]? = some o := ⟨_, List.getElem?_eq_getElem hi⟩
      have hy6 : (g.map oV)[i]? = some y6 := hy6
      rw [List.getElem?_map, hgi] at hy6
      cases hy6
      rw [rowsD_succ hgi]
      have c := c0.keep (same_new (o := .tup [.int (i : Nat), oV o]) hT6)
      have et6 : upd H2 T6 (.tup [.int (i : Nat), oV o]) T6 = some (.tup [.int (i : Nat), oV o]) := upd_same
      have lr : rows.length ≤ 1000 := by
        have := rowsD_len (g.take i)
        rw [List.length_take] at this
        rw [c.len, List.length_map]
        omega
      clear c0
      refine ⟨T6, _, rfl, .inl (.inl et6), rfl, _, _, rfl, _, _, rfl, rfl, ?_⟩
      generalize upd H2 T6 (.tup [.int (i : Nat), oV o]) = H3 at c et6 ⊢
      refine ⟨_, rfl, Nat.zero_le _, fun n0 hn0 => ?_⟩
      have S9 := same_new (o := .lst []) hn0
      have c9 := c.keep S9
      rcases List.eq_nil_or_concat (rowsD (g.take i)) with e | ⟨rs, r, e⟩
      · rw [e] at c9 ⊢
        have er : rows = [] := List.eq_nil_of_length_eq_zero (by rw [c9.len]; rfl)
        subst er
        refine ⟨.list [], .list [], .lst (.inl (.inl c9.at_)) .nil, .lst (.inl (.inl upd_same)) .nil, by decide +kernel, by decide +kernel, _, rfl, ite2 (fun z => absurd z (by decide)) fun _ => ?_⟩
        refine ⟨.ref k, rfl, .inl ⟨rfl, _, .inl (.inl c9.at_)⟩, _, rfl, _, rfl, by show 3 ≤ sizeLine; decide, fun t ht => ?_⟩
        have c2 := c9.keep (same_new (o := .tup [.int (i : Nat), oV o, .int 1]) ht)
        refine ⟨k, _, _, rfl, rfl, c2.at_, by show 0 < sizeLine; decide, _, _, _, _, _, _, [.ref t], rfl, ?_⟩
        have nt : ¬ Plus S k t := (c9.occ ho).free ht
        exact c2.step (At.mkRow (r := ((i : Nat), o, 1)) nt upd_same)
      · rw [List.concat_eq_append] at e
        rw [e] at c9 ⊢
        have dpr : Dp K (upd H3 n0 (.lst [])) (.ref k) (.list ((rs ++ [r]).map rwD)) := At.dp _ _ (.lst (p := fun _ => False) (xs := rows) (fun z => z) c9.at_ (AtAll.weak (fun _ z => z.elim) _ _ c9.a))
        have ne : (!PyData.eqv (.list ((rs ++ [r]).map rwD)) (.list [])) = true := by cases rs <;> rfl
        have ca := c9.a
        rw [List.map_append] at ca
        obtain ⟨ys, y, rfl, a1, a2⟩ := AtAll.snoc ca
        obtain ⟨t, rfl, nt, et⟩ := a2.row3
        rw [rw_snoc]
        refine ⟨_, .list [], dpr, .lst (.inl (.inl upd_same)) .nil, shaped_rws _, by decide +kernel, ?_⟩
        rw [ne]
        refine ⟨_, rfl, ite2 (fun _ => ?_) (fun z => absurd (show true = true from rfl) z)⟩
        clear dpr ne
        generalize upd H3 n0 (.lst []) = H4 at S9 c9 ca a1 a2 et ⊢
        refine ⟨_, rfl, _, rfl, k, _, -1, .ref t, rfl, rfl, .inl (.inl c9.at_), atI_last ys _, t, _, rfl, .inl (.inl et), rfl, _, _, rfl, _, _, rfl, _, _, rfl, rfl, ?_⟩
        -- it goes on
        have put : ∀ {H5 : Hp}, Same H4 H5 → ∀ t', H5 t' = none → LcS S H k (ys ++ [.ref t']) ((rs ++ [(r.1, r.2.1, r.2.2 + 1)]).map rwD) (upd (upd H5 t' (.tup [.int r.1, oV r.2.1, .int (r.2.2 + 1)])) k (.lst (ys ++ [.ref t']))) := fun {H5} S5 t' ht' => by
          have c5 := c9.keep S5
          have c2 := c5.keep (same_new (o := .tup [.int r.1, oV r.2.1, .int (r.2.2 + 1)]) ht')
          have nt' : ¬ Plus S k t' := (c5.occ ho).free ht'
          have hd : At (Plus S k) (upd H5 t' (.tup [.int r.1, oV r.2.1, .int (r.2.2 + 1)])) (.ref t') (rwD (r.1, r.2.1, r.2.2 + 1)) := At.mkRow nt' upd_same
          rw [List.map_append]
          exact c2.put (ys := ys ++ [.ref t']) (es := rs.map rwD ++ [rwD (r.1, r.2.1, r.2.2 + 1)]) ((AtAll.same a1 (S5.trans (same_new ht'))).app (.cons hd .nil))
        have new : ∀ {H5 : Hp}, Same H4 H5 → ∀ t', H5 t' = none → LcS S H k (ys ++ [.ref t] ++ [.ref t']) ((rs ++ [r] ++ [(((i : Nat) : Int), o, (1 : Int))]).map rwD) (upd (upd H5 t' (.tup [.int (i : Nat), oV o, .int 1])) k (.lst (ys ++ [.ref t] ++ [.ref t']))) := fun {H5} S5 t' ht' => by
          have c5 := c9.keep S5
          have c2 := c5.keep (same_new (o := .tup [.int (i : Nat), oV o, .int 1]) ht')
          have nt' : ¬ Plus S k t' := (c5.occ ho).free ht'
          rw [List.map_append (l₂ := [(((i : Nat) : Int), o, (1 : Int))])]
          exact c2.step (At.mkRow (r := ((i : Nat), o, 1)) nt' upd_same)
        have lt : (ys ++ [V.ref t]).length < sizeLine := Evl.sz_lt (by omega)
        have ixl : ixN (ys ++ [V.ref t]).length (-1) = some ys.length := by
          have e : ((ys ++ [V.ref t]).length : Nat) = ys.length + 1 := by rw [List.length_append, List.length_singleton]
          unfold ixN
          rw [e]
          split
          · exact absurd ‹_› (by omega)
          · split
            · exact congrArg some (by omega)
            · exact absurd ‹_› (by omega)
        have setl : ∀ t', (ys ++ [V.ref t]).set ys.length (.ref t') = ys ++ [.ref t'] := fun t' => by simp
        clear et6
        obtain ⟨r1, r2, r3⟩ := r
        cases r2 with
        | none =>
          cases o with
          | none =>
            rw [show goOn (r1, none, r3) none = true from rfl, if_pos (show true = true from rfl)]
            refine ⟨_, rfl, rfl, _, rfl, ite2 (fun _ => ⟨_, rfl, rfl, ?_⟩) (fun z => absurd (decide_eq_true rfl) z)⟩
            refine ⟨_, rfl, _, rfl, ite2 (fun _ => ite2 (fun _ => ?_) (fun z => absurd (show true = true from rfl) z)) (fun z => absurd (decide_eq_true rfl) z)⟩
            refine ⟨_, rfl, _, rfl, _, rfl, _, 1, rfl, rfl, by show 3 ≤ sizeLine; decide, fun t' ht' => ?_⟩
            refine ⟨_, rfl, _, rfl, k, ys ++ [.ref t], -1, ys.length, rfl, rfl, (same_new ht') _ _ c9.at_, ixl, _, _, _, _, _, _, ys ++ [.ref t'], rfl, ?_⟩
            rw [setl]
            exact put (Same.refl _) t' ht'
          | some j =>
            rw [show goOn (r1, none, r3) (some j) = false from rfl, if_neg Bool.false_ne_true]
            refine ⟨_, rfl, rfl, _, rfl, ite2 (fun _ => ⟨_, rfl, rfl, ?_⟩) (fun z => absurd (decide_eq_true rfl) z)⟩
            refine ⟨_, rfl, _, rfl, ite2 (fun z => absurd (of_decide_eq_true z) (by intro h; cases h)) (fun _ => ?_)⟩
            refine ⟨_, rfl, rfl, _, rfl, ite2 (fun z => absurd z (by simp [oV])) (fun _ => ite2 (fun z => absurd z Bool.false_ne_true) fun _ => ?_)⟩
            refine ⟨.ref k, rfl, .inl ⟨rfl, _, .inl (.inl c9.at_)⟩, _, rfl, _, rfl, by show 3 ≤ sizeLine; decide, fun t' ht' => ?_⟩
            exact ⟨k, _, _, rfl, rfl, (same_new ht') _ _ c9.at_, lt, _, _, _, _, _, _, ys ++ [.ref t] ++ [.ref t'], rfl, new (Same.refl _) t' ht'⟩
        | some a =>
          cases o with
          | none =>
            rw [show goOn (r1, some a, r3) none = false from rfl, if_neg Bool.false_ne_true]
            refine ⟨_, rfl, rfl, _, rfl, ite2 (fun z => absurd (of_decide_eq_true z) (by intro h; cases h)) (fun _ => ?_)⟩
            refine ⟨_, rfl, _, rfl, ite2 (fun z => absurd z Bool.false_ne_true) (fun _ => ?_)⟩
            refine ⟨_, rfl, rfl, _, rfl, ite2 (fun _ => ?_) (fun z => absurd (by rfl) z)⟩
            refine ⟨_, rfl, rfl, _, rfl, ite2 (fun z => absurd z (by simp [oV])) (fun _ => ite2 (fun z => absurd z Bool.false_ne_true) fun _ => ?_)⟩
            refine ⟨.ref k, rfl, .inl ⟨rfl, _, .inl (.inl c9.at_)⟩, _, rfl, _, rfl, by show 3 ≤ sizeLine; decide, fun t' ht' => ?_⟩
            exact ⟨k, _, _, rfl, rfl, (same_new ht') _ _ c9.at_, lt, _, _, _, _, _, _, ys ++ [.ref t] ++ [.ref t'], rfl, new (Same.refl _) t' ht'⟩
          | some j =>
            refine ⟨_, rfl, rfl, _, rfl, ite2 (fun z => absurd (of_decide_eq_true z) (by intro h; cases h)) (fun _ => ?_)⟩
            refine ⟨_, rfl, _, rfl, ite2 (fun z => absurd z Bool.false_ne_true) (fun _ => ?_)⟩
            refine ⟨_, rfl, rfl, _, rfl, ite2 (fun _ => ?_) (fun z => absurd (by rfl) z)⟩
            refine ⟨_, rfl, rfl, _, rfl, ite2 (fun _ => ?_) (fun z => absurd (by rfl) z)⟩
            refine ⟨_, rfl, _, rfl, _, rfl, a, r3, rfl, rfl, rfl, _, rfl, ?_⟩
            by_cases e3 : j = a + r3
            · rw [show goOn (r1, some a, r3) (some j) = true by show decide (some j = some (a + r3)) = true; rw [e3]; exact decide_eq_true rfl, if_pos (show true = true from rfl)]
              refine ite2 (fun _ => ?_) (fun z => absurd (decide_eq_true (by rw [e3]; rfl)) z)
              refine ⟨_, rfl, _, rfl, _, rfl, _, 1, rfl, rfl, by show 3 ≤ sizeLine; decide, fun t' ht' => ?_⟩
              refine ⟨_, rfl, _, rfl, k, ys ++ [.ref t], -1, ys.length, rfl, rfl, (same_new ht') _ _ c9.at_, ixl, _, _, _, _, _, _, ys ++ [.ref t'], rfl, ?_⟩
              rw [setl]
              exact put (Same.refl _) t' ht'
            · rw [show goOn (r1, some a, r3) (some j) = false by show decide (some j = some (a + r3)) = false; exact decide_eq_false (fun z => e3 (Option.some.inj z)), if_neg Bool.false_ne_true]
              refine ite2 (fun z => absurd (V.int.inj (of_decide_eq_true z)) e3) (fun _ => ?_)
              refine ⟨.ref k, rfl, .inl ⟨rfl, _, .inl (.inl c9.at_)⟩, _, rfl, _, rfl, by show 3 ≤ sizeLine; decide, fun t' ht' => ?_⟩
              exact ⟨k, _, _, rfl, rfl, (same_new ht') _ _ c9.at_, lt, _, _, _, _, _, _, ys ++ [.ref t] ++ [.ref t'], rfl, new (Same.refl _) t' ht'⟩
    · rintro σ H2 ⟨t2, t3, t4, t5, t6, t7, rows, rfl, c⟩
      rw [List.length_map, List.take_length] at c
      exact ⟨.ref k, rfl, q k rows H2 c.s hk c.at_ c.done⟩
end
end My
set_option Elab.async false
set_option linter.all false
set_option maxRecDepth 100000
set_option maxHeartbeats 4000000
namespace My
open PySem PySem.Spec PyProof.Rows L2
/-! Y4: shows_rows of any data. -/
/-- rows of a leading -/
abbrev rowsLD (L1 L2 : List Int) : PyData := .list ((rowsD (goD L1 L2)).map rwD)
def sp_shows (CL C : Addr) : Sp := fun vs H Q _ => ∃ (S : Av) (e1 e2 : Addr) (v : V) (B1 B2 : Bks) (L1 L2 : List Int) (D : PyData), vs = [.ref e1, .ref e2, v] ∧ Occ S H ∧ EdAt S H C e1 B1 L1 ∧ EdAt S H C e2 B2 L2 ∧ EdOk B1 L1 ∧ EdOk B2 L2 ∧ At S H v D ∧ SeqAt.shaped D = true ∧
  ∀ H', Same H H' → Q (.bl (alB D (rowsLD L1 L2))) H'
/-- equal to rows: a list of three things each -/
theorem eqv_row {d : PyData} {r : Rw3} (h : PyData.eqv d (rwD r) = true) : ∃ a b c, d = .tuple [a, b, c] := by
  cases d with
  | tuple ds =>
    match ds with
    | [a, b, c] => exact ⟨a, b, c, rfl⟩
    | [] =>
      have h : false = true := h
      cases h
    | [a] =>
      have e : (PyData.eqv a (.int r.1) && false) = true := h
      rw [Bool.and_false] at e
      cases e
    | [a, b] =>
      have e : (PyData.eqv a (.int r.1) && (PyData.eqv b (oD r.2.1) && false)) = true := h
      rw [Bool.and_false, Bool.and_false] at e
      cases e
    | a :: b :: c :: d :: t =>
      have e : (PyData.eqv a (.int r.1) && (PyData.eqv b (oD r.2.1) && (PyData.eqv c (.int r.2.2) && false))) = true := h
      rw [Bool.and_false, Bool.and_false, Bool.and_false] at e
      cases e
  | none => cases h
  | bool b => cases h
  | int b => cases h
  | str b => cases h
  | list b => cases h
  | dict b => cases h
theorem eqv_rows : ∀ {ds : List PyData} {R : List Rw3}, PyData.eqvAll ds (R.map rwD) = true → ds.length = R.length ∧ ∀ d ∈ ds, ∃ a b c, d = .tuple [a, b, c]
  | [], [], _ => ⟨rfl, fun d h => absurd h List.not_mem_nil⟩
  | d :: ds, r :: R, h => by
    have h : (PyData.eqv d (rwD r) && PyData.eqvAll ds (R.map rwD)) = true := h
    obtain ⟨h1, h2⟩ := Bool.and_eq_true_iff.mp h
    obtain ⟨l, k⟩ := eqv_rows h2
    exact ⟨congrArg Nat.succ l, fun x hx => (List.mem_cons.mp hx).elim (fun e => e ▸ eqv_row h1) (k x)⟩
  | [], _ :: _, h => absurd h (by simp [PyData.eqvAll])
  | _ :: _, [], h => absurd h (by simp [PyData.eqvAll])
/-- whether a bool is among the items of these rows, row by row -/
def bools (ds : List PyData) : List Bool := ds.flatMap fun d => match d with
  | .tuple es => es.map isB
  | _ => []
theorem bools_any : ∀ {ds : List PyData}, (∀ d ∈ ds, ∃ a b c, d = .tuple [a, b, c]) → (bools ds).any id = ds.any hasB
  | [], _ => rfl
  | d :: ds, h => by
    obtain ⟨a, b, c, rfl⟩ := h d List.mem_cons_self
    have ih := bools_any fun x hx => h x (List.mem_cons_of_mem _ hx)
    show (isB a || (isB b || (isB c || (bools ds).any id))) = ((isB a || (isB b || (isB c || false))) || ds.any hasB)
    rw [ih, Bool.or_false, Bool.or_assoc, Bool.or_assoc]
section
variable {P : Program} {w : World} {K : PySem.W.Frag} {mg : Str → Option Value} {base : Heap}
theorem isi_bool {S : Av} {H : Hp} {v : V} {D : PyData} (h : At S H v D) {Q : VK} (q : Q (.bl (isB D)) H) : RB K [v, .ty "bool"] H Q := by
  cases D with
  | none => exact isi_b (b := false) (tyF h) (show kitB "NoneType" "bool" = some false by decide +kernel) q
  | bool b => exact isi_b (b := true) (tyF h) (show kitB "bool" "bool" = some true by decide +kernel) q
  | int b => exact isi_b (b := false) (tyF h) (show kitB "int" "bool" = some false by decide +kernel) q
  | str b => exact isi_b (b := false) (tyF h) (show kitB "str" "bool" = some false by decide +kernel) q
  | list b => exact isi_b (b := false) (tyF h) (show kitB "list" "bool" = some false by decide +kernel) q
  | tuple b => exact isi_b (b := false) (tyF h) (show kitB "tuple" "bool" = some false by decide +kernel) q
  | dict b => cases h
theorem ok_shows {CL C : Addr} (T : Txt K mg) (c_Leading : C8.Mak P w K mg base 5 "Leading" CL (sp_initL CL C) []) (m_rows : C8.Met P w K mg base 2 CL "rows" (sp_ldRows CL) []) (D : Df K mg "shows_rows" s_shows_rows ["one", "other", "thing"]) : Cl P w K mg base 7 "shows_rows" ["one", "other", "thing"] (sp_shows CL C) := by
  refine ok_of D sc_shows_rows (fun vs H Q E h => ?_) (fun f cdv A outer s H vs Q E hr h => ?_)
  · obtain ⟨_, _, _, _, _, _, _, _, _, rfl, _⟩ := h
    rfl
  · obtain ⟨S, e1, e2, v, B1, B2, L1, L2, D, rfl, ho, a1, a2, k1, k2, av, sh, q⟩ := h
    refine ⟨_, (pss_cons (ps_set (i := 3) sc_shows_rows.nd rfl (.inl rfl) (C8.pe_mt0 m_rows hr (by decide) (C8.pe_mk c_Leading hr (by decide) (by rfl) (pa_cons (pv 0) (pa_cons (pv 1) pa_nil)))))
      (pss_cons (ps_if (PW.pt (pw_or (pt_not (pt_val (pe_callB call_isb (by rfl) T.b_isinstance (by decide +kernel) (pa_cons (pv 2) (pa_cons (pe_bltn (v := .ty "list") (u := .type "list") (by rfl) T.b_list (by decide +kernel) rfl) pa_nil))))) (pw_or1 (pt_cmpR (op_neD hr.units) (pv 2) (pv 3) (nomark _))))) (pss_one (ps_ret pe_bl)) pss_nil)
      (pss_one (ps_ret (pe_not (pe_callB (cr_any rfl) (by rfl) T.b_any (by decide +kernel) (pa_cons (pe_lc2 (own := [("row", 4), ("number", 5)]) (vs1 := [5]) rfl sc_shows_rows.nd (pi_list (pv 2)) (blkOk_by (own := [("row", 4), ("number", 5)]) (N := N_shows_rows) (sc := defScope s_shows_rows) (by decide +kernel)) (by decide) (fun _ _ _ _ _ => (pg_name (i := 4) sc_shows_rows.nd rfl (.inl rfl))) (fun _ _ _ _ _ => pts_nil) (fun _ _ _ _ _ => (pi_tupK (K := K) rfl (pv 4))) (fun _ _ _ _ _ => (pg_name (i := 5) sc_shows_rows.nd rfl (.inl rfl))) (fun _ _ _ _ _ => pts_nil) (fun _ _ _ _ _ => (pe_callB (call_isbK (K := K) rfl) (by rfl) T.b_isinstance (by decide +kernel) (pa_cons (pv 5) (pa_cons (pe_bltn (v := .ty "bool") (u := .type "bool") (by rfl) T.b_bool (by decide +kernel) rfl) pa_nil))))) pa_nil))))))), ?_⟩
    refine ⟨_, rfl, _, rfl, fun x dx hx hdx ne => mk_ld ho a1 a2 k1 k2 hx hdx ne fun H1 S1 ld => ?_⟩
    obtain ⟨w1, hw1⟩ := id ld
    refine ⟨rfl, x, _, _, rfl, hw1.at_, rfl, S, x, e1, e2, L1, L2, rfl, ld, fun rl rows hrl ar => ?_⟩
    have S2 := S1.trans (same_new (o := .lst rows) hrl)
    have er : upd H1 rl (.lst rows) rl = some (.lst rows) := upd_same
    have ar2 := AtAll.same ar (same_new (o := .lst rows) hrl)
    generalize upd H1 rl (.lst rows) = H2 at S2 er ar2 ⊢
    have av2 := At.same av S2
    have dpR : Dp K H2 (.ref rl) (rowsLD L1 L2) := .lst (.inl (.inl er)) (AtAll.dp _ _ ar2)
    have q0 : alB D (rowsLD L1 L2) = false → Q (.bl false) H2 := fun e => by
      have := q H2 S2
      rw [e] at this
      exact this
    rw [← shB_al] at q q0
    have nol : ∀ t, tyD D = t → kitB t "list" = some false → shB D (rowsD (goD L1 L2)) = false → _ := fun t e1 e2 e3 => True.intro
    cases D with
    | list ds =>
      cases av2 with
      | @lst a xs _ na ea kx =>
      refine ⟨_, rfl, isi_b (b := true) (.lst ea) (by decide +kernel) ⟨_, rfl, ite2 (fun z => absurd z (by decide)) fun _ => ?_⟩⟩
      refine ⟨_, rfl, _, rfl, .list ds, _, .lst (.inl (.inl ea)) (AtAll.dp _ _ kx), dpR, sh, shaped_rws _, _, rfl, ite2 (fun z => ?_) fun z => ?_⟩
      · have z : (!PyData.eqvAll ds ((rowsD (goD L1 L2)).map rwD)) = true := z
        refine q0 ?_
        show (PyData.eqvAll ds ((rowsD (goD L1 L2)).map rwD) && !(ds.any hasB)) = false
        rw [(Bool.not_eq_true' _).mp z, Bool.false_and]
      · have z : PyData.eqvAll ds ((rowsD (goD L1 L2)).map rwD) = true := by
          have z : ¬ (!PyData.eqvAll ds ((rowsD (goD L1 L2)).map rwD)) = true := z
          cases h : PyData.eqvAll ds ((rowsD (goD L1 L2)).map rwD) with
          | true => rfl
          | false => rw [h] at z; exact absurd rfl z
        obtain ⟨ll, tr⟩ := eqv_rows z
        have lx := kx.len
        have lr : ds.length ≤ 400 := by
          have := rowsD_len (goD L1 L2)
          rw [go_len, k1.ll] at this
          have := k1.l4
          omega
        have qf : ∀ H', Same H2 H' → Q (.bl (!(bools ds).any id)) H' := fun H' S' => by
          have := q H' (S2.trans S')
          rw [show shB (.list ds) (rowsD (goD L1 L2)) = (PyData.eqvAll ds ((rowsD (goD L1 L2)).map rwD) && !(ds.any hasB)) from rfl, z, Bool.true_and, ← bools_any tr] at this
          exact this
        have lb : ∀ i, (bools (ds.take i)).length ≤ 3 * i := fun i => by
          have := flat_le (fun d : PyData => match d with | .tuple es => es.map isB | _ => []) 3 (ds.take i) fun d hd => by
            obtain ⟨a, b, c, rfl⟩ := tr d (List.mem_of_mem_take hd)
            exact Nat.le_refl _
          rw [List.length_take] at this
          have h1 : min i ds.length ≤ i := Nat.min_le_left ..
          have h2 : (bools (ds.take i)).length ≤ 3 * min i ds.length := this
          omega
        refine ⟨.ref a, rfl, a, rfl, ⟨_, .inl (.inl ea)⟩, fun De hDe => ?_⟩
        refine lc2_it (walk_list (xs := xs)) (fun i H' => Same H2 H' ∧ H' De = some (.lst ((bools (ds.take i)).map V.bl))) ⟨same_new hDe, upd_same⟩ (fun i H' _ ⟨z, _⟩ => .inl (.inl (z _ _ ea))) ?_ ?_
        · rintro i y H3 H3' hi ⟨S3, hD3⟩ ⟨rfl, hy⟩
          obtain ⟨d, hd, hv⟩ := AtAll.get kx hy
          obtain ⟨da, db, dc, rfl⟩ := tr d (List.mem_of_getElem? hd)
          cases hv with
          | @tup t zs _ nt et kz =>
          have lz : zs.length = 3 := kz.len
          refine ⟨rfl, .ref t, rfl, t, rfl, ⟨_, .inl (.inl (S3 _ _ et))⟩, ?_⟩
          refine turn1_it (walk_tup (xs := zs)) (fun j H' => Same H2 H' ∧ H' De = some (.lst ((bools (ds.take i) ++ ([da, db, dc].take j).map isB).map V.bl))) ?_ ?_ ?_ ?_
          · refine ⟨S3, ?_⟩
            rw [List.take_zero, List.map_nil, List.append_nil]
            exact hD3
          · exact fun j H' _ ⟨z, _⟩ => .inl (.inl (z _ _ et))
          · rintro j u H4 H4' hj ⟨S4, hD4⟩ ⟨rfl, hu⟩
            obtain ⟨d', hd', hv'⟩ := AtAll.get kz hu
            have hv2 := At.same hv' S4
            refine ⟨rfl, _, rfl, isi_bool hv2 ⟨_, hD4, ?_, ?_, ?_⟩⟩
            · have := lb i
              have hi' : i < ds.length := by omega
              rw [List.length_map, List.length_append, List.length_map, List.length_take]
              exact Evl.sz_lt (by show _ + min j 3 < _; omega)
            · exact fun q o e => by
                rw [upd_ne (ne_of_none e hDe)]
                exact S4 q o e
            · rw [upd_same, List.take_add_one, hd', List.map_append, List.map_append, List.map_append, List.map_append, List.append_assoc]
              rfl
          · rintro H4 ⟨S4, hD4⟩
            refine ⟨S4, ?_⟩
            rw [hD4, List.take_add_one, hd, lz]
            unfold bools
            rw [List.flatMap_append]
            rfl
        · rintro H3 ⟨S3, hD3⟩
          rw [lx, List.take_length] at hD3
          refine ⟨De, _, rfl, .inl (.inl hD3), ?_⟩
          exact ⟨_, rfl, qf _ S3⟩
    | tuple b => exact ⟨_, rfl, isi_b (b := false) (tyF av2) (show kitB "tuple" "list" = some false by decide +kernel) ⟨_, rfl, ite2 (fun _ => q0 rfl) fun z => absurd (show (!false) = true from rfl) z⟩⟩
    | none => exact ⟨_, rfl, isi_b (b := false) (tyF av2) (show kitB "NoneType" "list" = some false by decide +kernel) ⟨_, rfl, ite2 (fun _ => q0 rfl) fun z => absurd (show (!false) = true from rfl) z⟩⟩
    | bool b => exact ⟨_, rfl, isi_b (b := false) (tyF av2) (show kitB "bool" "list" = some false by decide +kernel) ⟨_, rfl, ite2 (fun _ => q0 rfl) fun z => absurd (show (!false) = true from rfl) z⟩⟩
    | int b => exact ⟨_, rfl, isi_b (b := false) (tyF av2) (show kitB "int" "list" = some false by decide +kernel) ⟨_, rfl, ite2 (fun _ => q0 rfl) fun z => absurd (show (!false) = true from rfl) z⟩⟩
    | str b => exact ⟨_, rfl, isi_b (b := false) (tyF av2) (show kitB "str" "list" = some false by decide +kernel) ⟨_, rfl, ite2 (fun _ => q0 rfl) fun z => absurd (show (!false) = true from rfl) z⟩⟩
    | dict b => cases av2
end
end My
set_option Elab.async false
set_option linter.all false
set_option maxRecDepth 100000
set_option maxHeartbeats 4000000
namespace My
open PySem PySem.Spec PyProof.Rows L2
/-! Y4x: shows_rows that refuses. -/
/-- asking for a leading from v1 to v2 is refused with NoEdition(y) -/
def LdBad (S : Av) (H : Hp) (C : Addr) (v1 v2 y : V) : Prop := (y = v1 ∧ ∃ D, At S H v1 D) ∨ (y = v2 ∧ ∃ (e : Addr) (B : Bks) (L : List Int) (D : PyData), v1 = .ref e ∧ EdAt S H C e B L ∧ At S H v2 D)
theorem LdBad.same {S : Av} {H H' : Hp} {C : Addr} {v1 v2 y : V} (h : LdBad S H C v1 v2 y) (z : Same H H') : LdBad S H' C v1 v2 y := by
  rcases h with ⟨e, D, a⟩ | ⟨e, ed, B, L, D, e2, k, a⟩
  · exact .inl ⟨e, D, a.same z⟩
  · exact .inr ⟨e, ed, B, L, D, e2, k.bt (Same.btS z), a.same z⟩
def sp_showsX (C CE : Addr) : Sp := fun vs H Q E => ∃ (S : Av) (v1 v2 v3 y : V), vs = [v1, v2, v3] ∧ LdBad S H C v1 v2 y ∧ ∀ dd H', Same H H' → H' dd = some (.xd [("found", y)]) → E (.ref CE) (some dd) H'
section
variable {P : Program} {w : World} {K : PySem.W.Frag} {mg : Str → Option Value} {base : Heap}
theorem ok_showsX {CL C CE : Addr} (T : Txt K mg) (cx_Leading : MkX P w K mg base 6 "Leading" CL (sp_initLB CL C CE) []) (m_rows : C8.Met P w K mg base 2 CL "rows" (sp_ldRows CL) []) (D : Df K mg "shows_rows" s_shows_rows ["one", "other", "thing"]) : ClX P w K mg base 8 "shows_rows" ["one", "other", "thing"] (sp_showsX C CE) := by
  refine okX_of D sc_shows_rows (fun vs H Q E h => ?_) (fun f cdv A outer s H vs Q E hr h => ?_)
  · obtain ⟨_, _, _, _, _, rfl, _⟩ := h
    rfl
  · obtain ⟨S, v1, v2, v3, y, rfl, b, q⟩ := h
    refine ⟨_, (pss_cons (ps_set (i := 3) sc_shows_rows.nd rfl (.inl rfl) (C8.pe_mt0 m_rows hr (by decide) (pe_mkX cx_Leading hr (by decide) (by rfl) (takes_of rfl rfl rfl rfl) (pa_cons (pv 0) (pa_cons (pv 1) pa_nil)))))
      (pss_cons (ps_if (PW.pt (pw_or (pt_not (pt_val (pe_callB call_isb (by rfl) T.b_isinstance (by decide +kernel) (pa_cons (pv 2) (pa_cons (pe_bltn (v := .ty "list") (u := .type "list") (by rfl) T.b_list (by decide +kernel) rfl) pa_nil))))) (pw_or1 (pt_cmpR (op_neD hr.units) (pv 2) (pv 3) (nomark _))))) (pss_one (ps_ret pe_bl)) pss_nil)
      (pss_one (ps_ret (pe_not (pe_callB (cr_any rfl) (by rfl) T.b_any (by decide +kernel) (pa_cons (pe_lc2 (own := [("row", 4), ("number", 5)]) (vs1 := [5]) rfl sc_shows_rows.nd (pi_list (pv 2)) (blkOk_by (own := [("row", 4), ("number", 5)]) (N := N_shows_rows) (sc := defScope s_shows_rows) (by decide +kernel)) (by decide) (fun _ _ _ _ _ => (pg_name (i := 4) sc_shows_rows.nd rfl (.inl rfl))) (fun _ _ _ _ _ => pts_nil) (fun _ _ _ _ _ => (pi_tupK (K := K) rfl (pv 4))) (fun _ _ _ _ _ => (pg_name (i := 5) sc_shows_rows.nd rfl (.inl rfl))) (fun _ _ _ _ _ => pts_nil) (fun _ _ _ _ _ => (pe_callB (call_isbK (K := K) rfl) (by rfl) T.b_isinstance (by decide +kernel) (pa_cons (pv 5) (pa_cons (pe_bltn (v := .ty "bool") (u := .type "bool") (by rfl) T.b_bool (by decide +kernel) rfl) pa_nil))))) pa_nil))))))), ?_⟩
    refine ⟨_, rfl, _, rfl, fun x dx hx hdx ne => .inr ?_⟩
    have S8 : Same H (upd (upd H dx (.own x)) x (.ins CL dx [])) := (same_new hdx).trans (same_new (by rw [upd_ne ne.symm]; exact hx))
    exact ⟨S, x, v1, v2, y, rfl, b.same S8, fun dd H' S1 e => q dd H' (S8.trans S1) e⟩
end
end My
set_option Elab.async false
set_option linter.all false
set_option maxRecDepth 100000
set_option maxHeartbeats 4000000
namespace My
open PySem PySem.Spec PyProof.Rows L2
/-! X7: the law's asking: what is refused, and by what. -/
/-- asking for Places(ov, hv) tells k and y -/
def Tells (S : Av) (H : Hp) (C : Addr) (ov hv : V) (k : Str) (y : V) : Prop :=
  (k = "none" ∧ y = .non ∧ ∃ (e : Addr) (B : Bks) (L : List Int) (o : Option (List (Int × Int))), ov = .ref e ∧ EdAt S H C e B L ∧ (plOf B).length ≤ 400 ∧ LnIn H hv o ∧ okPrs (plOf B).length (prsO o)) ∨
  (k = "edition" ∧ y = ov ∧ ∃ D, At S H ov D) ∨
  (k = "places" ∧ ∃ (e : Addr) (B : Bks) (L : List Int) (D : PyData), ov = .ref e ∧ EdAt S H C e B L ∧ At S H hv D ∧ KpBad H (plOf B).length hv D y)
theorem Rw.same' {H H' : Hp} (z : Same H H') : ∀ (a : Addr) (xs : List V), Rw H a xs → Rw H' a xs := fun _ _ r => r.same z
theorem Tells.same {S : Av} {H H' : Hp} {C : Addr} {ov hv y : V} {k : Str} (h : Tells S H C ov hv k y) (z : Same H H') : Tells S H' C ov hv k y := by
  rcases h with ⟨a, b, e, B, L, o, c, d, l, f, g⟩ | ⟨a, b, D, c⟩ | ⟨a, e, B, L, D, c, d, f, g⟩
  · exact .inl ⟨a, b, e, B, L, o, c, d.bt (Same.btS z), l, f.same z, g⟩
  · exact .inr (.inl ⟨a, b, D, c.same z⟩)
  · exact .inr (.inr ⟨a, e, B, L, D, c, d.bt (Same.btS z), f.same z, g.bt (Rw.same' z)⟩)
def sp_initB (CP C CE CN : Addr) : Sp := fun vs H Q E => sp_initP CP C vs H Q E ∨ sp_initX CP C CE CN vs H Q E
/-- a made thing's init, as Tells says -/
theorem Tells.init {S : Av} {H : Hp} {CP C CE CN x dx : Addr} {ov hv y : V} {k : Str} {Q : VK} {E : XK} (h : Tells S H C ov hv k y) (ho : Occ S H) (hx : H x = none) (hdx : H dx = none) (ne : dx ≠ x)
    (q0 : k = "none" → y = .non → ∀ H', Same H H' → Q .non H')
    (q1 : k = "edition" → y = ov → ∀ dd H', Same H H' → H' dd = some (.xd [("found", ov)]) → E (.ref CE) (some dd) H')
    (q2 : k = "places" → ∀ dd H', Same H H' → H' dd = some (.xd [("found", y)]) → E (.ref CN) (some dd) H') :
    sp_initB CP C CE CN [.ref x, ov, hv] (upd (upd H dx (.own x)) x (.ins CP dx [])) Q E := by
  have S1 : Same H (upd (upd H dx (.own x)) x (.ins CP dx [])) := (same_new (o := .own x) hdx).trans (same_new (o := .ins CP dx []) (by rw [upd_ne ne.symm]; exact hx))
  have nx : ¬ S x := ho.free hx
  have ho1 : Occ S (upd (upd H dx (.own x)) x (.ins CP dx [])) := ho.same S1
  have ex : upd (upd H dx (.own x)) x (.ins CP dx []) x = some (.ins CP dx []) := upd_same
  have pl : ∀ {v : V} {D : PyData}, At S H v D → At (Plus S x) (upd (upd H dx (.own x)) x (.ins CP dx [])) v D := fun a => (a.plusN hx).same S1
  have pe : ∀ {e : Addr} {B : Bks} {L : List Int}, EdAt S H C e B L → EdAt (Plus S x) (upd (upd H dx (.own x)) x (.ins CP dx [])) C e B L := fun a => (a.plusN hx).bt (Same.btS S1)
  have back : ∀ {H'}, Bt x (upd (upd H dx (.own x)) x (.ins CP dx [])) H' → Same H H' := fun b p o e => b p o (ne_of_none e hx) (S1 p o e)
  rcases h with ⟨a, b, e, B, L, o, rfl, d, l, f, g⟩ | ⟨a, b, D, c⟩ | ⟨a, e, B, L, D, rfl, d, f, g⟩
  · exact .inl ⟨S, x, dx, e, hv, B, L, o, rfl, nx, ho1, ex, pe d, l, f.same S1, g, fun H' N bt _ _ => q0 a b H' (back bt)⟩
  · exact .inr (.inl ⟨S, x, ov, hv, D, rfl, c.same S1, fun dd H' S2 e => q1 a b dd H' (S1.trans S2) e⟩)
  · exact .inr (.inr ⟨S, x, dx, e, hv, y, B, L, D, rfl, ex, pe d, pl f, g.bt (Rw.same' S1), fun dd H' bt e => q2 a dd H' (back bt) e⟩)
def sp_madeL (C : Addr) : Sp := fun vs H Q _ => ∃ (S : Av) (ov hv y : V) (w : Int) (k : Str), vs = [ov, hv, .int w] ∧ Occ S H ∧ Tells S H C ov hv k y ∧ ∀ t H', Same H H' → H t = none → H' t = some (.tup [.str k, y]) → Q (.ref t) H'
def sp_famL (C : Addr) : Sp := fun vs H Q _ => ∃ (S : Av) (ov hv y : V) (k : Str), vs = [.str k, ov, hv] ∧ Occ S H ∧ Tells S H C ov hv k y ∧ ∀ H', Same H H' → Q (.bl true) H'
section
variable {P : Program} {w : World} {K : PySem.W.Frag} {mg : Str → Option Value} {base : Heap}
/-- what isinstance says of the errors here -/
structure FamK (K : PySem.W.Frag) (C CB CL CE CN : Addr) : Prop where
  xi : ExI K C
  mB : PySem.W.exmOne K (.ref C) (.ref CB) = some true
  kL : PySem.W.kitOne K (.ref C) (.ref CL) = some false
  kV : PySem.W.kitOne K (.ref C) (.type "ValueError") = some true
  kE : PySem.W.kitOne K (.ref C) (.ref CE) = some (decide (C = CE))
  kN : PySem.W.kitOne K (.ref C) (.ref CN) = some (decide (C = CN))
end
end My
set_option Elab.async false
set_option linter.all false
set_option maxRecDepth 100000
set_option maxHeartbeats 4000000
namespace My
open PySem PySem.Spec PyProof.Rows L2
/-! X8: bad pairs. -/
/-- what has grown since H0: vs stand for ds, all new -/
structure Gr (S : Av) (H0 H : Hp) (vs : List V) (ds : List PyData) : Prop where
  sm : Same H0 H
  oc : Occ S H
  at_ : AtAll S H vs ds
  fr : ∀ a, V.ref a ∈ vs → H0 a = none
section
variable {S : Av} {H0 H : Hp} {vs us : List V} {ds es : List PyData} {p : Addr} {o : HO}
theorem AtAll.push : ∀ {vs : List V} {ds : List PyData} {v : V} {d : PyData}, AtAll S H vs ds → At S H v d → AtAll S H (vs ++ [v]) (ds ++ [d])
  | _, _, _, _, .nil, h => .cons h .nil
  | _, _, _, _, .cons a b, h => .cons a (b.push h)
theorem Gr.nil (ho : Occ S H) : Gr S H H [] [] := ⟨Same.refl H, ho, .nil, fun a h => absurd h List.not_mem_nil⟩
theorem Gr.skip (g : Gr S H0 H vs ds) (hp : H p = none) : Gr S H0 (upd H p o) vs ds := ⟨g.sm.trans (same_new hp), g.oc.same (same_new hp), AtAll.bt (Same.btS (same_new hp)) _ _ g.at_, g.fr⟩
theorem Gr.got (g : Gr S H0 (upd H p o) vs ds) : upd H p o p = some o := upd_same
theorem Gr.fresh (g : Gr S H0 H vs ds) (hp : H p = none) : H0 p = none := Same.fresh g.sm hp
theorem Gr.tup (g : Gr S H0 H vs ds) (hp : H p = none) (B : AtAll S H us es) : Gr S H0 (upd H p (.tup us)) (vs ++ [.ref p]) (ds ++ [.tuple es]) := by
  have g2 := g.skip (o := .tup us) hp
  refine ⟨g2.sm, g2.oc, g2.at_.push (.tup (g.oc.free hp) upd_same (AtAll.bt (Same.btS (same_new hp)) _ _ B)), fun a h => ?_⟩
  rcases List.mem_append.mp h with h | h
  · exact g.fr a h
  · cases List.mem_singleton.mp h
    exact g.fresh hp
theorem Gr.lst (g : Gr S H0 H vs ds) (hp : H p = none) (B : AtAll S H us es) : Gr S H0 (upd H p (.lst us)) (vs ++ [.ref p]) (ds ++ [.list es]) := by
  have g2 := g.skip (o := .lst us) hp
  refine ⟨g2.sm, g2.oc, g2.at_.push (.lst (g.oc.free hp) upd_same (AtAll.bt (Same.btS (same_new hp)) _ _ B)), fun a h => ?_⟩
  rcases List.mem_append.mp h with h | h
  · exact g.fr a h
  · cases List.mem_singleton.mp h
    exact g.fresh hp
end
def badAll (n : Int) : List PyData := [.tuple [.int 0, .int n], .tuple [.int (-1), .int 0], .list [.int 0, .int 0], .tuple [.int 0], .tuple [.int 0, .int 0, .int 0], .tuple [.bool true, .bool true], .tuple [.int 0, .str "0"], .none, .str "00", .int 0,
  .tuple [.int 0, .none], .tuple [.int n, .int n], .tuple [.int (n - 1), .int (n - 2)], .tuple [.bool false, .int 0], .tuple [.tuple [.int 0, .int 0], .int 0], .tuple [], .tuple [.int (10 ^ (29 : Int).toNat), .int (10 ^ (29 : Int).toNat)]]
theorem badAll_fit {n : Int} (h0 : 1 ≤ n) (h1 : n ≤ 400) : ∀ D ∈ badAll n, fitD n D = false := by
  intro D hD
  have a1 : decide (n ≤ n - 1) = false := decide_eq_false (by omega)
  have a2 : decide (n - 1 ≤ n - 2) = false := decide_eq_false (by omega)
  have a3 : decide ((10 ^ (29 : Int).toNat : Int) ≤ n - 1) = false := decide_eq_false (by
    have : (10 ^ (29 : Int).toNat : Int) = 100000000000000000000000000000 := by decide
    omega)
  unfold badAll at hD
  simp only [List.mem_cons, List.not_mem_nil, or_false] at hD
  rcases hD with rfl | rfl | rfl | rfl | rfl | rfl | rfl | rfl | rfl | rfl | rfl | rfl | rfl | rfl | rfl | rfl | rfl <;> simp [fitD, wholeD, intD, a1, a2, a3] <;> omega
theorem badAll_dpt {n : Int} : ∀ D ∈ badAll n, Dpt 3 D := by
  have di : ∀ {k : Nat} (i : Int), Dpt (k + 1) (.int i) := fun i => .inr (.inl ⟨i, rfl⟩)
  have db : ∀ {k : Nat} (i : Bool), Dpt (k + 1) (.bool i) := fun i => .inl (.inl ⟨i, rfl⟩)
  have dn : ∀ {k : Nat}, Dpt (k + 1) .none := .inl (.inr rfl)
  have ds : ∀ {k : Nat} (s : Str), Dpt (k + 1) (.str s) := fun s => .inr (.inr (.inl ⟨s, rfl⟩))
  have dt : ∀ {k : Nat} (es : List PyData), es.length ≤ 1000 → (∀ x ∈ es, Dpt k x) → Dpt (k + 1) (.tuple es) := fun es l h => .inr (.inr (.inr ⟨es, l, h, .inr rfl⟩))
  have dl : ∀ {k : Nat} (es : List PyData), es.length ≤ 1000 → (∀ x ∈ es, Dpt k x) → Dpt (k + 1) (.list es) := fun es l h => .inr (.inr (.inr ⟨es, l, h, .inl rfl⟩))
  have two : ∀ {k : Nat} {a b : PyData}, Dpt k a → Dpt k b → ∀ x ∈ [a, b], Dpt k x := fun ha hb x hx => by
    rcases List.mem_cons.mp hx with rfl | hx
    · exact ha
    · cases List.mem_singleton.mp hx
      exact hb
  intro D hD
  unfold badAll at hD
  simp only [List.mem_cons, List.not_mem_nil, or_false] at hD
  rcases hD with rfl | rfl | rfl | rfl | rfl | rfl | rfl | rfl | rfl | rfl | rfl | rfl | rfl | rfl | rfl | rfl | rfl
  · exact dt _ (by show 2 ≤ 1000; decide) (two (di _) (di _))
  · exact dt _ (by show 2 ≤ 1000; decide) (two (di _) (di _))
  · exact dl _ (by show 2 ≤ 1000; decide) (two (di _) (di _))
  · exact dt _ (by show 1 ≤ 1000; decide) fun x hx => by
      cases List.mem_singleton.mp hx
      exact di _
  · exact dt _ (by show 3 ≤ 1000; decide) fun x hx => by
      simp only [List.mem_cons, List.not_mem_nil, or_false, or_self] at hx
      cases hx
      exact di _
  · exact dt _ (by show 2 ≤ 1000; decide) (two (db _) (db _))
  · exact dt _ (by show 2 ≤ 1000; decide) (two (di _) (ds _))
  · exact dn
  · exact ds _
  · exact di _
  · exact dt _ (by show 2 ≤ 1000; decide) (two (di _) dn)
  · exact dt _ (by show 2 ≤ 1000; decide) (two (di _) (di _))
  · exact dt _ (by show 2 ≤ 1000; decide) (two (di _) (di _))
  · exact dt _ (by show 2 ≤ 1000; decide) (two (db _) (di _))
  · exact dt _ (by show 2 ≤ 1000; decide) (two (dt _ (by show 2 ≤ 1000; decide) (two (di _) (di _))) (di _))
  · exact dt _ (by show 0 ≤ 1000; decide) fun x hx => absurd hx List.not_mem_nil
  · exact dt _ (by show 2 ≤ 1000; decide) (two (di _) (di _))
def xsB (p1 p2 p3 p4 p5 p6 p7 q1 q2 q3 q4 q6 q7 r1 : Addr) : List V := ([.ref p1, .ref p2, .ref p3, .ref p4, .ref p5, .ref p6, .ref p7, .non, .str "00", .int 0] ++ [.ref q1, .ref q2, .ref q3, .ref q4, .ref q6, .ref q7]) ++ [.ref r1]
theorem xsB_at {S : Av} {H : Hp} {n : Int} {p1 p2 p3 p4 p5 p6 p7 q1 q2 q3 q4 q6 q7 r1 : Addr}
    (A : AtAll S H [.ref p1, .ref p2, .ref p3, .ref p4, .ref p5, .ref p6, .ref p7] [.tuple [.int 0, .int n], .tuple [.int (-1), .int 0], .list [.int 0, .int 0], .tuple [.int 0], .tuple [.int 0, .int 0, .int 0], .tuple [.bool true, .bool true], .tuple [.int 0, .str "0"]])
    (B : AtAll S H [.ref q1, .ref q2, .ref q3, .ref q4, .ref q6, .ref q7] [.tuple [.int 0, .none], .tuple [.int n, .int n], .tuple [.int (n - 1), .int (n - 2)], .tuple [.bool false, .int 0], .tuple [.tuple [.int 0, .int 0], .int 0], .tuple []])
    (C : AtAll S H [.ref r1] [.tuple [.int (10 ^ (29 : Int).toNat), .int (10 ^ (29 : Int).toNat)]]) : AtAll S H (xsB p1 p2 p3 p4 p5 p6 p7 q1 q2 q3 q4 q6 q7 r1) (badAll n) := by
  cases A with | cons a1 AA => cases AA with | cons a2 AA => cases AA with | cons a3 AA => cases AA with | cons a4 AA => cases AA with | cons a5 AA => cases AA with | cons a6 AA => cases AA with | cons a7 AA =>
  cases B with | cons b1 AK => cases AK with | cons b2 AK => cases AK with | cons b3 AK => cases AK with | cons b4 AK => cases AK with | cons b6 AK => cases AK with | cons b7 AK =>
  cases C with | cons c1 AJ =>
  exact .cons a1 (.cons a2 (.cons a3 (.cons a4 (.cons a5 (.cons a6 (.cons a7 (.cons .non (.cons (.str _) (.cons (.int _) (.cons b1 (.cons b2 (.cons b3 (.cons b4 (.cons b6 (.cons b7 (.cons c1 .nil))))))))))))))))
/-- a bad pair is made: one of these, new -/
def sp_badP : Sp := fun vs H Q _ => ∃ (S : Av) (c n : Int), vs = [.int c, .int n] ∧ Occ S H ∧ 1 ≤ n ∧ n ≤ 400 ∧ ∀ v D H', Same H H' → D ∈ badAll n → At S H' v D → (∀ a, v = .ref a → H a = none) → Q v H'
section
variable {P : Program} {w : World} {K : PySem.W.Frag} {mg : Str → Option Value} {base : Heap}
end
end My
set_option Elab.async false
set_option linter.all false
set_option maxRecDepth 100000
set_option maxHeartbeats 4000000
/-! S5: xs[a:c] = ys as a target; o.m( *e) of a method of which only its promise is known. -/
namespace My
open PySem PySem.Spec PyProof.Rows L2
section
variable {X : Cx}
/-- o[lo:hi] = a list -/
def gCutB (to : TE) (tl th : TO) : TG := fun v σ H Q => to σ H fun x H1 => tl σ H1 fun lo H2 => th σ H2 fun hi H3 => ∃ (l b : Addr) (xs ys : List V) (a c : Nat), x = .ref l ∧ v = .ref b ∧ lo = some ((a : Nat) : Int) ∧ hi = some ((c : Nat) : Int) ∧ H3 l = some (.lst xs) ∧ H3 b = some (.lst ys) ∧ l ≠ b ∧ a ≤ c ∧ c ≤ xs.length ∧ xs.length + ys.length ≤ sizeLine ∧ Q σ (upd H3 l (.lst (xs.take a ++ ys ++ xs.drop c)))
theorem pg_cutB {o : Expr} {to : TE} {lo hi : Option Expr} {tl th : TO} {p2 pos : Pos} (ho : PE X o to) (hl : PO X lo tl) (hu : PO X hi th)
    (ha : ∀ v, assign (.Subscript o (.Slice lo hi none p2) pos) X.env v = (do
      let ov ← holding [v] (eval o X.env)
      let iv ← holding [v, ov] (eval (.Slice lo hi none p2) X.env)
      standAt pos
      holding [v, ov, iv] (setItem ov iv v)
      release [iv, v, ov] []) := by intro _; rfl) : PG X (.Subscript o (.Slice lo hi none p2) pos) (gCutB to tl th) := by
  refine ⟨fun pins s σ H v u Q I r h => ?_⟩
  rw [ha]
  refine wpAny_bind (wpAny_holding (thn (ho.run pins s σ H _ I h) fun ov s1 ⟨x, H1, I1, r1, q1⟩ => ?_))
  refine wpAny_bind (wpAny_holding (wpAny_Slice (thn (hl.run pins s1 σ H1 _ I1 q1) fun vl s2 ⟨lo', H2, I2, pl, q2⟩ => ?_)))
  refine thn (hu.run pins s2 σ H2 _ I2 q2) fun vu s3 ⟨y, H3, I3, pu, q3⟩ => ?_
  rw [evalPart_none]
  refine wpAny_pure ?_
  obtain ⟨l, b, xs, ys, a, c, rfl, rfl, rfl, rfl, hH, hB, hne, hac, hc, hz, q⟩ := q3
  have I4 : Inv X pins σ H3 { s3 with heap := s3.heap.push { cls := .type "slice", data := .fields #[vl, vu, .none] } } := I3.kept (t' := s3.toks) fun b ob q => Heap.get?_push_of_some _ q
  obtain rfl : ov = Value.ref l := r1
  obtain rfl : u = Value.ref b := r
  obtain ⟨z, its, n, rv, hl, e⟩ := I4.lstM hH
  obtain ⟨z2, its2, n2, rv2, hl2, e2⟩ := I4.lstM hB
  refine wpAny_bind (wpAny_standAt (wpAny_bind (wpAny_holding ?_)))
  refine setItem_slice (a := a) (c := c) e e2 hne (Heap.IsSliceOf.new ..) pl pu hac (by rw [List.size_toArray]; omega) (by rw [List.size_toArray, List.size_toArray]; omega) (wpAny_release ⟨σ, _, I4.lset (its' := its.take a ++ its2 ++ its.drop c) (t' := s3.toks) hH e (splice_eq its its2 a c) (Vals.append (Vals.append (rv.take _) rv2) (rv.drop _)) ?_, q⟩)
  rw [List.length_append, List.length_append, List.length_take, List.length_drop]
  omega
end
/-- a method that may be called with a star -/
def MetB (P : Program) (w : World) (K : PySem.W.Frag) (mg : Str → Option Value) (base : Heap) (k : Nat) (C : Addr) (m : Str) (sp : Sp) : Prop := ∃ g, Cls K C ∧ BMeth K C m g ∧ FnR P w K mg base CX0 k g sp
def tMethSE (K : PySem.W.Frag) (C : Addr) (m : Str) (sp : Sp) (ta te : TE) : TE := fun σ H Q => ta σ H fun x H1 => ∃ a dx fs, x = .ref a ∧ H1 a = some (.ins C dx fs) ∧ fs.lookup m = none ∧
  ∀ g q, H1 q = none → te σ (upd H1 q (.met g a)) fun y H2 => ∃ b vs, y = .ref b ∧ SqT K H2 b vs ∧ H2 q = some (.met g a) ∧ sp (.ref a :: vs) H2 Q E0
theorem pe_methSE {X : Cx} {k j : Nat} {C : Addr} {m : Str} {sp : Sp} {o e : Expr} {ta te : TE} {p apos pos : Pos} (c : MetB X.prog X.w X.K X.mg X.base k C m sp) (hr : Room j X.A) (hk : k ≤ j) (he : PE X o ta) (ha : PE X e te) (hbase : attributeBase o m X.env (eval o X.env) = eval o X.env := by rfl) :
    PE X (.Call (.Attribute o m apos) [.Starred e p] [] pos) (tMethSE X.K C m sp ta te) := by
  obtain ⟨g, hc, b, F⟩ := c
  refine ⟨fun pins s σ H Q I h => ?_⟩
  refine starcall_of hbase (thn (he.run pins s σ H _ I h) fun u s1 ⟨x, H1, I1, rx, a, dx, fs, ex, ea, l, q⟩ => ?_)
  subst ex
  obtain rfl : u = Value.ref a := rx
  refine getbound_ok I1 ea hc b l fun q1 s2 hq1 I2 => ?_
  refine PySem.W.ks_call (P := PySem.W.MethP X.K q1 g (.ref a)) rfl (PySem.W.keeps_M b.fi) (PySem.W.ks_lone ?_)
  refine thn (ha.run pins s2 σ _ _ I2 (q g q1 hq1)) fun v s3 ⟨y, H2, I3, ry, t, vs, ey, ht, hm, hsp⟩ => ?_
  subst ey
  obtain rfl : v = Value.ref t := ry
  refine star_tup I3 ht fun us s4 I4 rv => ⟨met_P I4 hm, ?_⟩
  exact wpAny_call (PySem.W.method_call (met_P I4 hm).1 (run_fnR (us := Value.ref a :: us) (vs := V.ref a :: vs) F (hr.mono hk) pass0 I4 (.cons rfl rv) hsp))
end My
set_option Elab.async false
set_option linter.all false
set_option maxRecDepth 100000
set_option maxHeartbeats 4000000
namespace My
open PySem PySem.Spec PyProof.Rows L2
/-! Y5: rows that the law forges. -/
/-- a thing without parts -/
def Fl (d : PyData) : Prop := d = .none ∨ (∃ b, d = .bool b) ∨ (∃ i, d = .int i) ∨ d = .str "0"
def flV : PyData → V
  | .bool b => .bl b
  | .int i => .int i
  | .str s => .str s
  | _ => .non
theorem Fl.at {S : Av} {H : Hp} {d : PyData} (h : Fl d) : At S H (flV d) d := by
  rcases h with rfl | ⟨b, rfl⟩ | ⟨i, rfl⟩ | rfl
  · exact .non
  · exact .bl b
  · exact .int i
  · exact .str _
theorem Fl.all {S : Av} {H : Hp} : ∀ {ds : List PyData}, (∀ d ∈ ds, Fl d) → AtAll S H (ds.map flV) ds
  | [], _ => .nil
  | d :: ds, h => .cons (h d List.mem_cons_self).at (Fl.all fun x hx => h x (List.mem_cons_of_mem _ hx))
theorem Fl.dpt {n : Nat} {d : PyData} (h : Fl d) : Dpt (n + 1) d := by
  rcases h with rfl | ⟨b, rfl⟩ | ⟨i, rfl⟩ | rfl
  · exact .inl (.inr rfl)
  · exact .inl (.inl ⟨b, rfl⟩)
  · exact .inr (.inl ⟨i, rfl⟩)
  · exact .inr (.inr (.inl ⟨_, rfl⟩))
theorem Fl.lay {d : PyData} (h : Fl d) : d.canLay0 = true ∧ d.depth = 0 := by
  rcases h with rfl | ⟨b, rfl⟩ | ⟨i, rfl⟩ | rfl
  · exact ⟨rfl, rfl⟩
  · exact ⟨rfl, rfl⟩
  · exact ⟨rfl, rfl⟩
  · exact ⟨by decide +kernel, rfl⟩
theorem oD_fl (o : Option Int) : Fl (oD o) := by
  cases o with
  | none => exact .inl rfl
  | some i => exact .inr (.inr (.inl ⟨i, rfl⟩))
theorem oV_fl (o : Option Int) : oV o = flV (oD o) := by cases o <;> rfl
/-- a row that may be forged -/
def RowA (D : PyData) : Prop := ∃ ds : List PyData, (D = .list ds ∨ D = .tuple ds) ∧ ds.length ≤ 4 ∧ ∀ d ∈ ds, Fl d
theorem RowA.of (r : Rw3) : RowA (rwD r) := ⟨_, .inr rfl, by show 3 ≤ 4; decide, fun d hd => by
  simp only [List.mem_cons, List.not_mem_nil, or_false] at hd
  rcases hd with rfl | rfl | rfl
  · exact .inr (.inr (.inl ⟨_, rfl⟩))
  · exact oD_fl _
  · exact .inr (.inr (.inl ⟨_, rfl⟩))⟩
theorem RowA.dpt {D : PyData} (h : RowA D) : Dpt 2 D := by
  obtain ⟨ds, e, l, f⟩ := h
  exact .inr (.inr (.inr ⟨ds, by omega, fun x hx => (f x hx).dpt, e⟩))
theorem lay_all {ds : List PyData} (h : ∀ d ∈ ds, d.canLay0 = true) : PyData.canLayAll0 ds = true := by
  induction ds with
  | nil => rfl
  | cons d ds ih =>
    show (d.canLay0 && PyData.canLayAll0 ds) = true
    rw [h d List.mem_cons_self, ih fun x hx => h x (List.mem_cons_of_mem _ hx)]
    rfl
theorem dep_all {n : Nat} {ds : List PyData} (h : ∀ d ∈ ds, d.depth ≤ n) : PyData.depthAll ds ≤ n := by
  induction ds with
  | nil => exact Nat.zero_le _
  | cons d ds ih =>
    show max d.depth (PyData.depthAll ds) ≤ n
    have := h d List.mem_cons_self
    have := ih fun x hx => h x (List.mem_cons_of_mem _ hx)
    omega
theorem RowA.lay {D : PyData} (h : RowA D) : D.canLay0 = true ∧ D.depth ≤ 1 := by
  obtain ⟨ds, e, l, f⟩ := h
  have a := lay_all fun d hd => (f d hd).lay.1
  have b : PyData.depthAll ds ≤ 0 := dep_all fun d hd => Nat.le_of_eq (f d hd).lay.2
  rcases e with rfl | rfl
  · exact ⟨a, by show PyData.depthAll ds + 1 ≤ 1; omega⟩
  · exact ⟨a, by show PyData.depthAll ds + 1 ≤ 1; omega⟩
theorem shaped_rowsA {ds : List PyData} (h : ∀ d ∈ ds, RowA d) : SeqAt.shaped (.list ds) = true := by
  unfold SeqAt.shaped
  rw [Bool.and_eq_true]
  refine ⟨lay_all fun d hd => (h d hd).lay.1, decide_eq_true ?_⟩
  have := dep_all (n := 1) fun d hd => (h d hd).lay.2
  show PyData.depthAll _ + 1 ≤ 64
  omega
theorem ixN_in {n : Nat} {i : Int} (h0 : 0 ≤ i) (h1 : i < n) : ixN n i = some i.toNat := by
  unfold ixN
  rw [if_pos h0, if_pos h1]
def sp_turnR : Sp := fun vs H Q _ => ∃ (S : Av) (t : Addr) (r : Rw3) (c : Int), vs = [.ref t, .int c] ∧ Occ S H ∧ H t = some (.tup [.int r.1, oV r.2.1, .int r.2.2]) ∧ ¬ S t ∧ ∀ v D H', Same H H' → At S H' v D → RowA D → Q v H'
def sp_forge : Sp := fun vs H Q _ => ∃ (S : Av) (dl : Addr) (due : List V) (R : List Rw3) (c : Int), vs = [.ref dl, .int c] ∧ Occ S H ∧ H dl = some (.lst due) ∧ AtAll S H due (R.map rwD) ∧ 1 ≤ R.length ∧ R.length ≤ 400 ∧
  ∀ l xs ds H', Same H H' → H l = none → H' l = some (.lst xs) → AtAll S H' xs ds → (∀ d ∈ ds, RowA d) → ds.length ≤ 402 → Q (.ref l) H'
theorem AtAll.set {S : Av} {H : Hp} {v : V} {d : PyData} (h : At S H v d) : ∀ {ds : List PyData} {vs : List V} (n : Nat), AtAll S H vs ds → AtAll S H (vs.set n v) (ds.set n d)
  | _, _, _, .nil => .nil
  | _, _, 0, .cons _ b => .cons h b
  | _, _, n + 1, .cons a b => .cons a (AtAll.set h n b)
section
variable {P : Program} {w : World} {K : PySem.W.Frag} {mg : Str → Option Value} {base : Heap}
theorem ok_turnR (T : Txt K mg) (D : Df K mg "_law_turned_row" s__law_turned_row ["row", "cell"]) : Cl P w K mg base 2 "_law_turned_row" ["row", "cell"] sp_turnR := by
  refine ok_of D sc__law_turned_row (fun vs H Q E h => ?_) (fun f cdv A outer s H vs Q E hr h => ?_)
  · obtain ⟨S, t, r, c, rfl, _⟩ := h
    rfl
  · obtain ⟨S, t, r, c, rfl, ho, et, nt, q⟩ := h
    refine ⟨_, (pss_cons (ps_set (i := 2) sc__law_turned_row.nd rfl (.inl rfl) (pe_op op_mod (pv 1) pe_int))
      (pss_cons (ps_set (i := 3) sc__law_turned_row.nd rfl (.inl rfl) (pe_op op_mod (pe_op op_fdiv (pv 1) pe_int) pe_int))
      (pss_cons (ps_set (i := 4) sc__law_turned_row.nd rfl (.inl rfl) (pe_callTy call_list_of (by rfl) T.b_list (by decide +kernel) (pa_cons (pv 0) pa_nil)))
      (C8.pss_cut (ps_if (PW.pt (pw_and (pt_cmpR op_lt (pv 3) pe_int (nomark _)) (pw_and1 (pt_cmpR op_notN (pe_ix ix_list (pv 4) (pv 2) (fun _ _ => rfl)) pe_non (nomark _))))) (pss_one (ps_asg (pe_op op_sub (pe_op op_add (pe_ix ix_list (pv 4) (pv 2) (fun _ _ => rfl)) pe_int) (pe_op op_mul pe_int (pv 3))) (pg_sub (pv 4) (pv 2) set_list))) (pss_one (ps_if (pt_cmpR op_eq (pv 3) pe_int (nomark _)) (pss_one (ps_asg pe_non (pg_sub (pv 4) (pv 2) set_list))) (pss_one (ps_if (pt_cmpR op_eq (pv 3) pe_int (nomark _)) (pss_one (ps_asg (pe_ix ix_list (pe_lst (pa_cons pe_int (pa_cons pe_int (pa_cons pe_bl (pa_cons pe_bl (pa_cons pe_str (pa_cons (pe_op op_pow pe_int pe_int) pa_nil))))))) (pe_op op_mod (pe_op op_fdiv (pv 1) pe_int) pe_int) (fun _ _ => rfl)) (pg_sub (pv 4) (pv 2) set_list))) (pss_one (ps_if (pt_cmpR op_eq (pv 3) pe_int (nomark _)) (pss_one (ps_ret (pe_tup (pa_cons (pe_ix ix_tup (pv 0) pe_int (fun _ _ => rfl)) (pa_cons (pe_ix ix_tup (pv 0) pe_int (fun _ _ => rfl)) pa_nil))))) (pss_one (ps_if (pt_cmpR op_eq (pv 3) pe_int (nomark _)) (pss_one (ps_ret (pe_op op_catA (pv 0) (pe_tup (pa_cons pe_int pa_nil))))) (pss_one (ps_if (pt_cmpR op_eq (pv 3) pe_int (nomark _)) (pss_one (ps_ret (pv 4))) (pss_one (ps_if (pt_cmpR op_isN (pe_ix ix_list (pv 4) pe_int (fun _ _ => rfl)) pe_non (nomark _)) (pss_one (ps_asg (pe_op op_mod (pe_op op_fdiv (pv 1) pe_int) pe_int) (pg_sub (pv 4) pe_int set_list))) pss_nil)))))))))))))
      (pss_one (ps_ret (pe_callTy call_tuple_of (by rfl) T.b_tuple (by decide +kernel) (pa_cons (pv 4) pa_nil)))))))), ?_⟩
    conv in (_root_.L2.start _ _) => change [some (V.ref t), some (V.int c), none, none, none]
    refine ⟨_, rfl, c, 3, rfl, rfl, (by show (0 : Int) < 3; decide), ?_⟩
    try conv in (List.set _ _ _) => simp only [List.set]
    refine ⟨_, rfl, c, 3, rfl, rfl, ⟨by decide, by decide⟩, _, 8, rfl, rfl, (by show (0 : Int) < 8; decide), ?_⟩
    try conv in (List.set _ _ _) => simp only [List.set]
    have b0 : 0 ≤ c % 3 ∧ c % 3 < 3 := by omega
    refine ⟨_, rfl, t, _, rfl, .inr (.inl (.inl et)), fun k hk => ?_⟩
    have S1 := same_new (o := .lst [.int r.1, oV r.2.1, .int r.2.2]) hk
    have ek : upd H k (.lst [.int r.1, oV r.2.1, .int r.2.2]) k = some (.lst ([PyData.int r.1, oD r.2.1, .int r.2.2].map flV)) := by
      rw [upd_same, oV_fl]
      rfl
    generalize upd H k (.lst [.int r.1, oV r.2.1, .int r.2.2]) = H1 at S1 ek ⊢
    try conv in (List.set _ _ _) => simp only [List.set]
    obtain ⟨ds0, hds⟩ : ∃ ds0, ds0 = [PyData.int r.1, oD r.2.1, .int r.2.2] := ⟨_, rfl⟩
    have f0 : ∀ d ∈ ds0, d = .none ∨ ∃ i, d = .int i := by
      subst hds
      intro d hd
      simp only [List.mem_cons, List.not_mem_nil, or_false] at hd
      rcases hd with rfl | rfl | rfl
      · exact .inr ⟨_, rfl⟩
      · cases r.2.1 with
        | none => exact .inl rfl
        | some i => exact .inr ⟨i, rfl⟩
      · exact .inr ⟨_, rfl⟩
    have l0 : ds0.length = 3 := by rw [hds]; rfl
    rw [← hds] at ek
    clear hds
    have F0 : ∀ d ∈ ds0, Fl d := fun d hd => (f0 d hd).elim .inl fun e => .inr (.inr (.inl e))
    obtain ⟨d0, hd0⟩ : ∃ d, ds0[(c % 3).toNat]? = some d := ⟨_, List.getElem?_eq_getElem (show (c % 3).toNat < ds0.length by omega)⟩
    have get : atI (ds0.map flV) (c % 3) = some (flV d0) := at_of (show c % 3 = (((c % 3).toNat : Nat) : Int) by omega) (by rw [List.getElem?_map, hd0]; rfl)
    have ix3 : ixN (ds0.map flV).length (c % 3) = some (c % 3).toNat := ixN_in b0.1 (by rw [List.length_map, l0]; omega)
    have ho1 := ho.same S1
    refine ⟨fun σ H' => ∃ ds : List PyData, σ = [some (.ref t), some (.int c), some (.int (c % 3)), some (.int (c / 3 % 8)), some (.ref k)] ∧ Same H H' ∧ Occ S H' ∧ H' k = some (.lst (ds.map flV)) ∧ ds.length = 3 ∧ (∀ d ∈ ds, Fl d), ?_, ?_⟩
    · have put : ∀ {H2 : Hp} {n : Nat} {d : PyData}, Same H1 H2 → Fl d → ∃ ds : List PyData, [some (V.ref t), some (.int c), some (.int (c % 3)), some (.int (c / 3 % 8)), some (.ref k)] = [some (.ref t), some (.int c), some (.int (c % 3)), some (.int (c / 3 % 8)), some (.ref k)] ∧ Same H (upd H2 k (.lst ((ds0.map flV).set n (flV d)))) ∧ Occ S (upd H2 k (.lst ((ds0.map flV).set n (flV d)))) ∧ upd H2 k (.lst ((ds0.map flV).set n (flV d))) k = some (.lst (ds.map flV)) ∧ ds.length = 3 ∧ (∀ d ∈ ds, Fl d) := fun {H2 n d} z fd =>
        ⟨ds0.set n d, rfl, same_over (S1.trans z) hk, (ho1.same z).upd, by rw [upd_same, List.map_set], by rw [List.length_set, l0], fun x hx => (List.mem_or_eq_of_mem_set hx).elim (F0 x) fun e => e ▸ fd⟩
      have same0 : ∃ ds : List PyData, [some (V.ref t), some (.int c), some (.int (c % 3)), some (.int (c / 3 % 8)), some (.ref k)] = [some (.ref t), some (.int c), some (.int (c % 3)), some (.int (c / 3 % 8)), some (.ref k)] ∧ Same H H1 ∧ Occ S H1 ∧ H1 k = some (.lst (ds.map flV)) ∧ ds.length = 3 ∧ (∀ d ∈ ds, Fl d) := ⟨ds0, rfl, S1, ho1, ek, l0, F0⟩
      refine (fun rest => ⟨_, rfl, _, 2, rfl, rfl, _, rfl, ite2 (fun z => ⟨_, rfl, _, rfl, k, _, _, _, rfl, rfl, .inl (.inl ek), get, rfl, _, rfl, ite2 (fun z2 => ?A) (fun _ => rest)⟩) (fun _ => rest)⟩) ?B
      case A =>
        obtain ⟨i, rfl⟩ : ∃ i, d0 = .int i := (f0 d0 (List.mem_of_getElem? hd0)).resolve_left fun e => by
          subst e
          exact absurd z2 (by decide)
        refine ⟨_, rfl, _, rfl, k, _, _, _, rfl, rfl, .inl (.inl ek), get, i, 1, rfl, rfl, _, rfl, 2, _, rfl, rfl, .inl ⟨by decide, by decide⟩, _, _, rfl, rfl, _, rfl, _, rfl, k, _, _, _, rfl, rfl, ek, ix3, ?_⟩
        exact put (d := .int _) (Same.refl _) (.inr (.inr (.inl ⟨_, rfl⟩)))
      refine ⟨_, rfl, rfl, _, rfl, ite2 (fun _ => ?_) (fun _ => ?_)⟩
      · refine ⟨_, rfl, _, rfl, k, _, _, _, rfl, rfl, ek, ix3, ?_⟩
        exact put (d := .none) (Same.refl _) (.inl rfl)
      refine ⟨_, rfl, rfl, _, rfl, ite2 (fun _ => ?_) (fun _ => ?_)⟩
      · refine ⟨10, 29, rfl, rfl, ⟨by decide, by decide, by decide⟩, by show 6 ≤ sizeLine; decide, fun m hm => ?_⟩
        have f6 : ∀ d ∈ [PyData.int 0, .int 1, .bool true, .bool false, .str "0", .int (10 ^ (29 : Int).toNat)], Fl d := fun d hd => by
          simp only [List.mem_cons, List.not_mem_nil, or_false] at hd
          rcases hd with rfl | rfl | rfl | rfl | rfl | rfl
          · exact .inr (.inr (.inl ⟨_, rfl⟩))
          · exact .inr (.inr (.inl ⟨_, rfl⟩))
          · exact .inr (.inl ⟨_, rfl⟩)
          · exact .inr (.inl ⟨_, rfl⟩)
          · exact .inr (.inr (.inr rfl))
          · exact .inr (.inr (.inl ⟨_, rfl⟩))
        obtain ⟨n, hn, en⟩ : ∃ n : Nat, n < 6 ∧ c / 24 % 6 = (n : Int) := ⟨(c / 24 % 6).toNat, by omega, by omega⟩
        obtain ⟨d, hd⟩ : ∃ d, [PyData.int 0, .int 1, .bool true, .bool false, .str "0", .int (10 ^ (29 : Int).toNat)][n]? = some d := ⟨_, List.getElem?_eq_getElem (show n < 6 from hn)⟩
        have hv : [V.int 0, .int 1, .bl true, .bl false, .str "0", .int (10 ^ (29 : Int).toNat)][n]? = some (flV d) := by
          have : ([PyData.int 0, .int 1, .bool true, .bool false, .str "0", .int (10 ^ (29 : Int).toNat)].map flV)[n]? = some (flV d) := by
            rw [List.getElem?_map, hd]
            rfl
          exact this
        refine ⟨_, rfl, c, 24, rfl, rfl, ⟨by decide, by decide⟩, _, 6, rfl, rfl, (by show (0 : Int) < 6; decide), m, _, _, _, rfl, rfl, .inl (.inl upd_same), at_of en hv, ?_⟩
        have S2 := same_new (o := .lst [V.int 0, .int 1, .bl true, .bl false, .str "0", .int (10 ^ (29 : Int).toNat)]) hm
        refine ⟨_, rfl, _, rfl, k, _, _, _, rfl, rfl, S2 _ _ ek, ix3, ?_⟩
        exact put S2 (f6 d (List.mem_of_getElem? hd))
      have et1 := S1 _ _ et
      have retT : ∀ (es : List PyData) (m : Addr) (H2 : Hp), Same H H2 → H2 m = none → (∀ d ∈ es, Fl d) → es.length ≤ 4 → Q (.ref m) (upd H2 m (.tup (es.map flV))) := fun es m H2 z hm f l => by
        have z2 := z.trans (same_new (o := .tup (es.map flV)) hm)
        exact q _ _ _ z2 (.tup ((ho.same z).free hm) upd_same (Fl.all f)) ⟨es, .inr rfl, l, f⟩
      have fi : ∀ i, Fl (.int i) := fun i => .inr (.inr (.inl ⟨i, rfl⟩))
      refine ⟨_, rfl, rfl, _, rfl, ite2 (fun _ => ?_) (fun _ => ?_)⟩
      · refine ⟨_, rfl, t, _, 0, _, rfl, rfl, .inl (.inl et1), rfl, _, rfl, t, _, 1, _, rfl, rfl, .inl (.inl et1), rfl, by show 2 ≤ sizeLine; decide, fun m hm => ?_⟩
        have := retT [.int r.1, oD r.2.1] m H1 S1 hm (fun d hd => by
          simp only [List.mem_cons, List.not_mem_nil, or_false] at hd
          rcases hd with rfl | rfl
          · exact fi _
          · exact oD_fl _) (by show 2 ≤ 4; decide)
        rw [List.map_cons, List.map_cons, ← oV_fl] at this
        exact this
      refine ⟨_, rfl, rfl, _, rfl, ite2 (fun _ => ?_) (fun _ => ?_)⟩
      · refine ⟨_, rfl, by show 1 ≤ sizeLine; decide, fun m hm => ?_⟩
        have S2 := same_new (o := .tup [.int 1]) hm
        refine ⟨t, m, _, _, rfl, rfl, .inl (.inl (S2 _ _ et1)), .inl (.inl upd_same), by show 4 ≤ sizeLine; decide, fun z => (by cases z), fun _ z => (by cases z), fun _ _ n hn => ?_⟩
        have := retT [.int r.1, oD r.2.1, .int r.2.2, .int 1] n _ (S1.trans S2) hn (fun d hd => by
          simp only [List.mem_cons, List.not_mem_nil, or_false] at hd
          rcases hd with rfl | rfl | rfl | rfl
          · exact fi _
          · exact oD_fl _
          · exact fi _
          · exact fi _) (by show 4 ≤ 4; decide)
        rw [List.map_cons, List.map_cons, ← oV_fl] at this
        exact this
      refine ⟨_, rfl, rfl, _, rfl, ite2 (fun _ => ?_) (fun _ => ?_)⟩
      · exact ⟨_, rfl, q _ _ _ S1 (.lst (ho.free hk) ek (Fl.all F0)) ⟨ds0, .inl rfl, by omega, F0⟩⟩
      obtain ⟨d1, hd1⟩ : ∃ d, ds0[1]? = some d := ⟨_, List.getElem?_eq_getElem (show 1 < ds0.length by omega)⟩
      refine ⟨_, rfl, k, _, 1, flV d1, rfl, rfl, .inl (.inl ek), atI_nat (j := 1) (by rw [List.getElem?_map, hd1]; rfl), rfl, _, rfl, ite2 (fun _ => ?_) (fun _ => ?_)⟩
      · refine ⟨_, rfl, c, 24, rfl, rfl, ⟨by decide, by decide⟩, _, 7, rfl, rfl, (by show (0 : Int) < 7; decide), _, rfl, k, _, 1, 1, rfl, rfl, ek, by rw [List.length_map, l0]; rfl, ?_⟩
        exact put (d := .int _) (Same.refl _) (fi _)
      · exact same0
    · rintro σ H2 ⟨ds, rfl, S2, oc2, e2, l2, f2⟩
      exact ⟨_, rfl, k, _, rfl, .inl ⟨.inl (.inl e2), fun l hl => q _ _ _ (S2.trans (same_new hl)) (.tup (oc2.free hl) upd_same (Fl.all f2)) ⟨ds, .inr rfl, by omega, f2⟩⟩⟩
theorem ok_forge (T : Txt K mg) (c__law_turned_row : Cl P w K mg base 2 "_law_turned_row" ["row", "cell"] sp_turnR) (D : Df K mg "_law_forged" s__law_forged ["due", "cell"]) : Cl P w K mg base 3 "_law_forged" ["due", "cell"] sp_forge := by
  refine ok_of D sc__law_forged (fun vs H Q E h => ?_) (fun f cdv A outer s H vs Q E hr h => ?_)
  · obtain ⟨S, dl, due, R, c, rfl, _⟩ := h
    rfl
  · obtain ⟨S, dl, due, R, c, rfl, ho, ed, ad, l1, l2, q⟩ := h
    refine ⟨_, (pss_cons (ps_set (i := 2) sc__law_forged.nd rfl (.inl rfl) (pe_callTy call_list_of (by rfl) T.b_list (by decide +kernel) (pa_cons (pv 0) pa_nil)))
      (pss_cons (ps_set (i := 3) sc__law_forged.nd rfl (.inl rfl) (pe_op op_mod (pe_op op_fdiv (pv 1) pe_int) (pe_callB call_len (by rfl) T.b_len (by decide +kernel) (pa_cons (pv 2) pa_nil))))
      (pss_cons (ps_set (i := 4) sc__law_forged.nd rfl (.inl rfl) (pe_op op_fdiv (pe_op op_fdiv (pv 1) pe_int) (pe_callB call_len (by rfl) T.b_len (by decide +kernel) (pa_cons (pv 2) pa_nil))))
      (pss_cons (ps_set (i := 5) sc__law_forged.nd rfl (.inl rfl) (pe_op op_mod (pv 1) pe_int))
      (pss_cons (ps_asg (pe_ix ix_list (pv 2) (pv 3) (fun _ _ => rfl)) (pg_tup rfl (pgs_cons (pg_name (i := 6) sc__law_forged.nd rfl (.inl rfl)) (pgs_cons (pg_name (i := 7) sc__law_forged.nd rfl (.inl rfl)) (pgs_cons (pg_name (i := 8) sc__law_forged.nd rfl (.inl rfl)) pgs_nil)))))
      (C8.pss_cut (ps_if (pt_cmpR op_eq (pv 5) pe_int (nomark _)) (pss_cons (ps_set (i := 9) sc__law_forged.nd rfl (.inl rfl) (pe_op op_add pe_int (pe_op op_mod (pv 4) (pe_callB (call_max2 rfl) (by rfl) T.b_max (by decide +kernel) (pa_cons pe_int (pa_cons (pe_op op_sub (pv 8) pe_int) pa_nil))))))
        (pss_cons (ps_set (i := 10) sc__law_forged.nd rfl (.inl rfl) pe_non)
        (C8.pss_cut (ps_if (pt_cmpR op_notN (pv 7) pe_non (nomark _)) (pss_one (ps_set (i := 10) sc__law_forged.nd rfl (.inl rfl) (pe_op op_add (pv 7) (pv 9)))) pss_nil)
        (pss_one (ps_asg (pe_lst (pa_cons (pe_tup (pa_cons (pv 6) (pa_cons (pv 7) (pa_cons (pv 9) pa_nil)))) (pa_cons (pe_tup (pa_cons (pe_op op_add (pv 6) (pv 9)) (pa_cons (pv 10) (pa_cons (pe_op op_sub (pv 8) (pv 9)) pa_nil)))) pa_nil))) (pg_cutB (pv 2) (po_some (pv 3)) (po_some (pe_op op_add (pv 3) pe_int)))))))) (pss_one (ps_if (PW.pt (pw_and (pt_cmpR op_eq (pv 5) pe_int (nomark _)) (pw_and1 (pt_cmpR op_lt (pe_op op_add (pv 3) pe_int) (pe_callB call_len (by rfl) T.b_len (by decide +kernel) (pa_cons (pv 2) pa_nil)) (nomark _))))) (pss_one (ps_asg (pe_lst (pa_cons (pe_tup (pa_cons (pv 6) (pa_cons (pv 7) (pa_cons (pe_op op_add (pv 8) (pe_ix ix_tup (pe_ix ix_list (pv 2) (pe_op op_add (pv 3) pe_int) (fun _ _ => rfl)) pe_int (fun _ _ => rfl))) pa_nil)))) pa_nil)) (pg_cutB (pv 2) (po_some (pv 3)) (po_some (pe_op op_add (pv 3) pe_int))))) (pss_one (ps_if (pt_cmpR op_eq (pv 5) pe_int (nomark _)) (pss_one (ps_asg (pe_lst pa_nil) (pg_cutB (pv 2) (po_some (pv 3)) (po_some (pe_op op_add (pv 3) pe_int))))) (pss_one (ps_if (pt_cmpR op_eq (pv 5) pe_int (nomark _)) (pss_one (ps_asg (pe_lst (pa_cons (pe_ix ix_list (pv 2) (pv 3) (fun _ _ => rfl)) (pa_cons (pe_ix ix_list (pv 2) (pv 3) (fun _ _ => rfl)) pa_nil))) (pg_cutB (pv 2) (po_some (pv 3)) (po_some (pe_op op_add (pv 3) pe_int))))) (pss_one (ps_if (pt_cmpR op_eq (pv 5) pe_int (nomark _)) (pss_cons (ps_set (i := 11) sc__law_forged.nd rfl (.inl rfl) (pe_op op_mod (pv 4) (pe_callB call_len (by rfl) T.b_len (by decide +kernel) (pa_cons (pv 2) pa_nil))))
                (pss_one (ps_asg (pe_tup (pa_cons (pe_ix ix_list (pv 2) (pv 11) (fun _ _ => rfl)) (pa_cons (pe_ix ix_list (pv 2) (pv 3) (fun _ _ => rfl)) pa_nil))) (pg_tup rfl (pgs_cons (pg_sub (pv 2) (pv 3) set_list) (pgs_cons (pg_sub (pv 2) (pv 11) set_list) pgs_nil)))))) (pss_one (ps_if (pt_cmpR op_eq (pv 5) pe_int (nomark _)) (pss_one (ps_asg (pe_lst (pa_cons (pe_tup (pa_cons (pe_op op_add (pv 6) (pv 8)) (pa_cons (pv 7) (pa_cons pe_int pa_nil)))) pa_nil)) (pg_cutB (pv 2) (po_some (pv 3)) (po_some (pv 3))))) (pss_one (ps_asg (pe_cl c__law_turned_row hr (by decide) (by rfl) (pa_cons (pe_ix ix_list (pv 2) (pv 3) (fun _ _ => rfl)) (pa_cons (pv 4) pa_nil))) (pg_sub (pv 2) (pv 3) set_list))))))))))))))
      (pss_one (ps_ret (pv 2))))))))), ?_⟩
    conv in (_root_.L2.start _ _) => change [some (V.ref dl), some (V.int c), none, none, none, none, none, none, none, none, none, none]
    have ld : due.length = R.length := by rw [ad.len, List.length_map]
    refine ⟨_, rfl, dl, due, rfl, .inl (.inl (.inl ed)), fun k hk => ?_⟩
    have c0 : LcS S H k due (R.map rwD) (upd H k (.lst due)) := ⟨hk, same_new hk, upd_same, AtAll.same (AtAll.plusN ad hk) (same_new hk)⟩
    generalize upd H k (.lst due) = H1 at c0 ⊢
    have len : LenV K (.ref k) H1 R.length := .inl ⟨due, .inl (.inl c0.at_), ld.symm⟩
    try conv in (List.set _ _ _) => simp only [List.set]
    refine ⟨_, rfl, c, 8, rfl, rfl, ⟨by decide, by decide⟩, _, rfl, _, _, rfl, len, _, _, rfl, rfl, (by show (0 : Int) < (R.length : Nat); omega), ?_⟩
    try conv in (List.set _ _ _) => simp only [List.set]
    refine ⟨_, rfl, c, 8, rfl, rfl, ⟨by decide, by decide⟩, _, rfl, _, _, rfl, len, _, _, rfl, rfl, ⟨by omega, by omega⟩, ?_⟩
    try conv in (List.set _ _ _) => simp only [List.set]
    refine ⟨_, rfl, c, 8, rfl, rfl, (by show (0 : Int) < 8; decide), ?_⟩
    try conv in (List.set _ _ _) => simp only [List.set]
    obtain ⟨i, hi, ei⟩ : ∃ i : Nat, i < R.length ∧ c / 8 % ((R.length : Nat) : Int) = (i : Int) := ⟨(c / 8 % ((R.length : Nat) : Int)).toNat, by have := Int.emod_nonneg (c / 8) (show ((R.length : Nat) : Int) ≠ 0 by omega); have := Int.emod_lt_of_pos (c / 8) (show (0 : Int) < ((R.length : Nat) : Int) by omega); omega, by have := Int.emod_nonneg (c / 8) (show ((R.length : Nat) : Int) ≠ 0 by omega); omega⟩
    rw [ei]
    obtain ⟨more, hmore⟩ : ∃ m, m = c / 8 / ((R.length : Nat) : Int) := ⟨_, rfl⟩
    rw [← hmore]
    obtain ⟨r, hr⟩ : ∃ r, R[i]? = some r := ⟨_, List.getElem?_eq_getElem hi⟩
    have rowAt : ∀ {j : Nat} {r : Rw3}, R[j]? = some r → ∃ t, due[j]? = some (.ref t) ∧ ¬ Plus S k t ∧ H1 t = some (.tup [.int r.1, oV r.2.1, .int r.2.2]) := fun {j r} hj => by
      have hj2 : j < due.length := by rw [ld]; exact (List.getElem?_eq_some_iff.mp hj).1
      obtain ⟨r', hr', av⟩ := c0.a.at_ (List.getElem?_eq_getElem hj2)
      rw [hj] at hr'
      cases hr'
      obtain ⟨t, e1, n1, e2⟩ := av.row3
      exact ⟨t, by rw [List.getElem?_eq_getElem hj2, e1], n1, e2⟩
    obtain ⟨t, hdt, nt, et⟩ := rowAt hr
    refine ⟨_, rfl, _, rfl, k, _, _, _, rfl, rfl, .inl (.inl c0.at_), atI_nat hdt, t, _, rfl, .inl (.inl et), rfl, _, _, rfl, _, _, rfl, _, _, rfl, rfl, ?_⟩
    try conv in (List.set _ _ _) => simp only [List.set]
    have okR : ∀ d ∈ R.map rwD, RowA d := fun d hd => by
      obtain ⟨r, _, rfl⟩ := List.mem_map.mp hd
      exact RowA.of r
    have ho1 : Occ (Plus S k) H1 := c0.occ ho
    refine ⟨fun σ H' => ∃ (v3 v4 v5 v6 v7 v8 v9 v10 v11 : Option V) (xs : List V) (ds : List PyData), σ = [some (.ref dl), some (.int c), some (.ref k), v3, v4, v5, v6, v7, v8, v9, v10, v11] ∧ LcS S H k xs ds H' ∧ (∀ d ∈ ds, RowA d) ∧ ds.length ≤ 402, ?_, ?_⟩
    · have cut : ∀ {H2 : Hp} {v3 v4 v5 v6 v7 v8 v9 v10 v11 : Option V} (a b : Nat) (ys : List V) (es : List PyData), Same H1 H2 → AtAll (Plus S k) H2 ys es → (∀ d ∈ es, RowA d) → es.length ≤ 2 → a ≤ b →
          ∃ (w3 w4 w5 w6 w7 w8 w9 w10 w11 : Option V) (xs : List V) (ds : List PyData), [some (.ref dl), some (.int c), some (.ref k), v3, v4, v5, v6, v7, v8, v9, v10, v11] = [some (V.ref dl), some (.int c), some (.ref k), w3, w4, w5, w6, w7, w8, w9, w10, w11] ∧ LcS S H k xs ds (upd H2 k (.lst (due.take a ++ ys ++ due.drop b))) ∧ (∀ d ∈ ds, RowA d) ∧ ds.length ≤ 402 := fun {H2} v3 v4 v5 v6 v7 v8 v9 v10 v11 a b ys es z ay oy ly lab => by
        have c2 := c0.keep z
        refine ⟨_, _, _, _, _, _, _, _, _, _, (R.map rwD).take a ++ es ++ (R.map rwD).drop b, rfl, c2.put (((c2.a.take a).app ay).app (c2.a.drop b)), fun d hd => ?_, ?_⟩
        · rcases List.mem_append.mp hd with hd | hd
          · rcases List.mem_append.mp hd with hd | hd
            · exact okR d (List.mem_of_mem_take hd)
            · exact oy d hd
          · exact okR d (List.mem_of_mem_drop hd)
        · rw [List.length_append, List.length_append, List.length_take, List.length_drop, List.length_map]
          omega
      have mk : ∀ {H2 : Hp} {t1 : Addr} (r1 : Rw3), Same H1 H2 → H2 t1 = none → At (Plus S k) (upd H2 t1 (.tup [.int r1.1, oV r1.2.1, .int r1.2.2])) (.ref t1) (rwD r1) := fun r1 z h1 => At.mkRow ((ho1.same z).free h1) upd_same
      have i2 : ∀ b : Nat, b ≤ due.length → b ≤ due.length := fun _ h => h
      have sz : ∀ m : Nat, m ≤ 1000 → m ≤ sizeLine := fun m h => Nat.le_of_lt (Evl.sz_lt (by omega))
      refine ⟨_, rfl, rfl, _, rfl, ite2 (fun _ => ?_) (fun _ => ?_)⟩
      · -- cut in two
        obtain ⟨u, hu⟩ : ∃ u, u = (if r.2.2 - 1 > 1 then r.2.2 - 1 else 1) := ⟨_, rfl⟩
        refine ⟨_, rfl, _, rfl, _, 1, rfl, rfl, _, _, rfl, more, _, rfl, rfl, (by show (0 : Int) < if r.2.2 - 1 > 1 then r.2.2 - 1 else 1; split <;> omega), 1, _, rfl, rfl, ?_⟩
        try conv in (List.set _ _ _) => simp only [List.set]
        rw [← hu]
        obtain ⟨up, hup⟩ : ∃ up, up = 1 + more % u := ⟨_, rfl⟩
        show gName 9 (V.int (1 + more % u)) _ _ _
        rw [← hup]
        try conv in (List.set _ _ _) => simp only [List.set]
        refine ⟨fun σ H' => ∃ b : Option Int, σ = [some (.ref dl), some (.int c), some (.ref k), some (.int i), some (.int more), some (.int (c % 8)), some (.int r.1), some (oV r.2.1), some (.int r.2.2), some (.int up), some (oV b), none] ∧ H' = H1, ?_, ?_⟩
        · obtain ⟨r1, r2, r3⟩ := r
          cases r2 with
          | none => exact ⟨_, rfl, rfl, _, rfl, ite2 (fun z => absurd z (by simp [oV])) fun _ => ⟨none, rfl, rfl⟩⟩
          | some a => exact ⟨_, rfl, rfl, _, rfl, ite2 (fun _ => ⟨_, rfl, _, rfl, a, up, rfl, rfl, some (a + up), rfl, rfl⟩) fun z => absurd rfl z⟩
        rintro σ H2 ⟨b, rfl, rfl⟩
        refine ⟨_, rfl, _, rfl, _, rfl, by show 3 ≤ sizeLine; decide, fun t1 ht1 => ⟨_, rfl, _, rfl, _, _, rfl, rfl, _, rfl, _, rfl, _, rfl, _, _, rfl, rfl, by show 3 ≤ sizeLine; decide, fun t2 ht2 => ⟨by show 2 ≤ sizeLine; decide, fun l hl => ?_⟩⟩⟩
        have m1 := mk (r.1, r.2.1, up) (Same.refl H2) ht1
        have Z1 := same_new (o := .tup [.int r.1, oV r.2.1, .int up]) ht1
        have m2 := mk (r.1 + up, b, r.2.2 - up) Z1 ht2
        have Z2 := same_new (o := .tup [.int (r.1 + up), oV b, .int (r.2.2 - up)]) ht2
        have Z3 := same_new (o := .lst [.ref t1, .ref t2]) hl
        have ZZ := (Z1.trans Z2).trans Z3
        refine ⟨_, rfl, _, rfl, _, rfl, _, rfl, _, 1, rfl, rfl, _, rfl, k, l, due, [.ref t1, .ref t2], i, i + 1, rfl, rfl, rfl, rfl, ZZ _ _ c0.at_, upd_same, (fun z => by rw [← z, (Z1.trans Z2) _ _ c0.at_] at hl; cases hl), by omega, by omega, sz _ (by show due.length + 2 ≤ 1000; omega), ?_⟩
        exact cut i (i + 1) [.ref t1, .ref t2] [rwD (r.1, r.2.1, up), rwD (r.1 + up, b, r.2.2 - up)] ZZ (AtAll.same (.cons (m1.same Z2) (.cons m2 .nil)) Z3) (fun d hd => by
          simp only [List.mem_cons, List.not_mem_nil, or_false] at hd
          rcases hd with rfl | rfl
          · exact RowA.of _
          · exact RowA.of _) (by show 2 ≤ 2; decide) (by omega)
      refine (fun rest => ⟨_, rfl, rfl, _, rfl, ite2 (fun z => ⟨_, rfl, _, 1, rfl, rfl, _, rfl, _, _, rfl, len, _, _, rfl, rfl, _, rfl, ite2 (fun z2 => ?A) (fun _ => rest)⟩) (fun _ => rest)⟩) ?B
      case A =>
        have z2 : i + 1 < R.length := by
          have := of_decide_eq_true z2
          omega
        obtain ⟨r', hr'⟩ : ∃ r', R[i + 1]? = some r' := ⟨_, List.getElem?_eq_getElem z2⟩
        obtain ⟨t', hdt', nt', et'⟩ := rowAt hr'
        refine ⟨_, rfl, _, rfl, _, rfl, _, rfl, _, rfl, _, 1, rfl, rfl, k, _, _, _, rfl, rfl, .inl (.inl c0.at_), at_of (show ((i : Nat) : Int) + 1 = (((i + 1 : Nat)) : Int) by omega) hdt', t', _, 2, _, rfl, rfl, .inl (.inl et'), rfl, _, _, rfl, rfl, by show 3 ≤ sizeLine; decide, fun t1 ht1 => ⟨by show 1 ≤ sizeLine; decide, fun b hb => ?_⟩⟩
        have Z1 := same_new (o := .tup [.int r.1, oV r.2.1, .int (r.2.2 + r'.2.2)]) ht1
        have m1 := mk (r.1, r.2.1, r.2.2 + r'.2.2) (Same.refl H1) ht1
        have Z2 := same_new (o := .lst [.ref t1]) hb
        refine ⟨_, rfl, _, rfl, _, rfl, _, rfl, _, 2, rfl, rfl, _, rfl, k, b, due, [.ref t1], i, i + 2, rfl, rfl, rfl, rfl, (Z1.trans Z2) _ _ c0.at_, upd_same, (fun z => by rw [← z, (Z1.trans (Same.refl _)) _ _ c0.at_] at hb; cases hb), by omega, by omega, sz _ (by show due.length + 1 ≤ 1000; omega), ?_⟩
        exact cut i (i + 2) [.ref t1] [rwD (r.1, r.2.1, r.2.2 + r'.2.2)] (Z1.trans Z2) (AtAll.same (.cons m1 .nil) Z2) (fun d hd => by rw [List.mem_singleton.mp hd]; exact RowA.of _) (by show 1 ≤ 2; decide) (by omega)
      refine ⟨_, rfl, rfl, _, rfl, ite2 (fun _ => ?_) (fun _ => ?_)⟩
      · refine ⟨Nat.zero_le _, fun b hb => ?_⟩
        have Z2 := same_new (o := .lst []) hb
        refine ⟨_, rfl, _, rfl, _, rfl, _, rfl, _, 1, rfl, rfl, _, rfl, k, b, due, [], i, i + 1, rfl, rfl, rfl, rfl, Z2 _ _ c0.at_, upd_same, (fun z => by rw [← z, c0.at_] at hb; cases hb), by omega, by omega, sz _ (by show due.length + 0 ≤ 1000; omega), ?_⟩
        exact cut i (i + 1) [] [] Z2 .nil (fun d hd => by cases hd) (by show 0 ≤ 2; decide) (by omega)
      have at1 : At (Plus S k) H1 (.ref t) (rwD r) := At.mkRow nt et
      refine ⟨_, rfl, rfl, _, rfl, ite2 (fun _ => ?_) (fun _ => ?_)⟩
      · refine ⟨_, rfl, _, rfl, k, _, _, _, rfl, rfl, .inl (.inl c0.at_), atI_nat hdt, _, rfl, _, rfl, k, _, _, _, rfl, rfl, .inl (.inl c0.at_), atI_nat hdt, by show 2 ≤ sizeLine; decide, fun b hb => ?_⟩
        have Z2 := same_new (o := .lst [.ref t, .ref t]) hb
        refine ⟨_, rfl, _, rfl, _, rfl, _, rfl, _, 1, rfl, rfl, _, rfl, k, b, due, [.ref t, .ref t], i, i + 1, rfl, rfl, rfl, rfl, Z2 _ _ c0.at_, upd_same, (fun z => by rw [← z, c0.at_] at hb; cases hb), by omega, by omega, sz _ (by show due.length + 2 ≤ 1000; omega), ?_⟩
        exact cut i (i + 1) [.ref t, .ref t] [rwD r, rwD r] Z2 (AtAll.same (.cons at1 (.cons at1 .nil)) Z2) (fun d hd => by
          simp only [List.mem_cons, List.not_mem_nil, or_false, or_self] at hd
          rw [hd]
          exact RowA.of _) (by show 2 ≤ 2; decide) (by omega)
      have sets : ∀ {H2 : Hp} {v3 v4 v5 v6 v7 v8 v9 v10 v11 : Option V} {xs : List V} {ds : List PyData}, Same H1 H2 → AtAll (Plus S k) H2 xs ds → (∀ d ∈ ds, RowA d) → ds.length ≤ 402 →
          ∃ (w3 w4 w5 w6 w7 w8 w9 w10 w11 : Option V) (xs' : List V) (ds : List PyData), [some (.ref dl), some (.int c), some (.ref k), v3, v4, v5, v6, v7, v8, v9, v10, v11] = [some (V.ref dl), some (.int c), some (.ref k), w3, w4, w5, w6, w7, w8, w9, w10, w11] ∧ LcS S H k xs' ds (upd H2 k (.lst xs)) ∧ (∀ d ∈ ds, RowA d) ∧ ds.length ≤ 402 := fun {H2 v3 v4 v5 v6 v7 v8 v9 v10 v11 xs ds} z a o l =>
        ⟨_, _, _, _, _, _, _, _, _, _, ds, rfl, (c0.keep z).put a, o, l⟩
      have ix : ∀ {j : Nat}, j < R.length → ixN due.length (j : Int) = some j := fun h => Evl.ixN_nat (by omega)
      refine ⟨_, rfl, rfl, _, rfl, ite2 (fun _ => ?_) (fun _ => ?_)⟩
      · refine ⟨_, rfl, _, rfl, _, _, rfl, len, _, _, rfl, rfl, (by show (0 : Int) < (R.length : Nat); omega), ?_⟩
        obtain ⟨j, hj, ej⟩ : ∃ j : Nat, j < R.length ∧ more % ((R.length : Nat) : Int) = (j : Int) := ⟨(more % ((R.length : Nat) : Int)).toNat, by have := Int.emod_nonneg more (show ((R.length : Nat) : Int) ≠ 0 by omega); have := Int.emod_lt_of_pos more (show (0 : Int) < ((R.length : Nat) : Int) by omega); omega, by have := Int.emod_nonneg more (show ((R.length : Nat) : Int) ≠ 0 by omega); omega⟩
        show gName 11 (V.int (more % ((R.length : Nat) : Int))) _ _ _
        rw [ej]
        obtain ⟨r', hr'⟩ : ∃ r', R[j]? = some r' := ⟨_, List.getElem?_eq_getElem hj⟩
        obtain ⟨t', hdt', nt', et'⟩ := rowAt hr'
        have at2 : At (Plus S k) H1 (.ref t') (rwD r') := At.mkRow nt' et'
        refine ⟨_, rfl, _, rfl, k, _, _, _, rfl, rfl, .inl (.inl c0.at_), atI_nat hdt', _, rfl, _, rfl, k, _, _, _, rfl, rfl, .inl (.inl c0.at_), atI_nat hdt, by show 2 ≤ sizeLine; decide, fun b hb => ?_⟩
        have Z2 := same_new (o := .tup [.ref t', .ref t]) hb
        refine ⟨b, _, rfl, .inl (.inl upd_same), rfl, _, _, rfl, _, rfl, _, rfl, k, due, _, i, rfl, rfl, Z2 _ _ c0.at_, ix hi, _, _, rfl, _, rfl, _, rfl, k, _, _, j, rfl, rfl, upd_same, by rw [List.length_set]; exact ix hj, rfl, ?_⟩
        have a1 : AtAll (Plus S k) _ ((due.set i (.ref t')).set j (.ref t)) (((R.map rwD).set i (rwD r')).set j (rwD r)) := AtAll.set (at1.same Z2) j (AtAll.set (at2.same Z2) i (AtAll.same c0.a Z2))
        have up2 : ∀ o, upd (upd (upd H1 b (.tup [.ref t', .ref t])) k (.lst (due.set i (.ref t')))) k o = upd (upd H1 b (.tup [.ref t', .ref t])) k o := fun o => upd_upd
        rw [up2]
        refine sets Z2 a1 (fun d hd => ?_) (by rw [List.length_set, List.length_set, List.length_map]; omega)
        rcases List.mem_or_eq_of_mem_set hd with hd | rfl
        · rcases List.mem_or_eq_of_mem_set hd with hd | rfl
          · exact okR d hd
          · exact RowA.of _
        · exact RowA.of _
      refine ⟨_, rfl, rfl, _, rfl, ite2 (fun _ => ?_) (fun _ => ?_)⟩
      · refine ⟨_, rfl, _, rfl, _, _, rfl, rfl, _, rfl, by show 3 ≤ sizeLine; decide, fun t1 ht1 => ⟨by show 1 ≤ sizeLine; decide, fun l hl => ?_⟩⟩
        have m1 := mk (r.1 + r.2.2, r.2.1, 1) (Same.refl H1) ht1
        have Z1 := same_new (o := .tup [.int (r.1 + r.2.2), oV r.2.1, .int 1]) ht1
        have Z2 := same_new (o := .lst [.ref t1]) hl
        refine ⟨_, rfl, _, rfl, _, rfl, _, rfl, _, rfl, k, l, due, [.ref t1], i, i, rfl, rfl, rfl, rfl, (Z1.trans Z2) _ _ c0.at_, upd_same, (fun z => by rw [← z, Z1 _ _ c0.at_] at hl; cases hl), by omega, by omega, sz _ (by show due.length + 1 ≤ 1000; omega), ?_⟩
        exact cut i i [.ref t1] [rwD (r.1 + r.2.2, r.2.1, 1)] (Z1.trans Z2) (AtAll.same (.cons m1 .nil) Z2) (fun d hd => by rw [List.mem_singleton.mp hd]; exact RowA.of _) (by show 1 ≤ 2; decide) (Nat.le_refl _)
      · refine ⟨_, rfl, _, rfl, k, _, _, _, rfl, rfl, .inl (.inl c0.at_), atI_nat hdt, _, rfl, Plus S k, t, r, more, rfl, ho1, et, nt, fun v D H2 Z a o => ?_⟩
        refine ⟨_, rfl, _, rfl, k, due, _, i, rfl, rfl, Z _ _ c0.at_, ix hi, ?_⟩
        refine sets Z (AtAll.set a i (AtAll.same c0.a Z)) (fun d hd => ?_) (by rw [List.length_set, List.length_map]; omega)
        rcases List.mem_or_eq_of_mem_set hd with hd | rfl
        · exact okR d hd
        · exact o
    · rintro σ H2 ⟨v3, v4, v5, v6, v7, v8, v9, v10, v11, xs, ds, rfl, c2, ok2, l2⟩
      exact ⟨_, rfl, q k xs ds H2 c2.s hk c2.at_ c2.done ok2 l2⟩
end
end My
set_option Elab.async false
set_option linter.all false
set_option maxRecDepth 100000
set_option maxHeartbeats 4000000
namespace My
open PySem PySem.Spec PyProof.Rows L2
/-! Y6: the law's asking that is refused; what the law k29 knows of its data. -/
abbrev NA : Av := fun _ => False
theorem occN (H : Hp) : Occ NA H := fun _ z => z.elim
theorem cut_ints (ns : List Int) (i j : Option Int) : ∃ cs : List Int, cutV (ns.map V.int) i j = cs.map V.int ∧ cs.length ≤ ns.length := by
  refine ⟨(ns.drop (HT.sIx (ns.map V.int).length 0 i)).take (HT.sIx (ns.map V.int).length (ns.map V.int).length j - HT.sIx (ns.map V.int).length 0 i), ?_, ?_⟩
  · unfold cutV
    rw [List.map_take, List.map_drop]
  · rw [List.length_take, List.length_drop]
    omega
mutual
theorem alB_refl {S : Av} {H : Hp} : ∀ (d : PyData) (v : V), At S H v d → alB d d = true
  | .none, _, _ => rfl
  | .bool b, _, _ => decide_eq_true rfl
  | .int b, _, _ => decide_eq_true rfl
  | .str b, _, _ => decide_eq_true rfl
  | .list ds, _, h => by
    cases h with
    | lst n e k =>
      show (decide (ds.length = ds.length) && alBs ds ds) = true
      rw [alBs_refl ds _ k, decide_eq_true rfl]
      rfl
  | .tuple ds, _, h => by
    cases h with
    | tup n e k =>
      show (decide (ds.length = ds.length) && alBs ds ds) = true
      rw [alBs_refl ds _ k, decide_eq_true rfl]
      rfl
  | .dict _, _, h => by cases h
theorem alBs_refl {S : Av} {H : Hp} : ∀ (ds : List PyData) (vs : List V), AtAll S H vs ds → alBs ds ds = true
  | [], _, _ => rfl
  | d :: ds, _, h => by
    cases h with
    | cons h1 h2 =>
      show (alB d d && alBs ds ds) = true
      rw [alB_refl d _ h1, alBs_refl ds _ h2]
      rfl
end
theorem dpt_toldD {B : Bks} {L : List Int} (ok : okBks B) (h : L.length ≤ 400) : Dpt 6 (.tuple [bksD B, .tuple ((fewest L).map prD)]) := dpt_tup (by show 2 ≤ 1000; decide) fun y hy => by
  simp only [List.mem_cons, List.not_mem_nil, or_false] at hy
  rcases hy with rfl | rfl
  · have := dpt_told ok (0, 1)
    rcases this with (⟨b, h⟩ | h) | ⟨i, h⟩ | ⟨z, h⟩ | ⟨ds', l, k, h | h⟩
    · cases h
    · cases h
    · cases h
    · cases h
    · cases h
    · cases h
      exact k _ List.mem_cons_self
  · refine dpt_tup ?_ fun x hx => ?_
    · have := fewest_len L []
      rw [List.length_map]
      have h2 : (fewest L).length ≤ 0 + L.length := this
      omega
    · obtain ⟨s, _, rfl⟩ := List.mem_map.mp hx
      exact dpt_pr s
theorem rowsD_pos {g : List (Option Int)} (h : 1 ≤ g.length) : 1 ≤ (rowsD g).length := by
  obtain ⟨n, hn⟩ : ∃ n, g.length = n + 1 := ⟨g.length - 1, by omega⟩
  have e := rowsD_succ (g := g) (i := n) (List.getElem?_eq_getElem (by omega))
  rw [← hn, List.take_length] at e
  rw [e]
  rcases List.eq_nil_or_concat (rowsD (g.take n)) with h0 | ⟨qs, s, h0⟩
  · rw [h0, rw_nil]
    exact Nat.le_refl _
  · rw [h0, List.concat_eq_append, rw_snoc]
    split <;> simp
theorem shaped_rwsT (L : List Rw3) : SeqAt.shaped (.tuple (L.map rwD)) = true := shaped_rws L
theorem shaped_rw (r : Rw3) : SeqAt.shaped (rwD r) = true := by
  unfold SeqAt.shaped
  rw [Bool.and_eq_true]
  exact ⟨lay_rw r, decide_eq_true (by have := dep_rw r; omega)⟩
/-- a thing that is not these rows -/
def NoRows (R : List Rw3) (D : PyData) : Prop := SeqAt.shaped D = true ∧ alB D (.list (R.map rwD)) = false
theorem noRows_all {R : List Rw3} {r0 : Rw3} (h : R[0]? = some r0) (n : Int) : ∀ D ∈ [PyData.none, .int 0, .str "rows", .tuple (R.map rwD), .list [], .list [.tuple []], .list [.none], .list (R.map rwD ++ [rwD (n, none, 1)]), rwD r0, .bool true], NoRows R D := by
  obtain ⟨R', rfl⟩ : ∃ R', R = r0 :: R' := by
    cases R with
    | nil => cases h
    | cons a b => cases h; exact ⟨b, rfl⟩
  intro D hD
  simp only [List.mem_cons, List.not_mem_nil, or_false] at hD
  rcases hD with rfl | rfl | rfl | rfl | rfl | rfl | rfl | rfl | rfl | rfl
  · exact ⟨by decide, rfl⟩
  · exact ⟨by decide, rfl⟩
  · exact ⟨by decide +kernel, rfl⟩
  · exact ⟨shaped_rwsT _, rfl⟩
  · exact ⟨by decide +kernel, rfl⟩
  · refine ⟨by decide +kernel, ?_⟩
    show (decide (1 = ((r0 :: R').map rwD).length) && (alB (.tuple []) (rwD r0) && alBs [] (R'.map rwD))) = false
    rw [show alB (.tuple []) (rwD r0) = false from rfl, Bool.false_and, Bool.and_false]
  · refine ⟨by decide +kernel, ?_⟩
    show (decide (1 = ((r0 :: R').map rwD).length) && (alB .none (rwD r0) && alBs [] (R'.map rwD))) = false
    rw [show alB .none (rwD r0) = false from rfl, Bool.false_and, Bool.and_false]
  · refine ⟨?_, ?_⟩
    · have := shaped_rws (r0 :: R' ++ [(n, none, 1)])
      rw [List.map_append] at this
      exact this
    · show (decide (((r0 :: R').map rwD ++ [rwD (n, none, 1)]).length = ((r0 :: R').map rwD).length) && _) = false
      rw [decide_eq_false (by rw [List.length_append, List.length_singleton]; omega), Bool.false_and]
  · exact ⟨shaped_rw r0, rfl⟩
  · exact ⟨by decide, rfl⟩
def sp_refL (C : Addr) : Sp := fun vs H Q _ => ∃ (S : Av) (v1 v2 v3 y : V), vs = [v1, v2, v3] ∧ LdBad S H C v1 v2 y ∧ ∀ t H', Same H H' → H t = none → H' t = some (.tup [.str "edition", y]) → Q (.ref t) H'
section
variable {P : Program} {w : World} {K : PySem.W.Frag} {mg : Str → Option Value} {base : Heap}
theorem ok_refL {C CE fE : Addr} (T : Txt K mg) (gx_NoEdition : mg "NoEdition" = some (.ref CE)) (XE : ExC K mg "NoEdition" CE fE) (mEE : PySem.W.exmOne K (.ref CE) (.ref CE) = some true)
    (cx_shows_rows : ClX P w K mg base 8 "shows_rows" ["one", "other", "thing"] (sp_showsX C CE)) (D : Df K mg "_law_refused" s__law_refused ["one", "other", "thing"]) : Cl P w K mg base 9 "_law_refused" ["one", "other", "thing"] (sp_refL C) := by
  refine ok_of D sc__law_refused (fun vs H Q E h => ?_) (fun f cdv A outer s H vs Q E hr h => ?_)
  · obtain ⟨_, _, _, _, _, rfl, _⟩ := h
    rfl
  · obtain ⟨S, v1, v2, v3, y, rfl, b, q⟩ := h
    refine ⟨_, (pss_cons (ps_try_A rfl rfl takes0 (fun W pn xe tkx hp => (pss_one (ps_expr (pe_clS cx_shows_rows hr (by decide) (by rfl) tkx (pa_cons (pv 0) (pa_cons (pv 1) (pa_cons (pv 2) pa_nil)))))))
        (.as_ (i := 3) sc__law_refused.nd rfl rfl ⟨by rfl, by decide, .inl gx_NoEdition⟩ (fun a oe cls d pn hz hf => (pss_one (ps_ret (pe_tup (pa_cons pe_str (pa_cons (pe_xg hz hf (pv 3)) pa_nil))))))
        .nil))
      (pss_one (ps_ret (pe_tup (pa_cons pe_str (pa_cons pe_non pa_nil)))))), ?_⟩
    refine ⟨_, rfl, _, rfl, _, rfl, S, v1, v2, v3, y, rfl, b, fun dd H' S1 e => ⟨true, mEE, fun _ a ha => ?_, fun z => absurd z (by decide)⟩⟩
    exact ⟨_, rfl, rfl, CE, dd, _, y, rfl, XE.X, XE.nF, rfl, e, rfl, by show 2 ≤ sizeLine; decide, fun t ht => q t _ (S1.trans (same_new ht)) (Same.fresh S1 ht) upd_same⟩
end
end My
set_option linter.all false
/-! S3: isinstance of an own class. -/
namespace My
open PySem PySem.Spec PyProof.Rows L2
theorem kit_sub {K : PySem.W.Frag} {C : Addr} {T : String} {b : Bool} (m : PySem.W.kitMeta T = true) (h : PySem.W.subIn K (.ref C) (.type T) = some b) : PySem.W.kitOne K (.ref C) (.type T) = some b := by
  have e : (Value.ref C == Value.type T) = false := rfl
  unfold PySem.W.kitOne
  rw [e, if_neg Bool.false_ne_true]
  show (if PySem.W.kitMeta T = true then PySem.W.subIn K (.ref C) (.type T) else none) = some b
  rw [if_pos m]
  exact h
theorem kit_self {K : PySem.W.Frag} {C : Addr} : PySem.W.kitOne K (.ref C) (.ref C) = some true := by
  have e : (Value.ref C == Value.ref C) = true := beq_self_eq_true _
  unfold PySem.W.kitOne
  rw [e, if_pos rfl]
end My
set_option Elab.async false
set_option linter.all false
set_option maxRecDepth 100000
set_option maxHeartbeats 4000000
namespace My
open PySem PySem.Spec PyProof.Rows L2
/-! H2c: an edition of these books, its lines in this order. -/
theorem ok_pairsOf {ps : List (Int × Int)} {L : List Int} (pos : ∀ s ∈ ps, 1 ≤ s.2) (ln : lnOf ps = L) (nd : L.Nodup) (hL : lns L) (h4 : L.length ≤ 400) : okPairs ps (L.length : Nat) := by
  have sum := lnOf_len ps pos
  rw [ln] at sum
  have sub : ∀ s ∈ ps, ∀ z ∈ lnP s, z ∈ L := fun s hs z hz => by
    rw [← ln]
    exact List.mem_flatMap.mpr ⟨s, hs, hz⟩
  have inP : ∀ s : Int × Int, ∀ z, s.1 ≤ z → z < s.1 + s.2 → z ∈ lnP s := fun s z h0 h1 => by
    unfold lnP
    exact List.mem_map.mpr ⟨(z - s.1).toNat, List.mem_range.mpr (by omega), by omega⟩
  have ls := len_sum (ps.map (·.2)) (fun m hm => by
    obtain ⟨s, hs, rfl⟩ := List.mem_map.mp hm
    exact pos s hs)
  rw [List.length_map, ← sum] at ls
  have nd' := nd
  rw [← ln] at nd'
  unfold lnOf at nd'
  obtain ⟨_, pw⟩ := List.pairwise_flatMap.mp nd'
  refine ⟨by omega, fun s hs => ?_, sum.symm, ?_⟩
  · have p1 := pos s hs
    have f := hL s.1 (sub s hs _ (inP s _ (Int.le_refl _) (by omega)))
    have l := hL (s.1 + s.2 - 1) (sub s hs _ (inP s _ (by omega) (by omega)))
    have : s.2 ≤ 400 := by
      have h1 : (lnP s).length ≤ L.length := by
        have ndp := lnP_nodup s
        obtain ⟨i, hi⟩ := List.mem_iff_getElem?.mp hs
        have : L.length = (ps.flatMap lnP).length := congrArg List.length ln.symm
        rw [this]
        have e : ps = ps.take i ++ s :: ps.drop (i + 1) := by
          have hi' : i < ps.length := (List.getElem?_eq_some_iff.mp hi).1
          have h := List.take_append_drop i ps
          rw [List.drop_eq_getElem_cons hi', (List.getElem?_eq_some_iff.mp hi).2] at h
          exact h.symm
        rw [e, List.flatMap_append, List.flatMap_cons, List.length_append, List.length_append]
        omega
      rw [lnP_len] at h1
      omega
    exact ⟨f.1, p1, this, by omega⟩
  · refine (List.pairwise_iff_getElem.mpr fun i j hi hj hij => ?_)
    have pwij := List.pairwise_iff_getElem.mp pw i j hi hj hij
    have p1 := pos _ (List.getElem_mem hi)
    have p2 := pos _ (List.getElem_mem hj)
    generalize ps[i] = s at pwij p1
    generalize ps[j] = t at pwij p2
    show s.1 + s.2 ≤ t.1 ∨ t.1 + t.2 ≤ s.1
    by_cases h1 : s.1 + s.2 ≤ t.1
    · exact .inl h1
    · by_cases h2 : t.1 + t.2 ≤ s.1
      · exact .inr h2
      · exfalso
        by_cases h3 : s.1 ≤ t.1
        · exact pwij t.1 (inP s _ h3 (by omega)) t.1 (inP t _ (Int.le_refl _) (by omega)) rfl
        · exact pwij s.1 (inP s _ (Int.le_refl _) (by omega)) s.1 (inP t _ (by omega) (by omega)) rfl
theorem lnOf_snoc (ps : List (Int × Int)) (s : Int × Int) : lnOf (ps ++ [s]) = lnOf ps ++ lnP s := by
  unfold lnOf
  rw [List.flatMap_append, List.flatMap_cons, List.flatMap_nil, List.append_nil]
theorem lnP_one (z : Int) : lnP (z, 1) = [z] := by
  show [z + ((0 : Nat) : Int)] = [z]
  simp
/-- copied books as a tuple are books handed in -/
theorem bksT_in {S : Av} {H' : Hp} {t : Addr} {xs : List V} {B : Bks} (e : H' t = some (.tup xs)) (k : AtAll S H' xs (B.map bkLD)) : BksIn S H' (.ref t) B := by
  refine ⟨t, xs, rfl, .inr e, by rw [k.len, List.length_map], fun i x b h1 h2 => ?_⟩
  obtain ⟨b', h3, h4⟩ := k.at_ h1
  rw [h2] at h3
  cases h3
  obtain ⟨a2, c, zs, e1, n1, e2, n2, e3, k2⟩ := h4.bkL
  refine ⟨a2, c, zs, e1, e2, .inl e3, by rw [k2.len, List.length_map], fun j y cc h5 h6 => ?_⟩
  obtain ⟨c', h7, h8⟩ := k2.at_ h5
  rw [h6] at h7
  cases h7
  obtain ⟨a', e4, n4, e5⟩ := h8.row
  exact ⟨a', e4, n4, .inl e5⟩
def sp_edL (C : Addr) : Sp := fun vs H Q _ => ∃ (S S0 : Av) (v : V) (tl : Addr) (Th : List Int) (B : Bks) (way : Int), vs = [v, .ref tl, .int way] ∧ Occ S H ∧ At S0 H v (bksLD B) ∧ okBks B ∧ (plOf B).length ≤ 400 ∧ H tl = some (.lst (Th.map V.int)) ∧ Th.length = (plOf B).length ∧ Th.Nodup ∧ lns Th ∧ ∀ e H', Same H H' → H e = none → EdAt S H' C e B Th → Q (.ref e) H'
section
variable {P : Program} {w : World} {K : PySem.W.Frag} {mg : Str → Option Value} {base : Heap}
theorem ok_edL {C : Addr} (T : Txt K mg) (c__law_copy : Cl P w K mg base 2 "_law_copy" ["books"] sp_copy) (c_EdD : C8.Mak P w K mg base 6 "Edition" C (sp_init C) [.non]) (c_EdN : MakN P w K mg base 6 "Edition" C 1 ["lines"] (fun vs zs => vs ++ zs) (sp_init C)) (D : Df K mg "_law_edition" s__law_edition ["books", "threads", "way"]) : Cl P w K mg base 8 "_law_edition" ["books", "threads", "way"] (sp_edL C) := by
  refine ok_of D sc__law_edition (fun vs H Q E h => ?_) (fun f cdv A outer s H vs Q E hr h => ?_)
  · obtain ⟨S, S0, v, tl, Th, B, way, rfl, _⟩ := h
    rfl
  · obtain ⟨S, S0, v, tl, Th, B, way, rfl, ho, hv, okB, l4, ht, lT, nd, hb, q⟩ := h
    refine ⟨_, (pss_cons (ps_if (PW.pt (pw_and (pt_cmpR op_eq (pe_op op_mod (pv 2) pe_int) pe_int (nomark _)) (pw_and1 (pt_cmpR (op_eqD hr.units) (pv 1) (pe_listRg rfl (by rfl) T.b_list (prg_1 (by rfl) T.b_range (pe_callB call_len (by rfl) T.b_len (by decide +kernel) (pa_cons (pv 1) pa_nil)))) (nomark _))))) (pss_one (ps_ret (C8.pe_mk c_EdD hr (by decide) (by rfl) (pa_cons (pe_cl c__law_copy hr (by decide) (by rfl) (pa_cons (pv 0) pa_nil)) pa_nil)))) pss_nil)
      (pss_cons (ps_set (i := 3) sc__law_edition.nd rfl (.inl rfl) (pe_lst pa_nil))
      (pss_cons (ps_for PassesOwn.never rfl (pi_list (pv 1)) (pg_name (i := 4) sc__law_edition.nd rfl (.inl rfl))
        (pss_one (ps_if (PW.pt (pw_and (pt_cmpR op_eq (pe_op op_mod (pv 2) pe_int) pe_int (nomark _)) (pw_and (pt_cmpR (op_neD hr.units) (pv 3) (pe_lst pa_nil) (nomark _)) (pw_and1 (pt_cmpR op_eq (pe_op op_add (pe_ix ix_tup (pe_ix ix_list (pv 3) (pe_un un_neg pe_int) (fun _ _ => rfl)) pe_int (fun _ _ => rfl)) (pe_ix ix_tup (pe_ix ix_list (pv 3) (pe_un un_neg pe_int) (fun _ _ => rfl)) pe_int (fun _ _ => rfl))) (pv 4) (nomark _)))))) (pss_one (ps_asg (pe_tup (pa_cons (pe_ix ix_tup (pe_ix ix_list (pv 3) (pe_un un_neg pe_int) (fun _ _ => rfl)) pe_int (fun _ _ => rfl)) (pa_cons (pe_op op_add (pe_ix ix_tup (pe_ix ix_list (pv 3) (pe_un un_neg pe_int) (fun _ _ => rfl)) pe_int (fun _ _ => rfl)) pe_int) pa_nil))) (pg_sub (pv 3) (pe_un un_neg pe_int) set_list))) (pss_one (ps_expr (pe_bm PySem.F.plainAttrs_list PySem.F.slot_list_append PySem.F.type_list_append mt_append (pv 3) (pa_cons (pe_tup (pa_cons (pv 4) (pa_cons pe_int pa_nil))) pa_nil)))))))
      (pss_one (ps_ret (pe_mkN c_EdN hr (by decide) (by rfl) (pa_cons (pe_callTy call_tuple_of (by rfl) T.b_tuple (by decide +kernel) (pa_cons (pe_cl c__law_copy hr (by decide) (by rfl) (pa_cons (pv 0) pa_nil)) pa_nil)) pa_nil) (pk_cons (pv 3) pk_nil))))))), ?_⟩
    refine ⟨_, rfl, way, 3, rfl, rfl, (by show (0 : Int) < 3; decide), rfl, _, rfl, ite2 (fun _ => ?_) (fun _ => ite2 (fun z => absurd z Bool.false_ne_true) fun _ => ?_)⟩
    · refine ⟨_, rfl, _, rfl, _, Th.length, rfl, .inl ⟨_, .inl (.inl ht), (List.length_map ..).symm⟩, (Th.length : Nat), rfl, ?_, fun rl hrl => ?_⟩
      · exact RgOk.of_le (by omega) (by omega) (by omega) (by omega)
      have S1 := same_new (o := .lst (rgV 0 ((Th.length : Nat) : Int))) hrl
      have er := upd_same (H := H) (a := rl) (o := .lst (rgV 0 ((Th.length : Nat) : Int)))
      generalize upd H rl (.lst (rgV 0 ((Th.length : Nat) : Int))) = H1 at S1 er ⊢
      rw [rg_ln, Int.sub_zero] at er
      refine ⟨.list (Th.map PyData.int), .list ((lnP (0, ((Th.length : Nat) : Int))).map PyData.int), At.dp _ _ (.lst (p := fun _ => False) (fun z => z) (S1 _ _ ht) (AtAll.ints Th)), At.dp _ _ (.lst (p := fun _ => False) (fun z => z) er (AtAll.ints _)), shapedI _, shapedI _, _, rfl, ?_⟩
      rw [show PyData.eqv (.list (Th.map PyData.int)) (.list ((lnP (0, ((Th.length : Nat) : Int))).map PyData.int)) = _ from eqv_intsL _ _]
      refine ite2 (fun c => ?_) (fun _ => ?_)
      · have eTh := of_decide_eq_true c
        refine ⟨_, rfl, S, S0, v, B, rfl, ho.same S1, At.same hv S1, okB.l1, fun b hb => (okB.ch b hb).2.1, fun lc H3 hlc S3 aC => ?_⟩
        intro e dx he hdx ne
        have S4 : Same H3 (upd (upd H3 dx (.own e)) e (.ins C dx [])) := (same_new hdx).trans (same_new (by rw [upd_ne ne.symm]; exact he))
        have o3 := (ho.same S1).same S3
        have lns' : lnsD none ((plOf B).length : Nat) = Th := by
          rw [eTh, lT]
          rfl
        refine ⟨S, e, dx, .ref lc, .non, B, none, rfl, o3.free he, o3.same S4, upd_same, (bksL_in aC).same S4, okB, rfl, ⟨by omega, by omega, trivial⟩, by rw [lns']; exact nd, by rw [lns']; exact lT, fun H5 B5 ed5 => ⟨rfl, ?_⟩⟩
        rw [lns'] at ed5
        have S5 : Same H3 H5 := fun b ob eo => B5 b ob (ne_of_none eo he) (S4 b ob eo)
        exact q e H5 ((S1.trans S3).trans S5) (Same.fresh (S1.trans S3) he) ed5
      · refine ⟨Nat.zero_le _, fun k hk => ?_⟩
        have o1 : Occ S H1 := ho.same S1
        have ht1 := S1 _ _ ht
        refine ⟨_, rfl, tl, rfl, ⟨_, .inl (.inl (same_new hk _ _ ht1))⟩, for_it (walk_list (xs := Th.map V.int)) (fun i σ H' => ∃ (t4 : Option V) (rows : List V) (ps : List (Int × Int)), σ = [some v, some (.ref tl), some (.int way), some (.ref k), t4] ∧ LcS S H1 k rows (ps.map prD) H' ∧ lnOf ps = Th.take i ∧ ∀ s ∈ ps, 1 ≤ s.2) ⟨_, [], [], rfl, LcS.start hk, rfl, fun s h => by cases h⟩ (fun i σ H' _ ⟨_, _, _, _, c, _⟩ => .inl (.inl (c.s _ _ ht1))) ?_ ?_⟩
        · rintro i x σ H2 H2' hi ⟨t4, rows, ps, rfl, c, ln, pos⟩ ⟨rfl, hx⟩
          rw [List.length_map] at hi
          obtain ⟨z, hz⟩ : ∃ z, Th[i]? = some z := ⟨_, List.getElem?_eq_getElem hi⟩
          rw [List.getElem?_map, hz] at hx
          cases hx
          have eT : Th.take (i + 1) = Th.take i ++ [z] := by rw [List.take_add_one, hz]; rfl
          have lr : rows.length ≤ 400 := by
            have h1 := lnOf_len ps pos
            have h2 := len_sum (ps.map (·.2)) fun m hm => by
              obtain ⟨s, hs, rfl⟩ := List.mem_map.mp hm
              exact pos s hs
            rw [c.len, List.length_map]
            rw [ln, List.length_take] at h1
            rw [List.length_map] at h2
            omega
          refine ⟨_, rfl, way, 2, rfl, rfl, (by show (0 : Int) < 2; decide), rfl, _, rfl, ite2 (fun _ => ?_) (fun _ => ite2 (fun z => absurd z Bool.false_ne_true) fun _ => ?_)⟩
          · refine ⟨_, rfl, Nat.zero_le _, fun n0 hn0 => ?_⟩
            have c9 := c.keep (same_new (o := .lst []) hn0)
            have dpr : Dp K (upd H2' n0 (.lst [])) (.ref k) (.list (ps.map prD)) := At.dp _ _ (.lst (p := fun _ => False) (xs := rows) (fun z => z) c9.at_ (AtAll.weak (fun _ z => z.elim) _ _ c9.a))
            refine ⟨_, .list [], dpr, .lst (.inl (.inl upd_same)) .nil, shaped_prs _, by decide +kernel, ?_⟩
            clear dpr
            generalize upd H2' n0 (.lst []) = H4 at c9 ⊢
            rcases List.eq_nil_or_concat ps with e | ⟨ps0, s, e⟩
            · have ev : (!PyData.eqv (.list (ps.map prD)) (.list [])) = false := by rw [e]; rfl
              rw [ev]
              refine ⟨_, rfl, ite2 (fun z => absurd z Bool.false_ne_true) fun _ => ite2 (fun z => absurd z Bool.false_ne_true) fun _ => ?_⟩
              refine ⟨_, rfl, .inl ⟨rfl, _, .inl (.inl c9.at_)⟩, _, rfl, by show 2 ≤ sizeLine; decide, fun t' ht' => ?_⟩
              have c2 := c9.keep (same_new (o := .tup [.int z, .int 1]) ht')
              have nt' : ¬ Plus S k t' := (c9.occ o1).free ht'
              refine ⟨k, _, _, rfl, rfl, c2.at_, sz1000 (by omega), _, rows ++ [.ref t'], ps ++ [(z, 1)], rfl, ?_, ?_, ?_⟩
              · rw [List.map_append]
                exact c2.step (.ofpair nt' upd_same)
              · rw [lnOf_snoc, lnP_one, ln, eT]
              · exact fun u hu => (List.mem_append.mp hu).elim (pos u) fun hu => by cases List.mem_singleton.mp hu; exact Int.le_refl _
            · rw [List.concat_eq_append] at e
              have ev : (!PyData.eqv (.list (ps.map prD)) (.list [])) = true := by
                rw [e]
                cases ps0 <;> rfl
              rw [ev]
              refine ⟨_, rfl, ite2 (fun _ => ?_) (fun z => absurd (show true = true from rfl) z)⟩
              have ca := c9.a
              have cat := c9.at_
              rw [e, List.map_append] at ca
              obtain ⟨ys, y, er, a1, a2⟩ := AtAll.snoc ca
              obtain ⟨t, rfl, nt, et⟩ := a2.pair
              rw [er] at cat
              refine ⟨_, rfl, _, rfl, k, _, -1, .ref t, rfl, rfl, .inl (.inl cat), atI_last ys _, t, _, 0, _, rfl, rfl, .inl (.inl et), atI_nat (j := 0) rfl, _, rfl, _, rfl, k, _, -1, .ref t, rfl, rfl, .inl (.inl cat), atI_last ys _, t, _, 1, _, rfl, rfl, .inl (.inl et), atI_nat (j := 1) rfl, s.1, s.2, rfl, rfl, _, rfl, rfl, _, rfl, ?_⟩
              by_cases e3 : s.1 + s.2 = z
              · refine ite2 (fun _ => ?_) (fun q => absurd (decide_eq_true (congrArg V.int e3)) q)
                refine ⟨_, rfl, _, rfl, k, _, -1, .ref t, rfl, rfl, .inl (.inl cat), atI_last ys _, t, _, 0, _, rfl, rfl, .inl (.inl et), atI_nat (j := 0) rfl, _, rfl, _, rfl, k, _, -1, .ref t, rfl, rfl, .inl (.inl cat), atI_last ys _, t, _, 1, _, rfl, rfl, .inl (.inl et), atI_nat (j := 1) rfl, s.2, 1, rfl, rfl, by show 2 ≤ sizeLine; decide, fun t' ht' => ?_⟩
                have c2 := c9.keep (same_new (o := .tup [.int s.1, .int (s.2 + 1)]) ht')
                have nt' : ¬ Plus S k t' := (c9.occ o1).free ht'
                have hd : At (Plus S k) (upd H4 t' (.tup [.int s.1, .int (s.2 + 1)])) (.ref t') (prD (s.1, s.2 + 1)) := .ofpair nt' upd_same
                have c3 := c2.put (ys := ys ++ [.ref t']) (es := ps0.map prD ++ [prD (s.1, s.2 + 1)]) ((AtAll.same a1 (same_new ht')).app (.cons hd .nil))
                have cat2 := c2.at_
                rw [er] at cat2
                refine ⟨_, rfl, _, rfl, k, ys ++ [.ref t], -1, ys.length, rfl, rfl, cat2, ?_, _, ys ++ [.ref t'], ps0 ++ [(s.1, s.2 + 1)], rfl, ?_, ?_, ?_⟩
                · unfold ixN
                  rw [if_neg (by decide), List.length_append, List.length_singleton, if_pos (by omega)]
                  exact congrArg some (by omega)
                · rw [show (ys ++ [V.ref t]).set ys.length (.ref t') = ys ++ [.ref t'] by simp, List.map_append]
                  exact c3
                · have s1 := pos s (by rw [e]; simp)
                  rw [lnOf_snoc, lnP_succ (by omega), ← List.append_assoc, ← lnOf_snoc, ← e, ln, eT, e3]
                · exact fun u hu => (List.mem_append.mp hu).elim (fun hu => pos u (by rw [e]; exact List.mem_append_left _ hu)) fun hu => by
                    cases List.mem_singleton.mp hu
                    have := pos s (by rw [e]; simp)
                    show 1 ≤ s.2 + 1
                    omega
              · refine ite2 (fun q => absurd (V.int.inj (of_decide_eq_true q)) e3) (fun _ => ?_)
                refine ⟨_, rfl, .inl ⟨rfl, _, .inl (.inl c9.at_)⟩, _, rfl, by show 2 ≤ sizeLine; decide, fun t' ht' => ?_⟩
                have c2 := c9.keep (same_new (o := .tup [.int z, .int 1]) ht')
                have nt' : ¬ Plus S k t' := (c9.occ o1).free ht'
                refine ⟨k, _, _, rfl, rfl, c2.at_, sz1000 (by omega), _, rows ++ [.ref t'], ps ++ [(z, 1)], rfl, ?_, ?_, ?_⟩
                · rw [List.map_append]
                  exact c2.step (.ofpair nt' upd_same)
                · rw [lnOf_snoc, lnP_one, ln, eT]
                · exact fun u hu => (List.mem_append.mp hu).elim (pos u) fun hu => by cases List.mem_singleton.mp hu; exact Int.le_refl _
          · refine ⟨_, rfl, .inl ⟨rfl, _, .inl (.inl c.at_)⟩, _, rfl, by show 2 ≤ sizeLine; decide, fun t' ht' => ?_⟩
            have c2 := c.keep (same_new (o := .tup [.int z, .int 1]) ht')
            have nt' : ¬ Plus S k t' := (c.occ o1).free ht'
            refine ⟨k, _, _, rfl, rfl, c2.at_, sz1000 (by omega), _, rows ++ [.ref t'], ps ++ [(z, 1)], rfl, ?_, ?_, ?_⟩
            · rw [List.map_append]
              exact c2.step (.ofpair nt' upd_same)
            · rw [lnOf_snoc, lnP_one, ln, eT]
            · exact fun u hu => (List.mem_append.mp hu).elim (pos u) fun hu => by cases List.mem_singleton.mp hu; exact Int.le_refl _
        · rintro σ H2 ⟨t4, rows, ps, rfl, c, ln, pos⟩
          rw [List.length_map, List.take_length] at ln
          have okP := ok_pairsOf pos ln nd hb (by omega)
          rw [lT] at okP
          have S2 := S1.trans c.s
          have pr := all_prs c.done
          refine ⟨_, rfl, S, S0, v, B, rfl, ho.same S2, At.same hv S2, okB.l1, fun b hb => (okB.ch b hb).2.1, fun lc H3 hlc S3 aC => ?_⟩
          obtain ⟨a, xs, ea, na, el, ka⟩ := aC.bksL
          cases ea
          refine ⟨lc, xs, rfl, .inl ⟨.inl (.inl el), fun tt htt => ?_⟩⟩
          have S4 := same_new (o := .tup xs) htt
          refine ⟨_, rfl, rfl, rfl, ?_⟩
          intro e dx he hdx ne
          have S5 : Same (upd H3 tt (.tup xs)) (upd (upd (upd H3 tt (.tup xs)) dx (.own e)) e (.ins C dx [])) := (same_new hdx).trans (same_new (by rw [upd_ne ne.symm]; exact he))
          have o3 := ((ho.same S2).same S3).same S4
          have lns' : lnsD (some ps) ((plOf B).length : Nat) = Th := ln
          refine ⟨S, e, dx, .ref tt, .ref k, B, some ps, rfl, o3.free he, o3.same S5, upd_same, (bksT_in upd_same (AtAll.same ka S4)).same S5, okB, ?_, ⟨by omega, by omega, okP⟩, by rw [lns']; exact nd, by rw [lns']; exact lT, fun H6 B6 ed6 => ⟨rfl, ?_⟩⟩
          · exact ⟨k, rows, rfl, .inl (S5 _ _ (S4 _ _ (S3 _ _ c.at_))), pr.1, fun i x s h1 h2 => let ⟨t, e1, e2⟩ := pr.2 i x s h1 h2; ⟨t, e1, S5 _ _ (S4 _ _ (S3 _ _ e2))⟩⟩
          · rw [lns'] at ed6
            have S6 : Same (upd H3 tt (.tup xs)) H6 := fun b ob eo => B6 b ob (ne_of_none eo he) (S5 b ob eo)
            have SS := ((S2.trans S3).trans S4).trans S6
            exact q e H6 SS (Same.fresh ((S2.trans S3).trans S4) he) ed6
    · have S1 := Same.refl H
      refine ⟨Nat.zero_le _, fun k hk => ?_⟩
      have o1 : Occ S H := ho.same S1
      have ht1 := S1 _ _ ht
      refine ⟨_, rfl, tl, rfl, ⟨_, .inl (.inl (same_new hk _ _ ht1))⟩, for_it (walk_list (xs := Th.map V.int)) (fun i σ H' => ∃ (t4 : Option V) (rows : List V) (ps : List (Int × Int)), σ = [some v, some (.ref tl), some (.int way), some (.ref k), t4] ∧ LcS S H k rows (ps.map prD) H' ∧ lnOf ps = Th.take i ∧ ∀ s ∈ ps, 1 ≤ s.2) ⟨_, [], [], rfl, LcS.start hk, rfl, fun s h => by cases h⟩ (fun i σ H' _ ⟨_, _, _, _, c, _⟩ => .inl (.inl (c.s _ _ ht1))) ?_ ?_⟩
      · rintro i x σ H2 H2' hi ⟨t4, rows, ps, rfl, c, ln, pos⟩ ⟨rfl, hx⟩
        rw [List.length_map] at hi
        obtain ⟨z, hz⟩ : ∃ z, Th[i]? = some z := ⟨_, List.getElem?_eq_getElem hi⟩
        rw [List.getElem?_map, hz] at hx
        cases hx
        have eT : Th.take (i + 1) = Th.take i ++ [z] := by rw [List.take_add_one, hz]; rfl
        have lr : rows.length ≤ 400 := by
          have h1 := lnOf_len ps pos
          have h2 := len_sum (ps.map (·.2)) fun m hm => by
            obtain ⟨s, hs, rfl⟩ := List.mem_map.mp hm
            exact pos s hs
          rw [c.len, List.length_map]
          rw [ln, List.length_take] at h1
          rw [List.length_map] at h2
          omega
        refine ⟨_, rfl, way, 2, rfl, rfl, (by show (0 : Int) < 2; decide), rfl, _, rfl, ite2 (fun _ => ?_) (fun _ => ite2 (fun z => absurd z Bool.false_ne_true) fun _ => ?_)⟩
        · refine ⟨_, rfl, Nat.zero_le _, fun n0 hn0 => ?_⟩
          have c9 := c.keep (same_new (o := .lst []) hn0)
          have dpr : Dp K (upd H2' n0 (.lst [])) (.ref k) (.list (ps.map prD)) := At.dp _ _ (.lst (p := fun _ => False) (xs := rows) (fun z => z) c9.at_ (AtAll.weak (fun _ z => z.elim) _ _ c9.a))
          refine ⟨_, .list [], dpr, .lst (.inl (.inl upd_same)) .nil, shaped_prs _, by decide +kernel, ?_⟩
          clear dpr
          generalize upd H2' n0 (.lst []) = H4 at c9 ⊢
          rcases List.eq_nil_or_concat ps with e | ⟨ps0, s, e⟩
          · have ev : (!PyData.eqv (.list (ps.map prD)) (.list [])) = false := by rw [e]; rfl
            rw [ev]
            refine ⟨_, rfl, ite2 (fun z => absurd z Bool.false_ne_true) fun _ => ite2 (fun z => absurd z Bool.false_ne_true) fun _ => ?_⟩
            refine ⟨_, rfl, .inl ⟨rfl, _, .inl (.inl c9.at_)⟩, _, rfl, by show 2 ≤ sizeLine; decide, fun t' ht' => ?_⟩
            have c2 := c9.keep (same_new (o := .tup [.int z, .int 1]) ht')
            have nt' : ¬ Plus S k t' := (c9.occ o1).free ht'
            refine ⟨k, _, _, rfl, rfl, c2.at_, sz1000 (by omega), _, rows ++ [.ref t'], ps ++ [(z, 1)], rfl, ?_, ?_, ?_⟩
            · rw [List.map_append]
              exact c2.step (.ofpair nt' upd_same)
            · rw [lnOf_snoc, lnP_one, ln, eT]
            · exact fun u hu => (List.mem_append.mp hu).elim (pos u) fun hu => by cases List.mem_singleton.mp hu; exact Int.le_refl _
          · rw [List.concat_eq_append] at e
            have ev : (!PyData.eqv (.list (ps.map prD)) (.list [])) = true := by
              rw [e]
              cases ps0 <;> rfl
            rw [ev]
            refine ⟨_, rfl, ite2 (fun _ => ?_) (fun z => absurd (show true = true from rfl) z)⟩
            have ca := c9.a
            have cat := c9.at_
            rw [e, List.map_append] at ca
            obtain ⟨ys, y, er, a1, a2⟩ := AtAll.snoc ca
            obtain ⟨t, rfl, nt, et⟩ := a2.pair
            rw [er] at cat
            refine ⟨_, rfl, _, rfl, k, _, -1, .ref t, rfl, rfl, .inl (.inl cat), atI_last ys _, t, _, 0, _, rfl, rfl, .inl (.inl et), atI_nat (j := 0) rfl, _, rfl, _, rfl, k, _, -1, .ref t, rfl, rfl, .inl (.inl cat), atI_last ys _, t, _, 1, _, rfl, rfl, .inl (.inl et), atI_nat (j := 1) rfl, s.1, s.2, rfl, rfl, _, rfl, rfl, _, rfl, ?_⟩
            by_cases e3 : s.1 + s.2 = z
            · refine ite2 (fun _ => ?_) (fun q => absurd (decide_eq_true (congrArg V.int e3)) q)
              refine ⟨_, rfl, _, rfl, k, _, -1, .ref t, rfl, rfl, .inl (.inl cat), atI_last ys _, t, _, 0, _, rfl, rfl, .inl (.inl et), atI_nat (j := 0) rfl, _, rfl, _, rfl, k, _, -1, .ref t, rfl, rfl, .inl (.inl cat), atI_last ys _, t, _, 1, _, rfl, rfl, .inl (.inl et), atI_nat (j := 1) rfl, s.2, 1, rfl, rfl, by show 2 ≤ sizeLine; decide, fun t' ht' => ?_⟩
              have c2 := c9.keep (same_new (o := .tup [.int s.1, .int (s.2 + 1)]) ht')
              have nt' : ¬ Plus S k t' := (c9.occ o1).free ht'
              have hd : At (Plus S k) (upd H4 t' (.tup [.int s.1, .int (s.2 + 1)])) (.ref t') (prD (s.1, s.2 + 1)) := .ofpair nt' upd_same
              have c3 := c2.put (ys := ys ++ [.ref t']) (es := ps0.map prD ++ [prD (s.1, s.2 + 1)]) ((AtAll.same a1 (same_new ht')).app (.cons hd .nil))
              have cat2 := c2.at_
              rw [er] at cat2
              refine ⟨_, rfl, _, rfl, k, ys ++ [.ref t], -1, ys.length, rfl, rfl, cat2, ?_, _, ys ++ [.ref t'], ps0 ++ [(s.1, s.2 + 1)], rfl, ?_, ?_, ?_⟩
              · unfold ixN
                rw [if_neg (by decide), List.length_append, List.length_singleton, if_pos (by omega)]
                exact congrArg some (by omega)
              · rw [show (ys ++ [V.ref t]).set ys.length (.ref t') = ys ++ [.ref t'] by simp, List.map_append]
                exact c3
              · have s1 := pos s (by rw [e]; simp)
                rw [lnOf_snoc, lnP_succ (by omega), ← List.append_assoc, ← lnOf_snoc, ← e, ln, eT, e3]
              · exact fun u hu => (List.mem_append.mp hu).elim (fun hu => pos u (by rw [e]; exact List.mem_append_left _ hu)) fun hu => by
                  cases List.mem_singleton.mp hu
                  have := pos s (by rw [e]; simp)
                  show 1 ≤ s.2 + 1
                  omega
            · refine ite2 (fun q => absurd (V.int.inj (of_decide_eq_true q)) e3) (fun _ => ?_)
              refine ⟨_, rfl, .inl ⟨rfl, _, .inl (.inl c9.at_)⟩, _, rfl, by show 2 ≤ sizeLine; decide, fun t' ht' => ?_⟩
              have c2 := c9.keep (same_new (o := .tup [.int z, .int 1]) ht')
              have nt' : ¬ Plus S k t' := (c9.occ o1).free ht'
              refine ⟨k, _, _, rfl, rfl, c2.at_, sz1000 (by omega), _, rows ++ [.ref t'], ps ++ [(z, 1)], rfl, ?_, ?_, ?_⟩
              · rw [List.map_append]
                exact c2.step (.ofpair nt' upd_same)
              · rw [lnOf_snoc, lnP_one, ln, eT]
              · exact fun u hu => (List.mem_append.mp hu).elim (pos u) fun hu => by cases List.mem_singleton.mp hu; exact Int.le_refl _
        · refine ⟨_, rfl, .inl ⟨rfl, _, .inl (.inl c.at_)⟩, _, rfl, by show 2 ≤ sizeLine; decide, fun t' ht' => ?_⟩
          have c2 := c.keep (same_new (o := .tup [.int z, .int 1]) ht')
          have nt' : ¬ Plus S k t' := (c.occ o1).free ht'
          refine ⟨k, _, _, rfl, rfl, c2.at_, sz1000 (by omega), _, rows ++ [.ref t'], ps ++ [(z, 1)], rfl, ?_, ?_, ?_⟩
          · rw [List.map_append]
            exact c2.step (.ofpair nt' upd_same)
          · rw [lnOf_snoc, lnP_one, ln, eT]
          · exact fun u hu => (List.mem_append.mp hu).elim (pos u) fun hu => by cases List.mem_singleton.mp hu; exact Int.le_refl _
      · rintro σ H2 ⟨t4, rows, ps, rfl, c, ln, pos⟩
        rw [List.length_map, List.take_length] at ln
        have okP := ok_pairsOf pos ln nd hb (by omega)
        rw [lT] at okP
        have S2 := S1.trans c.s
        have pr := all_prs c.done
        refine ⟨_, rfl, S, S0, v, B, rfl, ho.same S2, At.same hv S2, okB.l1, fun b hb => (okB.ch b hb).2.1, fun lc H3 hlc S3 aC => ?_⟩
        obtain ⟨a, xs, ea, na, el, ka⟩ := aC.bksL
        cases ea
        refine ⟨lc, xs, rfl, .inl ⟨.inl (.inl el), fun tt htt => ?_⟩⟩
        have S4 := same_new (o := .tup xs) htt
        refine ⟨_, rfl, rfl, rfl, ?_⟩
        intro e dx he hdx ne
        have S5 : Same (upd H3 tt (.tup xs)) (upd (upd (upd H3 tt (.tup xs)) dx (.own e)) e (.ins C dx [])) := (same_new hdx).trans (same_new (by rw [upd_ne ne.symm]; exact he))
        have o3 := ((ho.same S2).same S3).same S4
        have lns' : lnsD (some ps) ((plOf B).length : Nat) = Th := ln
        refine ⟨S, e, dx, .ref tt, .ref k, B, some ps, rfl, o3.free he, o3.same S5, upd_same, (bksT_in upd_same (AtAll.same ka S4)).same S5, okB, ?_, ⟨by omega, by omega, okP⟩, by rw [lns']; exact nd, by rw [lns']; exact lT, fun H6 B6 ed6 => ⟨rfl, ?_⟩⟩
        · exact ⟨k, rows, rfl, .inl (S5 _ _ (S4 _ _ (S3 _ _ c.at_))), pr.1, fun i x s h1 h2 => let ⟨t, e1, e2⟩ := pr.2 i x s h1 h2; ⟨t, e1, S5 _ _ (S4 _ _ (S3 _ _ e2))⟩⟩
        · rw [lns'] at ed6
          have S6 : Same (upd H3 tt (.tup xs)) H6 := fun b ob eo => B6 b ob (ne_of_none eo he) (S5 b ob eo)
          have SS := ((S2.trans S3).trans S4).trans S6
          exact q e H6 SS (Same.fresh ((S2.trans S3).trans S4) he) ed6
end
end My
set_option Elab.async false
set_option linter.all false
set_option maxRecDepth 100000
set_option maxHeartbeats 8000000
namespace My
open PySem PySem.Spec PyProof.Rows L2
/-! L22: the law k29. -/
structure W29 (K : PySem.W.Frag) (C a b1 t1 b2 t2 e1 e2 dl : Addr) (due : List V) (ns : List Int) (B1 B2 : Bks) (L1 L2 : List Int) (H : Hp) : Prop where
  qs : SqL K H a (ns.map V.int)
  qf1 : H t1 = some (.lst (L1.map V.int))
  qf2 : H t2 = some (.lst (L2.map V.int))
  qd1 : EdAt NA H C e1 B1 L1
  qd2 : EdAt NA H C e2 B2 L2
  qdl : H dl = some (.lst due)
  qda : AtAll NA H due ((rowsD (goD L1 L2)).map rwD)
theorem W29.same {K : PySem.W.Frag} {C a b1 t1 b2 t2 e1 e2 dl : Addr} {due : List V} {ns : List Int} {B1 B2 : Bks} {L1 L2 : List Int} {H H' : Hp} (h : W29 K C a b1 t1 b2 t2 e1 e2 dl due ns B1 B2 L1 L2 H) (z : Same H H') : W29 K C a b1 t1 b2 t2 e1 e2 dl due ns B1 B2 L1 L2 H' :=
  ⟨z.seq h.qs, z _ _ h.qf1, z _ _ h.qf2, h.qd1.bt (Same.btS z), h.qd2.bt (Same.btS z), z _ _ h.qdl, h.qda.same z⟩
theorem dpt_up : ∀ {n : Nat} {d : PyData}, Dpt n d → Dpt (n + 1) d
  | 0, _, h => h.elim
  | n + 1, d, h => by
    rcases h with h | h | h | ⟨ds, l, k, e⟩
    · exact .inl h
    · exact .inr (.inl h)
    · exact .inr (.inr (.inl h))
    · exact .inr (.inr (.inr ⟨ds, l, fun x hx => dpt_up (k x hx), e⟩))
def sp_law (K : PySem.W.Frag) : Sp := fun vs H Q _ => ∃ (a : Addr) (ns : List Int), vs = [.ref a] ∧ SqL K H a (ns.map V.int) ∧ ns.length ≤ 63 ∧ ∀ H', Q (.bl true) H'
abbrev LV : Nat := 10
section
variable {P : Program} {w : World} {K : PySem.W.Frag} {mg : Str → Option Value} {base : Heap}
theorem ok_law {CL C f : Addr} {fd : FuncData} (T : Txt K mg) (F : Fun K "law" "law" s_law f fd)
    (c__law_cell_at : Cl P w K mg base 2 "_law_cell_at" ["script", "k"] (sp_cellAt K)) (c__law_two : Cl P w K mg base 4 "_law_two" ["script"] (sp_twoB K))
    (c__law_edition : Cl P w K mg base 8 "_law_edition" ["books", "threads", "way"] (sp_edL C)) (c__law_goes : Cl P w K mg base 2 "_law_goes" ["first", "second"] sp_goesL) (c__law_rows : Cl P w K mg base 2 "_law_rows" ["goes"] sp_rowsL)
    (c__law_forged : Cl P w K mg base 3 "_law_forged" ["due", "cell"] sp_forge) (c__law_alike : Cl P w K mg base 8 "_law_alike" ["found", "due"] (sp_alikeG 7)) (c_shows_rows : Cl P w K mg base 7 "shows_rows" ["one", "other", "thing"] (sp_shows CL C))
    (c__law_refused : Cl P w K mg base 9 "_law_refused" ["one", "other", "thing"] (sp_refL C)) (m_told : C8.Met P w K mg base 3 C "told" (sp_told C) []) : FnG P w K mg base LV f fd ["script"] (sp_law K) := by
  refine fun_okG F sc_law (fun vs H Q E h => ?_) (fun cdv A outer s H vs Q E hr gd h => ?_)
  · obtain ⟨a, ns, rfl, _⟩ := h
    rfl
  · obtain ⟨a, ns, rfl, hS, hlen, q⟩ := h
    refine ⟨_, (pss_cons (ps_asg (pe_cl c__law_two hr (by decide) (by rfl) (pa_cons (pv 0) pa_nil)) (pg_tup rfl (pgs_cons (pg_name (i := 1) sc_law.nd rfl (.inl rfl)) (pgs_cons (pg_name (i := 2) sc_law.nd rfl (.inl rfl)) (pgs_cons (pg_name (i := 3) sc_law.nd rfl (.inl rfl)) (pgs_cons (pg_name (i := 4) sc_law.nd rfl (.inl rfl)) pgs_nil))))))
      (pss_cons (ps_set (i := 5) sc_law.nd rfl (.inl rfl) (pe_cl c__law_cell_at hr (by decide) (by rfl) (pa_cons (pv 0) (pa_cons pe_int pa_nil))))
      (pss_cons (ps_set (i := 6) sc_law.nd rfl (.inl rfl) (pe_cl c__law_edition hr (by decide) (by rfl) (pa_cons (pv 1) (pa_cons (pv 2) (pa_cons (pv 5) pa_nil)))))
      (pss_cons (ps_set (i := 7) sc_law.nd rfl (.inl rfl) (pe_cl c__law_edition hr (by decide) (by rfl) (pa_cons (pv 3) (pa_cons (pv 4) (pa_cons (pe_op op_fdiv (pv 5) pe_int) pa_nil)))))
      (pss_cons (ps_set (i := 8) sc_law.nd rfl (.inl rfl) (pe_cl c__law_rows hr (by decide) (by rfl) (pa_cons (pe_cl c__law_goes hr (by decide) (by rfl) (pa_cons (pv 2) (pa_cons (pv 4) pa_nil))) pa_nil)))
      (pss_cons (ps_for PassesOwn.never rfl (pi_list (pe_slice sl_list (pv 0) (po_some pe_int) (po_some pe_int))) (pg_name (i := 9) sc_law.nd rfl (.inl rfl))
        (pss_cons (ps_set (i := 10) sc_law.nd rfl (.inl rfl) (pe_cl c__law_forged hr (by decide) (by rfl) (pa_cons (pv 8) (pa_cons (pv 9) pa_nil))))
        (pss_cons (ps_set (i := 11) sc_law.nd rfl (.inl rfl) (pe_callTy call_list_of (by rfl) T.b_list (by decide +kernel) (pa_cons (pv 10) pa_nil)))
        (pss_cons (ps_if (PW.pt (pw_or (pt_not (pt_val (pe_cl c__law_alike hr (by decide) (by rfl) (pa_cons (pe_cl c_shows_rows hr (by decide) (by rfl) (pa_cons (pv 6) (pa_cons (pv 7) (pa_cons (pv 10) pa_nil)))) (pa_cons (pe_cl c__law_alike hr (by decide) (by rfl) (pa_cons (pv 11) (pa_cons (pv 8) pa_nil))) pa_nil))))) (pw_or1 (pt_not (pt_val (pe_cl c__law_alike hr (by decide) (by rfl) (pa_cons (pv 10) (pa_cons (pv 11) pa_nil)))))))) (pss_one (ps_ret pe_bl)) pss_nil)
        (pss_one (ps_if (PW.pt (pw_and (pt_cmpR op_eq (pe_op op_mod (pv 9) pe_int) pe_int (nomark _)) (pw_and1 (pt_not (pt_val (pe_cl c__law_alike hr (by decide) (by rfl) (pa_cons (pe_cl c_shows_rows hr (by decide) (by rfl) (pa_cons (pv 6) (pa_cons (pv 7) (pa_cons (pe_callTy call_list_of (by rfl) T.b_list (by decide +kernel) (pa_cons (pv 8) pa_nil)) pa_nil)))) (pa_cons pe_bl pa_nil)))))))) (pss_one (ps_ret pe_bl)) pss_nil))))))
      (pss_cons (ps_set (i := 12) sc_law.nd rfl (.inl rfl) (pe_cl c__law_rows hr (by decide) (by rfl) (pa_cons (pe_cl c__law_goes hr (by decide) (by rfl) (pa_cons (pv 4) (pa_cons (pv 2) pa_nil))) pa_nil)))
      (pss_cons (ps_if (pt_not (pt_val (pe_cl c__law_alike hr (by decide) (by rfl) (pa_cons (pe_cl c_shows_rows hr (by decide) (by rfl) (pa_cons (pv 7) (pa_cons (pv 6) (pa_cons (pv 12) pa_nil)))) (pa_cons pe_bl pa_nil))))) (pss_one (ps_ret pe_bl)) pss_nil)
      (pss_cons (ps_if (pt_not (pt_val (pe_cl c__law_alike hr (by decide) (by rfl) (pa_cons (pe_cl c_shows_rows hr (by decide) (by rfl) (pa_cons (pv 7) (pa_cons (pv 6) (pa_cons (pe_callTy call_list_of (by rfl) T.b_list (by decide +kernel) (pa_cons (pv 8) pa_nil)) pa_nil)))) (pa_cons (pe_cl c__law_alike hr (by decide) (by rfl) (pa_cons (pv 8) (pa_cons (pv 12) pa_nil))) pa_nil))))) (pss_one (ps_ret pe_bl)) pss_nil)
      (pss_cons (ps_for PassesOwn.never rfl (pi_list (pe_lst (pa_cons pe_non (pa_cons pe_int (pa_cons pe_str (pa_cons (pe_callTy call_tuple_of (by rfl) T.b_tuple (by decide +kernel) (pa_cons (pv 8) pa_nil)) (pa_cons (pe_lst pa_nil) (pa_cons (pe_lst (pa_cons (pe_tup pa_nil) pa_nil)) (pa_cons (pe_lst (pa_cons pe_non pa_nil)) (pa_cons (pe_op op_cat (pv 8) (pe_lst (pa_cons (pe_tup (pa_cons (pe_callB call_len (by rfl) T.b_len (by decide +kernel) (pa_cons (pv 2) pa_nil)) (pa_cons pe_non (pa_cons pe_int pa_nil)))) pa_nil))) (pa_cons (pe_ix ix_list (pv 8) pe_int (fun _ _ => rfl)) (pa_cons pe_bl pa_nil)))))))))))) (pg_name (i := 13) sc_law.nd rfl (.inl rfl))
        (pss_one (ps_if (pt_not (pt_val (pe_cl c__law_alike hr (by decide) (by rfl) (pa_cons (pe_cl c_shows_rows hr (by decide) (by rfl) (pa_cons (pv 6) (pa_cons (pv 7) (pa_cons (pv 13) pa_nil)))) (pa_cons pe_bl pa_nil))))) (pss_one (ps_ret pe_bl)) pss_nil)))
      (pss_cons (ps_for PassesOwn.never rfl (pi_list (pe_lst (pa_cons pe_non (pa_cons pe_str (pa_cons (pv 8) (pa_cons (C8.pe_mt0 m_told hr (by decide) (pv 7)) pa_nil)))))) (pg_name (i := 13) sc_law.nd rfl (.inl rfl))
        (pss_cons (ps_if (pt_not (pt_val (pe_cl c__law_alike hr (by decide) (by rfl) (pa_cons (pe_cl c__law_refused hr (by decide) (by rfl) (pa_cons (pv 13) (pa_cons (pe_ix ix_list (pe_lst (pa_cons (pv 7) (pa_cons pe_int (pa_cons pe_non pa_nil)))) (pe_op op_mod (pv 5) pe_int) (fun _ _ => rfl)) (pa_cons (pv 8) pa_nil)))) (pa_cons (pe_tup (pa_cons pe_str (pa_cons (pv 13) pa_nil))) pa_nil))))) (pss_one (ps_ret pe_bl)) pss_nil)
        (pss_one (ps_if (pt_not (pt_val (pe_cl c__law_alike hr (by decide) (by rfl) (pa_cons (pe_cl c__law_refused hr (by decide) (by rfl) (pa_cons (pv 6) (pa_cons (pv 13) (pa_cons pe_non pa_nil)))) (pa_cons (pe_tup (pa_cons pe_str (pa_cons (pv 13) pa_nil))) pa_nil))))) (pss_one (ps_ret pe_bl)) pss_nil))))
      (pss_one (ps_ret (pe_cl c__law_alike hr (by decide) (by rfl) (pa_cons (pe_cl c_shows_rows hr (by decide) (by rfl) (pa_cons (pv 6) (pa_cons (pv 7) (pa_cons (pe_callTy call_list_of (by rfl) T.b_list (by decide +kernel) (pa_cons (pv 8) pa_nil)) pa_nil)))) (pa_cons pe_bl pa_nil)))))))))))))))), ?_⟩
    conv in (_root_.L2.start _ _) => change [some (V.ref a), none, none, none, none, none, none, none, none, none, none, none, none, none]
    refine ⟨.ref a, rfl, NA, a, ns, rfl, occN _, hS, fun t b1 t1 b2 t2 B1 B2 L1 L2 H1 S1 ht et a1 a2 f1 f2 k1 k2 bt1 => ⟨t, _, rfl, .inl (.inl et), rfl, _, _, rfl, _, _, rfl, _, _, rfl, _, _, rfl, rfl, ?_⟩⟩
    refine ⟨_, rfl, a, ns, 4, rfl, S1.seq hS, by decide, fun turn => ?_⟩
    have la1 := k1.ll
    have la2 := k2.ll
    have lb1 := k1.l4
    have lb2 := k2.l4
    have z1 := size_pos k1.bk
    have z2 := size_pos k2.bk
    have hS := S1.seq hS
    clear S1 et ht
    try conv in (List.set _ _ _) => simp only [List.set]
    refine ⟨_, rfl, _, rfl, _, rfl, NA, NA, .ref b1, t1, L1, B1, _, rfl, occN _, a1, k1.bk, lb1, f1, la1, k1.nd, k1.ln, fun e1 H3 S3 he1 d1 => ?_⟩
    try conv in (List.set _ _ _) => simp only [List.set]
    refine ⟨_, rfl, _, rfl, _, rfl, turn, 6, rfl, rfl, ⟨by decide, by decide⟩, NA, NA, .ref b2, t2, L2, B2, _, rfl, occN _, At.same a2 S3, k2.bk, lb2, S3 _ _ f2, la2, k2.nd, k2.ln, fun e2 H4 S4 he2 d2 => ?_⟩
    try conv in (List.set _ _ _) => simp only [List.set]
    have S14 := S3.trans S4
    refine ⟨_, rfl, _, rfl, t1, t2, L1, L2, rfl, S14 _ _ f1, S14 _ _ f2, k2.nd, by omega, by omega, fun gl HD SD hgl egl => ?_⟩
    refine ⟨NA, gl, goD L1 L2, rfl, occN _, egl, by rw [go_len]; omega, fun dl due HE SE hdl edl ad => ?_⟩
    have S1E := S14.trans (SD.trans SE)
    have W0 : W29 K C a b1 t1 b2 t2 e1 e2 dl due ns B1 B2 L1 L2 HE := ⟨S1E.seq hS, S1E _ _ f1, S1E _ _ f2, d1.bt (Same.btS (S4.trans (SD.trans SE))), d2.bt (Same.btS (SD.trans SE)), edl, ad⟩
    clear hS f1 f2 d1 d2 edl ad a1 a2 S1E SE SD S14 S4 S3 he1 he2 hdl hgl egl
    try conv in (List.set _ _ _) => simp only [List.set]
    obtain ⟨R, hR⟩ : ∃ R, R = rowsD (goD L1 L2) := ⟨_, rfl⟩
    have R1 : 1 ≤ R.length := by rw [hR]; exact rowsD_pos (by rw [go_len]; omega)
    have R2 : R.length ≤ 400 := by
      have := rowsD_len (goD L1 L2)
      rw [go_len] at this
      rw [hR]
      omega
    have qR : ∀ {H' : Hp}, W29 K C a b1 t1 b2 t2 e1 e2 dl due ns B1 B2 L1 L2 H' → AtAll NA H' due (R.map rwD) := fun W => by rw [hR]; exact W.qda
    have dup : ∀ {n : Nat} {d : PyData}, Dpt n d → Dpt (n + 1) d := fun h => dpt_up h
    have dpA : ∀ {ds : List PyData}, (∀ d ∈ ds, RowA d) → ds.length ≤ 402 → Dpt 7 (.list ds) := fun h l => .inr (.inr (.inr ⟨_, by omega, fun x hx => dup (dup (dup (dup (h x hx).dpt))), .inl rfl⟩))
    have okR : ∀ d ∈ R.map rwD, RowA d := fun d hd => by
      obtain ⟨r, _, rfl⟩ := List.mem_map.mp hd
      exact RowA.of r
    have dpR : Dpt 7 (.list (R.map rwD)) := dpA okR (by rw [List.length_map]; omega)
    obtain ⟨cs, hcs, lcs⟩ := cut_ints ns (some 5) (some 63)
    refine ⟨_, rfl, 5, rfl, 63, rfl, a, _, rfl, W0.qs, fun sl hsl => ?_⟩
    rw [hcs]
    have S1 := same_new (o := .lst (cs.map V.int)) hsl
    have ecs := upd_same (H := HE) (a := sl) (o := .lst (cs.map V.int))
    generalize upd HE sl (.lst (cs.map V.int)) = HF at S1 ecs ⊢
    have W1 := W0.same S1
    clear W0 S1 hsl hcs
    refine ⟨sl, rfl, ⟨_, .inl (.inl ecs)⟩, for_it (walk_list (xs := cs.map V.int)) (fun i σ H' => ∃ (tc th tk : Option V), σ = [some (.ref a), some (.ref b1), some (.ref t1), some (.ref b2), some (.ref t2), some (.int turn), some (.ref e1), some (.ref e2), some (.ref dl), tc, th, tk, none, none] ∧ Same HF H') ⟨_, _, _, rfl, Same.refl _⟩ (fun i σ H' _ ⟨_, _, _, _, z⟩ => .inl (.inl (z _ _ ecs))) ?_ ?_⟩
    · rintro i y0 σ H2x H2 hi ⟨tc, th, tk, rfl, S2⟩ ⟨rfl, hy0⟩
      rw [List.getElem?_map] at hy0
      obtain ⟨c, hc, rfl⟩ := Option.map_eq_some_iff.mp hy0
      have W2 := W1.same S2
      try conv in (List.set _ _ _) => simp only [List.set]
      refine ⟨_, rfl, _, rfl, NA, dl, due, R, c, rfl, occN _, W2.qdl, qR W2, R1, R2, fun hl xs ds H3 S3 hhl ehl ax okx lx => ?_⟩
      try conv in (List.set _ _ _) => simp only [List.set]
      refine ⟨_, rfl, hl, xs, rfl, .inl (.inl (.inl ehl)), fun kl hkl => ?_⟩
      have S4 := same_new (o := .lst xs) hkl
      have ekl := upd_same (H := H3) (a := kl) (o := .lst xs)
      generalize upd H3 kl (.lst xs) = H4 at S4 ekl ⊢
      have W4 := W2.same (S3.trans S4)
      have ah : At NA H4 (.ref hl) (.list ds) := .lst (fun z => z) (S4 _ _ ehl) (ax.same S4)
      have ak : At NA H4 (.ref kl) (.list ds) := .lst (fun z => z) ekl (ax.same S4)
      have ad : At NA H4 (.ref dl) (.list (R.map rwD)) := .lst (fun z => z) W4.qdl (qR W4)
      try conv in (List.set _ _ _) => simp only [List.set]
      refine ⟨_, rfl, _, rfl, _, rfl, NA, e1, e2, .ref hl, B1, B2, L1, L2, .list ds, rfl, occN _, W4.qd1, W4.qd2, k1, k2, ah, shaped_rowsA okx, fun H5 S5 => ?_⟩
      refine ⟨_, rfl, _, rfl, NA, NA, .ref kl, .ref dl, .list ds, .list (R.map rwD), rfl, ak.same S5, ad.same S5, dpR, fun H6 S6 => ?_⟩
      refine ⟨NA, NA, _, _, .bool _, .bool _, rfl, .bl _, .bl _, .inl (.inl ⟨_, rfl⟩), fun H7 S7 => ?_⟩
      rw [show alB (.bool (alB (.list ds) (rowsLD L1 L2))) (.bool (alB (.list ds) (.list (R.map rwD)))) = true by rw [hR]; exact decide_eq_true rfl]
      refine ⟨_, rfl, ite2 (fun z => absurd z (by decide)) fun _ => ?_⟩
      have S47 := S5.trans (S6.trans S7)
      refine ⟨_, rfl, _, rfl, NA, NA, .ref hl, .ref kl, .list ds, .list ds, rfl, ah.same S47, ak.same S47, dpA okx lx, fun H8 S8 => ?_⟩
      rw [alB_refl _ _ ah]
      refine ⟨_, rfl, ite2 (fun z => absurd z (by decide)) fun _ => ?_⟩
      have S28 := (S3.trans S4).trans (S47.trans S8)
      refine ⟨_, rfl, c, 8, rfl, rfl, (by show (0 : Int) < 8; decide), rfl, _, rfl, ite2 (fun _ => ?_) (fun _ => ⟨_, _, _, rfl, S2.trans S28⟩)⟩
      have W8 := W2.same S28
      refine ⟨_, rfl, _, rfl, _, rfl, dl, due, rfl, .inl (.inl (.inl W8.qdl)), fun ql hql => ?_⟩
      have S9 := same_new (o := .lst due) hql
      have eql := upd_same (H := H8) (a := ql) (o := .lst due)
      generalize upd H8 ql (.lst due) = H9 at S9 eql ⊢
      have W9 := W8.same S9
      refine ⟨NA, e1, e2, .ref ql, B1, B2, L1, L2, .list (R.map rwD), rfl, occN _, W9.qd1, W9.qd2, k1, k2, .lst (fun z => z) eql (qR W9), shaped_rws _, fun HA SA => ?_⟩
      refine ⟨NA, NA, _, _, .bool _, .bool _, rfl, .bl _, .bl _, .inl (.inl ⟨_, rfl⟩), fun HB SB => ?_⟩
      rw [show alB (.bool (alB (.list (R.map rwD)) (rowsLD L1 L2))) (.bool true) = true by rw [show rowsLD L1 L2 = .list (R.map rwD) by rw [hR], alB_refl _ _ ad]; rfl]
      exact ⟨_, rfl, ite2 (fun z => absurd z (by decide)) fun _ => ⟨_, _, _, rfl, S2.trans (S28.trans (S9.trans (SA.trans SB)))⟩⟩
    rintro σ HG ⟨tc, th, tk, rfl, SG⟩
    have WG := W1.same SG
    clear W1 ecs SG lcs
    have fin : ∀ {H' : Hp}, W29 K C a b1 t1 b2 t2 e1 e2 dl due ns B1 B2 L1 L2 H' → At NA H' (.ref dl) (.list (R.map rwD)) := fun W => .lst (fun z => z) W.qdl (qR W)
    -- behind
    try conv in (List.set _ _ _) => simp only [List.set]
    refine ⟨_, rfl, _, rfl, t2, t1, L2, L1, rfl, WG.qf2, WG.qf1, k1.nd, by omega, by omega, fun gl2 HH SH hgl2 egl2 => ?_⟩
    refine ⟨NA, gl2, goD L2 L1, rfl, occN _, egl2, by rw [go_len]; omega, fun bl bel HI SI hbl ebl ab => ?_⟩
    have WI := WG.same (SH.trans SI)
    obtain ⟨R', hR'⟩ : ∃ R', R' = rowsD (goD L2 L1) := ⟨_, rfl⟩
    rw [← hR'] at ab
    have R2' : R'.length ≤ 400 := by
      have := rowsD_len (goD L2 L1)
      rw [go_len] at this
      rw [hR']
      omega
    have okR' : ∀ d ∈ R'.map rwD, RowA d := fun d hd => by
      obtain ⟨r, _, rfl⟩ := List.mem_map.mp hd
      exact RowA.of r
    have dpR' : Dpt 7 (.list (R'.map rwD)) := dpA okR' (by rw [List.length_map]; omega)
    have abl : At NA HI (.ref bl) (.list (R'.map rwD)) := .lst (fun z => z) ebl ab
    try conv in (List.set _ _ _) => simp only [List.set]
    refine ⟨_, rfl, _, rfl, _, rfl, NA, e2, e1, .ref bl, B2, B1, L2, L1, .list (R'.map rwD), rfl, occN _, WI.qd2, WI.qd1, k2, k1, abl, shaped_rws _, fun HJ SJ => ?_⟩
    refine ⟨NA, NA, _, _, .bool _, .bool _, rfl, .bl _, .bl _, .inl (.inl ⟨_, rfl⟩), fun HK SK => ?_⟩
    rw [show alB (.bool (alB (.list (R'.map rwD)) (rowsLD L2 L1))) (.bool true) = true by rw [show rowsLD L2 L1 = .list (R'.map rwD) by rw [hR'], alB_refl _ _ abl]; rfl]
    refine ⟨_, rfl, ite2 (fun z => absurd z (by decide)) fun _ => ?_⟩
    have SIK := SJ.trans SK
    have WK := WI.same SIK
    have abl := abl.same SIK
    try conv in (List.set _ _ _) => simp only [List.set]
    refine ⟨_, rfl, _, rfl, _, rfl, dl, due, rfl, .inl (.inl (.inl WK.qdl)), fun ql hql => ?_⟩
    have SL := same_new (o := .lst due) hql
    have eql := upd_same (H := HK) (a := ql) (o := .lst due)
    generalize upd HK ql (.lst due) = HL at SL eql ⊢
    have WL := WK.same SL
    refine ⟨NA, e2, e1, .ref ql, B2, B1, L2, L1, .list (R.map rwD), rfl, occN _, WL.qd2, WL.qd1, k2, k1, .lst (fun z => z) eql (qR WL), shaped_rws _, fun HM SM => ?_⟩
    have WM := WL.same SM
    refine ⟨_, rfl, _, rfl, NA, NA, .ref dl, .ref bl, .list (R.map rwD), .list (R'.map rwD), rfl, fin WM, abl.same (SL.trans SM), dpR', fun HN SN => ?_⟩
    refine ⟨NA, NA, _, _, .bool _, .bool _, rfl, .bl _, .bl _, .inl (.inl ⟨_, rfl⟩), fun HO SO => ?_⟩
    rw [show alB (.bool (alB (.list (R.map rwD)) (rowsLD L2 L1))) (.bool (alB (.list (R.map rwD)) (.list (R'.map rwD)))) = true by rw [hR']; exact decide_eq_true rfl]
    refine ⟨_, rfl, ite2 (fun z => absurd z (by decide)) fun _ => ?_⟩
    have WO := WM.same (SN.trans SO)
    have gO := occN HO
    clear WG SH SI WI SJ SK SIK WK abl SL eql hql WL SM WM SN SO hbl ebl ab hgl2 egl2
    -- things that are no such rows
    obtain ⟨r0, hr0⟩ : ∃ r0, R[0]? = some r0 := ⟨_, List.getElem?_eq_getElem R1⟩
    obtain ⟨u0, hu0⟩ : ∃ u0, due[0]? = some u0 := ⟨_, List.getElem?_eq_getElem (by have := (qR WO).len; rw [List.length_map] at this; omega)⟩
    obtain ⟨r0', hr0', au0⟩ := (qR WO).at_ hu0
    rw [hr0] at hr0'
    cases hr0'
    try conv in (List.set _ _ _) => simp only [List.set]
    refine ⟨_, rfl, dl, due, rfl, .inl ⟨.inl (.inl WO.qdl), fun tt htt => ?_⟩⟩
    have K1 := (Gr.nil (occN HO)).tup htt (qR WO)
    generalize upd HO tt (.tup due) = X1 at K1 ⊢
    refine ⟨Nat.zero_le _, fun n1 hn1 => ?_⟩
    have K2 := K1.lst hn1 .nil
    generalize upd X1 n1 (.lst []) = X2 at K2 ⊢
    refine ⟨Nat.zero_le _, fun tu htu => ⟨by show 1 ≤ sizeLine; decide, fun n2 hn2 => ?_⟩⟩
    have K3 := K2.skip (o := .tup []) htu
    have K4 := K3.lst hn2 (.cons (.tup (fun z => z) K3.got .nil) .nil)
    generalize upd (upd X2 tu (.tup [])) n2 (.lst [.ref tu]) = X4 at K4 ⊢
    refine ⟨by show 1 ≤ sizeLine; decide, fun n3 hn3 => ?_⟩
    have K5 := K4.lst hn3 (.cons .non .nil)
    generalize upd X4 n3 (.lst [.non]) = X5 at K5 ⊢
    have W5 := WO.same K5.sm
    refine ⟨_, rfl, _, rfl, _, (plOf B1).length, rfl, .inl ⟨_, .inl (.inl W5.qf1), by rw [List.length_map]; exact la1.symm⟩, by show 3 ≤ sizeLine; decide, fun t4 ht4 => ⟨by show 1 ≤ sizeLine; decide, fun n4 hn4 => ?_⟩⟩
    have K6 := K5.skip (o := .tup [.int ((plOf B1).length : Nat), .non, .int 1]) ht4
    have e6 := K6.got
    have K7 := K6.skip (o := .lst [.ref t4]) hn4
    have e7 := same_new (o := .lst [.ref t4]) hn4 _ _ e6
    have e77 := K7.got
    generalize upd (upd X5 t4 (.tup [.int ((plOf B1).length : Nat), .non, .int 1])) n4 (.lst [.ref t4]) = X7 at K7 e7 e77 ⊢
    have W7 := WO.same K7.sm
    have ld : due.length = R.length := by rw [(qR WO).len, List.length_map]
    refine ⟨dl, n4, due, [.ref t4], rfl, rfl, W7.qdl, e77, Nat.le_of_lt (Evl.sz_lt (by show due.length + 1 < 100000; omega)), fun n5 hn5 => ?_⟩
    have K8 := K7.lst hn5 ((qR W7).push (At.mkRow (r := (((plOf B1).length : Nat), none, 1)) (fun z => z) e7))
    generalize upd X7 n5 (.lst (due ++ [.ref t4])) = X8 at K8 ⊢
    have W8 := WO.same K8.sm
    refine ⟨_, rfl, dl, due, 0, u0, rfl, rfl, .inl (.inl W8.qdl), atI_nat (j := 0) hu0, by show 10 ≤ sizeLine; decide, fun LL hLL => ?_⟩
    have K9 := K8.skip (o := .lst [.non, .int 0, .str "rows", .ref tt, .ref n1, .ref n2, .ref n3, .ref n5, u0, .bl true]) hLL
    have eLL := K9.got
    have W9 := WO.same K9.sm
    have au := au0.same K9.sm
    have all : AtAll NA (upd X8 LL (.lst [.non, .int 0, .str "rows", .ref tt, .ref n1, .ref n2, .ref n3, .ref n5, u0, .bl true])) [.non, .int 0, .str "rows", .ref tt, .ref n1, .ref n2, .ref n3, .ref n5, u0, .bl true] [PyData.none, .int 0, .str "rows", .tuple (R.map rwD), .list [], .list [.tuple []], .list [.none], .list (R.map rwD ++ [rwD (((plOf B1).length : Nat), none, 1)]), rwD r0, .bool true] := by
      have A := K9.at_
      cases A with | cons a1 A => cases A with | cons a2 A => cases A with | cons a3 A => cases A with | cons a4 A => cases A with | cons a5 A =>
      exact .cons .non (.cons (.int _) (.cons (.str _) (.cons a1 (.cons a2 (.cons a3 (.cons a4 (.cons a5 (.cons au (.cons (.bl _) .nil)))))))))
    have nrows := noRows_all hr0 ((plOf B1).length : Nat)
    generalize upd X8 LL (.lst [.non, .int 0, .str "rows", .ref tt, .ref n1, .ref n2, .ref n3, .ref n5, u0, .bl true]) = HP at eLL W9 all ⊢
    clear K1 K2 K3 K4 K5 W5 K6 e6 K7 e7 e77 W7 K8 W8 K9 au WO gO au0
    refine ⟨LL, rfl, ⟨_, .inl (.inl eLL)⟩, for_it (walk_list (xs := [.non, .int 0, .str "rows", .ref tt, .ref n1, .ref n2, .ref n3, .ref n5, u0, .bl true])) (fun i σ H' => ∃ (tg : Option V), σ = [some (.ref a), some (.ref b1), some (.ref t1), some (.ref b2), some (.ref t2), some (.int turn), some (.ref e1), some (.ref e2), some (.ref dl), tc, th, tk, some (.ref bl), tg] ∧ Same HP H') ⟨_, rfl, Same.refl _⟩ (fun i σ H' _ ⟨_, _, z⟩ => .inl (.inl (z _ _ eLL))) ?_ ?_⟩
    · rintro i y0 σ H2x H2 hi ⟨tg, rfl, S2⟩ ⟨rfl, hy0⟩
      obtain ⟨D, hD, atD⟩ := AtAll.get all hy0
      obtain ⟨sh, no⟩ := nrows D (List.mem_of_getElem? hD)
      have W2 := W9.same S2
      try conv in (List.set _ _ _) => simp only [List.set]
      refine ⟨_, rfl, _, rfl, _, rfl, NA, e1, e2, y0, B1, B2, L1, L2, D, rfl, occN _, W2.qd1, W2.qd2, k1, k2, atD.same S2, sh, fun H3 S3 => ?_⟩
      refine ⟨NA, NA, _, _, .bool _, .bool _, rfl, .bl _, .bl _, .inl (.inl ⟨_, rfl⟩), fun H4 S4 => ?_⟩
      rw [show alB (.bool (alB D (rowsLD L1 L2))) (.bool false) = true by rw [show rowsLD L1 L2 = .list (R.map rwD) by rw [hR], no]; rfl]
      exact ⟨_, rfl, ite2 (fun z => absurd z (by decide)) fun _ => ⟨_, rfl, S2.trans (S3.trans S4)⟩⟩
    rintro σ HQ ⟨tg, rfl, SQ⟩
    have WQ := W9.same SQ
    clear W9 all eLL SQ nrows hLL
    -- what is no edition
    obtain ⟨we, hwe⟩ := id WQ.qd2
    refine ⟨_, rfl, _, rfl, e2, _, _, rfl, hwe.at_, rfl, NA, e2, B2, L2, rfl, occN _, WQ.qd2, by omega, fun tv HR SR atv => ⟨by show 4 ≤ sizeLine; decide, fun LM hLM => ?_⟩⟩
    have SS := same_new (o := .lst [.non, .str "", .ref dl, tv]) hLM
    have eLM := upd_same (H := HR) (a := LM) (o := .lst [.non, .str "", .ref dl, tv])
    generalize upd HR LM (.lst [.non, .str "", .ref dl, tv]) = HS at SS eLM ⊢
    have WS := WQ.same (SR.trans SS)
    have all : AtAll NA HS [.non, .str "", .ref dl, tv] [PyData.none, .str "", .list (R.map rwD), .tuple [bksD B2, .tuple ((fewest L2).map prD)]] := .cons .non (.cons (.str _) (.cons (fin WS) (.cons (atv.same SS) .nil)))
    have dps : ∀ D ∈ [PyData.none, .str "", .list (R.map rwD), .tuple [bksD B2, .tuple ((fewest L2).map prD)]], Dpt 6 D := fun D hD => by
      simp only [List.mem_cons, List.not_mem_nil, or_false] at hD
      rcases hD with rfl | rfl | rfl | rfl
      · exact .inl (.inr rfl)
      · exact .inr (.inr (.inl ⟨_, rfl⟩))
      · exact .inr (.inr (.inr ⟨_, by rw [List.length_map]; omega, fun x hx => dup (dup (dup (okR x hx).dpt)), .inl rfl⟩))
      · exact dpt_toldD k2.bk (by omega)
    refine ⟨LM, rfl, ⟨_, .inl (.inl eLM)⟩, for_it (walk_list (xs := [.non, .str "", .ref dl, tv])) (fun i σ H' => ∃ (tg : Option V), σ = [some (.ref a), some (.ref b1), some (.ref t1), some (.ref b2), some (.ref t2), some (.int turn), some (.ref e1), some (.ref e2), some (.ref dl), tc, th, tk, some (.ref bl), tg] ∧ Same HS H') ⟨_, rfl, Same.refl _⟩ (fun i σ H' _ ⟨_, _, z⟩ => .inl (.inl (z _ _ eLM))) ?_ ?_⟩
    · rintro i y0 σ H2x H2 hi ⟨tg, rfl, S2⟩ ⟨rfl, hy0⟩
      obtain ⟨D, hD, atD⟩ := AtAll.get all hy0
      have dpD := dps D (List.mem_of_getElem? hD)
      have W2 := WS.same S2
      have tD : ∀ {H' : Hp} {t : Addr}, H' t = some (.tup [.str "edition", y0]) → Same HS H' → At NA H' (.ref t) (.tuple [.str "edition", D]) := fun e z => .tup (fun z => z) e (.cons (.str _) (.cons (atD.same z) .nil))
      have tP : Dpt 7 (.tuple [.str "edition", D]) := dpt_tup (by show 2 ≤ 1000; decide) fun x hx => by
        simp only [List.mem_cons, List.not_mem_nil, or_false] at hx
        rcases hx with rfl | rfl
        · exact .inr (.inr (.inl ⟨_, rfl⟩))
        · exact dpD
      have tR : alB (.tuple [.str "edition", D]) (.tuple [.str "edition", D]) = true := by
        have z : alB D D = true := alB_refl _ _ atD
        show (decide (2 = 2) && (alB (.str "edition") (.str "edition") && (alB D D && true))) = true
        rw [z]
        decide +kernel
      try conv in (List.set _ _ _) => simp only [List.set]
      obtain ⟨n, hn, en⟩ : ∃ n : Nat, n < 3 ∧ turn % 3 = (n : Int) := ⟨(turn % 3).toNat, by omega, by omega⟩
      obtain ⟨o2, ho2⟩ : ∃ o2, [V.ref e2, .int 0, .non][n]? = some o2 := ⟨_, List.getElem?_eq_getElem (show n < 3 from hn)⟩
      refine ⟨_, rfl, _, rfl, by show 3 ≤ sizeLine; decide, fun l3 hl3 => ?_⟩
      have S3 := same_new (o := .lst [V.ref e2, .int 0, .non]) hl3
      refine ⟨_, rfl, turn, 3, rfl, rfl, (by show (0 : Int) < 3; decide), l3, _, _, o2, rfl, rfl, .inl (.inl upd_same), by rw [en]; exact atI_nat ho2, ?_⟩
      refine ⟨_, rfl, NA, y0, o2, _, y0, rfl, .inl ⟨rfl, D, atD.same (S2.trans S3)⟩, fun t5 H5 S5 ht5 et5 => ?_⟩
      refine ⟨_, rfl, by show 2 ≤ sizeLine; decide, fun t6 ht6 => ?_⟩
      have S6 := same_new (o := .tup [.str "edition", y0]) ht6
      have S26 := S2.trans ((S3.trans S5).trans S6)
      refine ⟨NA, NA, .ref t5, .ref t6, _, _, rfl, tD (S6 _ _ et5) S26, tD upd_same S26, tP, fun H7 S7 => ?_⟩
      rw [tR]
      refine ⟨_, rfl, ite2 (fun z => absurd z (by decide)) fun _ => ?_⟩
      have S27 := S26.trans S7
      have W7 := WS.same S27
      refine ⟨_, rfl, _, rfl, NA, .ref e1, y0, _, y0, rfl, .inr ⟨rfl, e1, B1, L1, D, rfl, W7.qd1, atD.same S27⟩, fun t8 H8 S8 ht8 et8 => ?_⟩
      refine ⟨_, rfl, by show 2 ≤ sizeLine; decide, fun t9 ht9 => ?_⟩
      have S9 := same_new (o := .tup [.str "edition", y0]) ht9
      have S29 := S27.trans (S8.trans S9)
      refine ⟨NA, NA, .ref t8, .ref t9, _, _, rfl, tD (S9 _ _ et8) S29, tD upd_same S29, tP, fun HA SA => ?_⟩
      rw [tR]
      exact ⟨_, rfl, ite2 (fun z => absurd z (by decide)) fun _ => ⟨_, rfl, S29.trans SA⟩⟩
    rintro σ HT ⟨tg, rfl, ST⟩
    have WT := WS.same ST
    refine ⟨_, rfl, _, rfl, _, rfl, dl, due, rfl, .inl (.inl (.inl WT.qdl)), fun ql hql => ?_⟩
    have SL := same_new (o := .lst due) hql
    have WL := WT.same SL
    refine ⟨NA, e1, e2, .ref ql, B1, B2, L1, L2, .list (R.map rwD), rfl, occN _, WL.qd1, WL.qd2, k1, k2, .lst (fun z => z) upd_same (qR WL), shaped_rws _, fun HM SM => ?_⟩
    refine ⟨NA, NA, _, _, .bool _, .bool _, rfl, .bl _, .bl _, .inl (.inl ⟨_, rfl⟩), fun HO SO => ?_⟩
    rw [show alB (.bool (alB (.list (R.map rwD)) (rowsLD L1 L2))) (.bool true) = true by rw [show rowsLD L1 L2 = .list (R.map rwD) by rw [hR], alB_refl _ _ (fin WT)]; rfl]
    exact q HO
end
end My
set_option Elab.async false
set_option linter.all false
set_option maxRecDepth 100000
set_option maxHeartbeats 4000000
namespace My
open PySem PySem.Spec PyProof.Rows L2
theorem all_mk {l : PySem.W.OpenLaw} {w : World} {K : PySem.W.Frag} {h : Heap} {mg : Str → Option Value} {fa f__wall f_is_number f_is_whole f_is_name f_is_made_of f_is_tuple f_is_row f_check_edition f_kept_books f_kept_book f_kept_chapter f_check_counts f_kept_lines f_lines_of_pair f_fewest_pairs f_places_in f_stretches_of f_all_of f_spot_places f_places_of_numbers f_places_of_stretches f_is_places_of f_kept_pairs f_is_stretch f_numbers_in f_runs_of f_runs_text f_stretch_text f_shows_rows f_same_editions f_parts_with_lines f_places_led f_places_lost f_rows_of f_goes_on f_row_text f_kind_of f__law_cell_at f__law_row f__law_names f__law_books f__law_copy f__law_spots f__law_threads f__law_edition f__law_two f__law_goes f__law_rows f__law_alike f__law_turned_row f__law_forged f__law_refused f_law : Addr} (X : K.In h) (G : h.Ns mainGlobals mg) (hfa : mg "law" = some (.ref fa))
    {od__wall an__wall : Option Addr} {sl__wall : Array (Option Value)} {oc__wall kV__wall dc__wall pm__wall cd__wall ct__wall : Value}
    {od_is_number an_is_number : Option Addr} {sl_is_number : Array (Option Value)} {oc_is_number kV_is_number dc_is_number pm_is_number cd_is_number ct_is_number : Value}
    {od_is_whole an_is_whole : Option Addr} {sl_is_whole : Array (Option Value)} {oc_is_whole kV_is_whole dc_is_whole pm_is_whole cd_is_whole ct_is_whole : Value}
    {od_is_name an_is_name : Option Addr} {sl_is_name : Array (Option Value)} {oc_is_name kV_is_name dc_is_name pm_is_name cd_is_name ct_is_name : Value}
    {od_is_made_of an_is_made_of : Option Addr} {sl_is_made_of : Array (Option Value)} {oc_is_made_of kV_is_made_of dc_is_made_of pm_is_made_of cd_is_made_of ct_is_made_of : Value}
    {od_is_tuple an_is_tuple : Option Addr} {sl_is_tuple : Array (Option Value)} {oc_is_tuple kV_is_tuple dc_is_tuple pm_is_tuple cd_is_tuple ct_is_tuple : Value}
    {od_is_row an_is_row : Option Addr} {sl_is_row : Array (Option Value)} {oc_is_row kV_is_row dc_is_row pm_is_row cd_is_row ct_is_row : Value}
    {od_check_edition an_check_edition : Option Addr} {sl_check_edition : Array (Option Value)} {oc_check_edition kV_check_edition dc_check_edition pm_check_edition cd_check_edition ct_check_edition : Value}
    {od_kept_books an_kept_books : Option Addr} {sl_kept_books : Array (Option Value)} {oc_kept_books kV_kept_books dc_kept_books pm_kept_books cd_kept_books ct_kept_books : Value}
    {od_kept_book an_kept_book : Option Addr} {sl_kept_book : Array (Option Value)} {oc_kept_book kV_kept_book dc_kept_book pm_kept_book cd_kept_book ct_kept_book : Value}
    {od_kept_chapter an_kept_chapter : Option Addr} {sl_kept_chapter : Array (Option Value)} {oc_kept_chapter kV_kept_chapter dc_kept_chapter pm_kept_chapter cd_kept_chapter ct_kept_chapter : Value}
    {od_check_counts an_check_counts : Option Addr} {sl_check_counts : Array (Option Value)} {oc_check_counts kV_check_counts dc_check_counts pm_check_counts cd_check_counts ct_check_counts : Value}
    {od_kept_lines an_kept_lines : Option Addr} {sl_kept_lines : Array (Option Value)} {oc_kept_lines kV_kept_lines dc_kept_lines pm_kept_lines cd_kept_lines ct_kept_lines : Value}
    {od_lines_of_pair an_lines_of_pair : Option Addr} {sl_lines_of_pair : Array (Option Value)} {oc_lines_of_pair kV_lines_of_pair dc_lines_of_pair pm_lines_of_pair cd_lines_of_pair ct_lines_of_pair : Value}
    {od_fewest_pairs an_fewest_pairs : Option Addr} {sl_fewest_pairs : Array (Option Value)} {oc_fewest_pairs kV_fewest_pairs dc_fewest_pairs pm_fewest_pairs cd_fewest_pairs ct_fewest_pairs : Value}
    {od_places_in an_places_in : Option Addr} {sl_places_in : Array (Option Value)} {oc_places_in kV_places_in dc_places_in pm_places_in cd_places_in ct_places_in : Value}
    {od_stretches_of an_stretches_of : Option Addr} {sl_stretches_of : Array (Option Value)} {oc_stretches_of kV_stretches_of dc_stretches_of pm_stretches_of cd_stretches_of ct_stretches_of : Value}
    {od_all_of an_all_of : Option Addr} {sl_all_of : Array (Option Value)} {oc_all_of kV_all_of dc_all_of pm_all_of cd_all_of ct_all_of : Value}
    {od_spot_places an_spot_places : Option Addr} {sl_spot_places : Array (Option Value)} {oc_spot_places kV_spot_places dc_spot_places pm_spot_places cd_spot_places ct_spot_places : Value}
    {od_places_of_numbers an_places_of_numbers : Option Addr} {sl_places_of_numbers : Array (Option Value)} {oc_places_of_numbers kV_places_of_numbers dc_places_of_numbers pm_places_of_numbers cd_places_of_numbers ct_places_of_numbers : Value}
    {od_places_of_stretches an_places_of_stretches : Option Addr} {sl_places_of_stretches : Array (Option Value)} {oc_places_of_stretches kV_places_of_stretches dc_places_of_stretches pm_places_of_stretches cd_places_of_stretches ct_places_of_stretches : Value}
    {od_is_places_of an_is_places_of : Option Addr} {sl_is_places_of : Array (Option Value)} {oc_is_places_of kV_is_places_of dc_is_places_of pm_is_places_of cd_is_places_of ct_is_places_of : Value}
    {od_kept_pairs an_kept_pairs : Option Addr} {sl_kept_pairs : Array (Option Value)} {oc_kept_pairs kV_kept_pairs dc_kept_pairs pm_kept_pairs cd_kept_pairs ct_kept_pairs : Value}
    {od_is_stretch an_is_stretch : Option Addr} {sl_is_stretch : Array (Option Value)} {oc_is_stretch kV_is_stretch dc_is_stretch pm_is_stretch cd_is_stretch ct_is_stretch : Value}
    {od_numbers_in an_numbers_in : Option Addr} {sl_numbers_in : Array (Option Value)} {oc_numbers_in kV_numbers_in dc_numbers_in pm_numbers_in cd_numbers_in ct_numbers_in : Value}
    {od_runs_of an_runs_of : Option Addr} {sl_runs_of : Array (Option Value)} {oc_runs_of kV_runs_of dc_runs_of pm_runs_of cd_runs_of ct_runs_of : Value}
    {od_runs_text an_runs_text : Option Addr} {sl_runs_text : Array (Option Value)} {oc_runs_text kV_runs_text dc_runs_text pm_runs_text cd_runs_text ct_runs_text : Value}
    {od_stretch_text an_stretch_text : Option Addr} {sl_stretch_text : Array (Option Value)} {oc_stretch_text kV_stretch_text dc_stretch_text pm_stretch_text cd_stretch_text ct_stretch_text : Value}
    {od_shows_rows an_shows_rows : Option Addr} {sl_shows_rows : Array (Option Value)} {oc_shows_rows kV_shows_rows dc_shows_rows pm_shows_rows cd_shows_rows ct_shows_rows : Value}
    {od_same_editions an_same_editions : Option Addr} {sl_same_editions : Array (Option Value)} {oc_same_editions kV_same_editions dc_same_editions pm_same_editions cd_same_editions ct_same_editions : Value}
    {od_parts_with_lines an_parts_with_lines : Option Addr} {sl_parts_with_lines : Array (Option Value)} {oc_parts_with_lines kV_parts_with_lines dc_parts_with_lines pm_parts_with_lines cd_parts_with_lines ct_parts_with_lines : Value}
    {od_places_led an_places_led : Option Addr} {sl_places_led : Array (Option Value)} {oc_places_led kV_places_led dc_places_led pm_places_led cd_places_led ct_places_led : Value}
    {od_places_lost an_places_lost : Option Addr} {sl_places_lost : Array (Option Value)} {oc_places_lost kV_places_lost dc_places_lost pm_places_lost cd_places_lost ct_places_lost : Value}
    {od_rows_of an_rows_of : Option Addr} {sl_rows_of : Array (Option Value)} {oc_rows_of kV_rows_of dc_rows_of pm_rows_of cd_rows_of ct_rows_of : Value}
    {od_goes_on an_goes_on : Option Addr} {sl_goes_on : Array (Option Value)} {oc_goes_on kV_goes_on dc_goes_on pm_goes_on cd_goes_on ct_goes_on : Value}
    {od_row_text an_row_text : Option Addr} {sl_row_text : Array (Option Value)} {oc_row_text kV_row_text dc_row_text pm_row_text cd_row_text ct_row_text : Value}
    {od_kind_of an_kind_of : Option Addr} {sl_kind_of : Array (Option Value)} {oc_kind_of kV_kind_of dc_kind_of pm_kind_of cd_kind_of ct_kind_of : Value}
    {od__law_cell_at an__law_cell_at : Option Addr} {sl__law_cell_at : Array (Option Value)} {oc__law_cell_at kV__law_cell_at dc__law_cell_at pm__law_cell_at cd__law_cell_at ct__law_cell_at : Value}
    {od__law_row an__law_row : Option Addr} {sl__law_row : Array (Option Value)} {oc__law_row kV__law_row dc__law_row pm__law_row cd__law_row ct__law_row : Value}
    {od__law_names an__law_names : Option Addr} {sl__law_names : Array (Option Value)} {oc__law_names kV__law_names dc__law_names pm__law_names cd__law_names ct__law_names : Value}
    {od__law_books an__law_books : Option Addr} {sl__law_books : Array (Option Value)} {oc__law_books kV__law_books dc__law_books pm__law_books cd__law_books ct__law_books : Value}
    {od__law_copy an__law_copy : Option Addr} {sl__law_copy : Array (Option Value)} {oc__law_copy kV__law_copy dc__law_copy pm__law_copy cd__law_copy ct__law_copy : Value}
    {od__law_spots an__law_spots : Option Addr} {sl__law_spots : Array (Option Value)} {oc__law_spots kV__law_spots dc__law_spots pm__law_spots cd__law_spots ct__law_spots : Value}
    {od__law_threads an__law_threads : Option Addr} {sl__law_threads : Array (Option Value)} {oc__law_threads kV__law_threads dc__law_threads pm__law_threads cd__law_threads ct__law_threads : Value}
    {od__law_edition an__law_edition : Option Addr} {sl__law_edition : Array (Option Value)} {oc__law_edition kV__law_edition dc__law_edition pm__law_edition cd__law_edition ct__law_edition : Value}
    {od__law_two an__law_two : Option Addr} {sl__law_two : Array (Option Value)} {oc__law_two kV__law_two dc__law_two pm__law_two cd__law_two ct__law_two : Value}
    {od__law_goes an__law_goes : Option Addr} {sl__law_goes : Array (Option Value)} {oc__law_goes kV__law_goes dc__law_goes pm__law_goes cd__law_goes ct__law_goes : Value}
    {od__law_rows an__law_rows : Option Addr} {sl__law_rows : Array (Option Value)} {oc__law_rows kV__law_rows dc__law_rows pm__law_rows cd__law_rows ct__law_rows : Value}
    {od__law_alike an__law_alike : Option Addr} {sl__law_alike : Array (Option Value)} {oc__law_alike kV__law_alike dc__law_alike pm__law_alike cd__law_alike ct__law_alike : Value}
    {od__law_turned_row an__law_turned_row : Option Addr} {sl__law_turned_row : Array (Option Value)} {oc__law_turned_row kV__law_turned_row dc__law_turned_row pm__law_turned_row cd__law_turned_row ct__law_turned_row : Value}
    {od__law_forged an__law_forged : Option Addr} {sl__law_forged : Array (Option Value)} {oc__law_forged kV__law_forged dc__law_forged pm__law_forged cd__law_forged ct__law_forged : Value}
    {od__law_refused an__law_refused : Option Addr} {sl__law_refused : Array (Option Value)} {oc__law_refused kV__law_refused dc__law_refused pm__law_refused cd__law_refused ct__law_refused : Value}
    {od_law an_law : Option Addr} {sl_law : Array (Option Value)} {oc_law kV_law dc_law pm_law cd_law ct_law : Value}
    (a__wall : PySem.W.nsIn K mainGlobals "_wall" = some (some (.ref f__wall))) (l__wall : K.lookup f__wall = some ⟨oc__wall, od__wall, .func (PySem.W.fnOf "_wall" "_wall" (defArgs s__wall) (defBody s__wall) (defScope s__wall) .none kV__wall dc__wall pm__wall an__wall cd__wall ct__wall), sl__wall⟩) (c__wall : PySem.W.codeIn K cd__wall "_wall" = true) (k__wall : PySem.W.keepIn K (.ref f__wall) = true)
    (a_is_number : PySem.W.nsIn K mainGlobals "is_number" = some (some (.ref f_is_number))) (l_is_number : K.lookup f_is_number = some ⟨oc_is_number, od_is_number, .func (PySem.W.fnOf "is_number" "is_number" (defArgs s_is_number) (defBody s_is_number) (defScope s_is_number) .none kV_is_number dc_is_number pm_is_number an_is_number cd_is_number ct_is_number), sl_is_number⟩) (c_is_number : PySem.W.codeIn K cd_is_number "is_number" = true) (k_is_number : PySem.W.keepIn K (.ref f_is_number) = true)
    (a_is_whole : PySem.W.nsIn K mainGlobals "is_whole" = some (some (.ref f_is_whole))) (l_is_whole : K.lookup f_is_whole = some ⟨oc_is_whole, od_is_whole, .func (PySem.W.fnOf "is_whole" "is_whole" (defArgs s_is_whole) (defBody s_is_whole) (defScope s_is_whole) .none kV_is_whole dc_is_whole pm_is_whole an_is_whole cd_is_whole ct_is_whole), sl_is_whole⟩) (c_is_whole : PySem.W.codeIn K cd_is_whole "is_whole" = true) (k_is_whole : PySem.W.keepIn K (.ref f_is_whole) = true)
    (a_is_name : PySem.W.nsIn K mainGlobals "is_name" = some (some (.ref f_is_name))) (l_is_name : K.lookup f_is_name = some ⟨oc_is_name, od_is_name, .func (PySem.W.fnOf "is_name" "is_name" (defArgs s_is_name) (defBody s_is_name) (defScope s_is_name) .none kV_is_name dc_is_name pm_is_name an_is_name cd_is_name ct_is_name), sl_is_name⟩) (c_is_name : PySem.W.codeIn K cd_is_name "is_name" = true) (k_is_name : PySem.W.keepIn K (.ref f_is_name) = true)
    (a_is_made_of : PySem.W.nsIn K mainGlobals "is_made_of" = some (some (.ref f_is_made_of))) (l_is_made_of : K.lookup f_is_made_of = some ⟨oc_is_made_of, od_is_made_of, .func (PySem.W.fnOf "is_made_of" "is_made_of" (defArgs s_is_made_of) (defBody s_is_made_of) (defScope s_is_made_of) .none kV_is_made_of dc_is_made_of pm_is_made_of an_is_made_of cd_is_made_of ct_is_made_of), sl_is_made_of⟩) (c_is_made_of : PySem.W.codeIn K cd_is_made_of "is_made_of" = true) (k_is_made_of : PySem.W.keepIn K (.ref f_is_made_of) = true)
    (a_is_tuple : PySem.W.nsIn K mainGlobals "is_tuple" = some (some (.ref f_is_tuple))) (l_is_tuple : K.lookup f_is_tuple = some ⟨oc_is_tuple, od_is_tuple, .func (PySem.W.fnOf "is_tuple" "is_tuple" (defArgs s_is_tuple) (defBody s_is_tuple) (defScope s_is_tuple) .none kV_is_tuple dc_is_tuple pm_is_tuple an_is_tuple cd_is_tuple ct_is_tuple), sl_is_tuple⟩) (c_is_tuple : PySem.W.codeIn K cd_is_tuple "is_tuple" = true) (k_is_tuple : PySem.W.keepIn K (.ref f_is_tuple) = true)
    (a_is_row : PySem.W.nsIn K mainGlobals "is_row" = some (some (.ref f_is_row))) (l_is_row : K.lookup f_is_row = some ⟨oc_is_row, od_is_row, .func (PySem.W.fnOf "is_row" "is_row" (defArgs s_is_row) (defBody s_is_row) (defScope s_is_row) .none kV_is_row dc_is_row pm_is_row an_is_row cd_is_row ct_is_row), sl_is_row⟩) (c_is_row : PySem.W.codeIn K cd_is_row "is_row" = true) (k_is_row : PySem.W.keepIn K (.ref f_is_row) = true)
    (a_check_edition : PySem.W.nsIn K mainGlobals "check_edition" = some (some (.ref f_check_edition))) (l_check_edition : K.lookup f_check_edition = some ⟨oc_check_edition, od_check_edition, .func (PySem.W.fnOf "check_edition" "check_edition" (defArgs s_check_edition) (defBody s_check_edition) (defScope s_check_edition) .none kV_check_edition dc_check_edition pm_check_edition an_check_edition cd_check_edition ct_check_edition), sl_check_edition⟩) (c_check_edition : PySem.W.codeIn K cd_check_edition "check_edition" = true) (k_check_edition : PySem.W.keepIn K (.ref f_check_edition) = true)
    (a_kept_books : PySem.W.nsIn K mainGlobals "kept_books" = some (some (.ref f_kept_books))) (l_kept_books : K.lookup f_kept_books = some ⟨oc_kept_books, od_kept_books, .func (PySem.W.fnOf "kept_books" "kept_books" (defArgs s_kept_books) (defBody s_kept_books) (defScope s_kept_books) .none kV_kept_books dc_kept_books pm_kept_books an_kept_books cd_kept_books ct_kept_books), sl_kept_books⟩) (c_kept_books : PySem.W.codeIn K cd_kept_books "kept_books" = true) (k_kept_books : PySem.W.keepIn K (.ref f_kept_books) = true)
    (a_kept_book : PySem.W.nsIn K mainGlobals "kept_book" = some (some (.ref f_kept_book))) (l_kept_book : K.lookup f_kept_book = some ⟨oc_kept_book, od_kept_book, .func (PySem.W.fnOf "kept_book" "kept_book" (defArgs s_kept_book) (defBody s_kept_book) (defScope s_kept_book) .none kV_kept_book dc_kept_book pm_kept_book an_kept_book cd_kept_book ct_kept_book), sl_kept_book⟩) (c_kept_book : PySem.W.codeIn K cd_kept_book "kept_book" = true) (k_kept_book : PySem.W.keepIn K (.ref f_kept_book) = true)
    (a_kept_chapter : PySem.W.nsIn K mainGlobals "kept_chapter" = some (some (.ref f_kept_chapter))) (l_kept_chapter : K.lookup f_kept_chapter = some ⟨oc_kept_chapter, od_kept_chapter, .func (PySem.W.fnOf "kept_chapter" "kept_chapter" (defArgs s_kept_chapter) (defBody s_kept_chapter) (defScope s_kept_chapter) .none kV_kept_chapter dc_kept_chapter pm_kept_chapter an_kept_chapter cd_kept_chapter ct_kept_chapter), sl_kept_chapter⟩) (c_kept_chapter : PySem.W.codeIn K cd_kept_chapter "kept_chapter" = true) (k_kept_chapter : PySem.W.keepIn K (.ref f_kept_chapter) = true)
    (a_check_counts : PySem.W.nsIn K mainGlobals "check_counts" = some (some (.ref f_check_counts))) (l_check_counts : K.lookup f_check_counts = some ⟨oc_check_counts, od_check_counts, .func (PySem.W.fnOf "check_counts" "check_counts" (defArgs s_check_counts) (defBody s_check_counts) (defScope s_check_counts) .none kV_check_counts dc_check_counts pm_check_counts an_check_counts cd_check_counts ct_check_counts), sl_check_counts⟩) (c_check_counts : PySem.W.codeIn K cd_check_counts "check_counts" = true) (k_check_counts : PySem.W.keepIn K (.ref f_check_counts) = true)
    (a_kept_lines : PySem.W.nsIn K mainGlobals "kept_lines" = some (some (.ref f_kept_lines))) (l_kept_lines : K.lookup f_kept_lines = some ⟨oc_kept_lines, od_kept_lines, .func (PySem.W.fnOf "kept_lines" "kept_lines" (defArgs s_kept_lines) (defBody s_kept_lines) (defScope s_kept_lines) .none kV_kept_lines dc_kept_lines pm_kept_lines an_kept_lines cd_kept_lines ct_kept_lines), sl_kept_lines⟩) (c_kept_lines : PySem.W.codeIn K cd_kept_lines "kept_lines" = true) (k_kept_lines : PySem.W.keepIn K (.ref f_kept_lines) = true)
    (a_lines_of_pair : PySem.W.nsIn K mainGlobals "lines_of_pair" = some (some (.ref f_lines_of_pair))) (l_lines_of_pair : K.lookup f_lines_of_pair = some ⟨oc_lines_of_pair, od_lines_of_pair, .func (PySem.W.fnOf "lines_of_pair" "lines_of_pair" (defArgs s_lines_of_pair) (defBody s_lines_of_pair) (defScope s_lines_of_pair) .none kV_lines_of_pair dc_lines_of_pair pm_lines_of_pair an_lines_of_pair cd_lines_of_pair ct_lines_of_pair), sl_lines_of_pair⟩) (c_lines_of_pair : PySem.W.codeIn K cd_lines_of_pair "lines_of_pair" = true) (k_lines_of_pair : PySem.W.keepIn K (.ref f_lines_of_pair) = true)
    (a_fewest_pairs : PySem.W.nsIn K mainGlobals "fewest_pairs" = some (some (.ref f_fewest_pairs))) (l_fewest_pairs : K.lookup f_fewest_pairs = some ⟨oc_fewest_pairs, od_fewest_pairs, .func (PySem.W.fnOf "fewest_pairs" "fewest_pairs" (defArgs s_fewest_pairs) (defBody s_fewest_pairs) (defScope s_fewest_pairs) .none kV_fewest_pairs dc_fewest_pairs pm_fewest_pairs an_fewest_pairs cd_fewest_pairs ct_fewest_pairs), sl_fewest_pairs⟩) (c_fewest_pairs : PySem.W.codeIn K cd_fewest_pairs "fewest_pairs" = true) (k_fewest_pairs : PySem.W.keepIn K (.ref f_fewest_pairs) = true)
    (a_places_in : PySem.W.nsIn K mainGlobals "places_in" = some (some (.ref f_places_in))) (l_places_in : K.lookup f_places_in = some ⟨oc_places_in, od_places_in, .func (PySem.W.fnOf "places_in" "places_in" (defArgs s_places_in) (defBody s_places_in) (defScope s_places_in) .none kV_places_in dc_places_in pm_places_in an_places_in cd_places_in ct_places_in), sl_places_in⟩) (c_places_in : PySem.W.codeIn K cd_places_in "places_in" = true) (k_places_in : PySem.W.keepIn K (.ref f_places_in) = true)
    (a_stretches_of : PySem.W.nsIn K mainGlobals "stretches_of" = some (some (.ref f_stretches_of))) (l_stretches_of : K.lookup f_stretches_of = some ⟨oc_stretches_of, od_stretches_of, .func (PySem.W.fnOf "stretches_of" "stretches_of" (defArgs s_stretches_of) (defBody s_stretches_of) (defScope s_stretches_of) .none kV_stretches_of dc_stretches_of pm_stretches_of an_stretches_of cd_stretches_of ct_stretches_of), sl_stretches_of⟩) (c_stretches_of : PySem.W.codeIn K cd_stretches_of "stretches_of" = true) (k_stretches_of : PySem.W.keepIn K (.ref f_stretches_of) = true)
    (a_all_of : PySem.W.nsIn K mainGlobals "all_of" = some (some (.ref f_all_of))) (l_all_of : K.lookup f_all_of = some ⟨oc_all_of, od_all_of, .func (PySem.W.fnOf "all_of" "all_of" (defArgs s_all_of) (defBody s_all_of) (defScope s_all_of) .none kV_all_of dc_all_of pm_all_of an_all_of cd_all_of ct_all_of), sl_all_of⟩) (c_all_of : PySem.W.codeIn K cd_all_of "all_of" = true) (k_all_of : PySem.W.keepIn K (.ref f_all_of) = true)
    (a_spot_places : PySem.W.nsIn K mainGlobals "spot_places" = some (some (.ref f_spot_places))) (l_spot_places : K.lookup f_spot_places = some ⟨oc_spot_places, od_spot_places, .func (PySem.W.fnOf "spot_places" "spot_places" (defArgs s_spot_places) (defBody s_spot_places) (defScope s_spot_places) .none kV_spot_places dc_spot_places pm_spot_places an_spot_places cd_spot_places ct_spot_places), sl_spot_places⟩) (c_spot_places : PySem.W.codeIn K cd_spot_places "spot_places" = true) (k_spot_places : PySem.W.keepIn K (.ref f_spot_places) = true)
    (a_places_of_numbers : PySem.W.nsIn K mainGlobals "places_of_numbers" = some (some (.ref f_places_of_numbers))) (l_places_of_numbers : K.lookup f_places_of_numbers = some ⟨oc_places_of_numbers, od_places_of_numbers, .func (PySem.W.fnOf "places_of_numbers" "places_of_numbers" (defArgs s_places_of_numbers) (defBody s_places_of_numbers) (defScope s_places_of_numbers) .none kV_places_of_numbers dc_places_of_numbers pm_places_of_numbers an_places_of_numbers cd_places_of_numbers ct_places_of_numbers), sl_places_of_numbers⟩) (c_places_of_numbers : PySem.W.codeIn K cd_places_of_numbers "places_of_numbers" = true) (k_places_of_numbers : PySem.W.keepIn K (.ref f_places_of_numbers) = true)
    (a_places_of_stretches : PySem.W.nsIn K mainGlobals "places_of_stretches" = some (some (.ref f_places_of_stretches))) (l_places_of_stretches : K.lookup f_places_of_stretches = some ⟨oc_places_of_stretches, od_places_of_stretches, .func (PySem.W.fnOf "places_of_stretches" "places_of_stretches" (defArgs s_places_of_stretches) (defBody s_places_of_stretches) (defScope s_places_of_stretches) .none kV_places_of_stretches dc_places_of_stretches pm_places_of_stretches an_places_of_stretches cd_places_of_stretches ct_places_of_stretches), sl_places_of_stretches⟩) (c_places_of_stretches : PySem.W.codeIn K cd_places_of_stretches "places_of_stretches" = true) (k_places_of_stretches : PySem.W.keepIn K (.ref f_places_of_stretches) = true)
    (a_is_places_of : PySem.W.nsIn K mainGlobals "is_places_of" = some (some (.ref f_is_places_of))) (l_is_places_of : K.lookup f_is_places_of = some ⟨oc_is_places_of, od_is_places_of, .func (PySem.W.fnOf "is_places_of" "is_places_of" (defArgs s_is_places_of) (defBody s_is_places_of) (defScope s_is_places_of) .none kV_is_places_of dc_is_places_of pm_is_places_of an_is_places_of cd_is_places_of ct_is_places_of), sl_is_places_of⟩) (c_is_places_of : PySem.W.codeIn K cd_is_places_of "is_places_of" = true) (k_is_places_of : PySem.W.keepIn K (.ref f_is_places_of) = true)
    (a_kept_pairs : PySem.W.nsIn K mainGlobals "kept_pairs" = some (some (.ref f_kept_pairs))) (l_kept_pairs : K.lookup f_kept_pairs = some ⟨oc_kept_pairs, od_kept_pairs, .func (PySem.W.fnOf "kept_pairs" "kept_pairs" (defArgs s_kept_pairs) (defBody s_kept_pairs) (defScope s_kept_pairs) .none kV_kept_pairs dc_kept_pairs pm_kept_pairs an_kept_pairs cd_kept_pairs ct_kept_pairs), sl_kept_pairs⟩) (c_kept_pairs : PySem.W.codeIn K cd_kept_pairs "kept_pairs" = true) (k_kept_pairs : PySem.W.keepIn K (.ref f_kept_pairs) = true)
    (a_is_stretch : PySem.W.nsIn K mainGlobals "is_stretch" = some (some (.ref f_is_stretch))) (l_is_stretch : K.lookup f_is_stretch = some ⟨oc_is_stretch, od_is_stretch, .func (PySem.W.fnOf "is_stretch" "is_stretch" (defArgs s_is_stretch) (defBody s_is_stretch) (defScope s_is_stretch) .none kV_is_stretch dc_is_stretch pm_is_stretch an_is_stretch cd_is_stretch ct_is_stretch), sl_is_stretch⟩) (c_is_stretch : PySem.W.codeIn K cd_is_stretch "is_stretch" = true) (k_is_stretch : PySem.W.keepIn K (.ref f_is_stretch) = true)
    (a_numbers_in : PySem.W.nsIn K mainGlobals "numbers_in" = some (some (.ref f_numbers_in))) (l_numbers_in : K.lookup f_numbers_in = some ⟨oc_numbers_in, od_numbers_in, .func (PySem.W.fnOf "numbers_in" "numbers_in" (defArgs s_numbers_in) (defBody s_numbers_in) (defScope s_numbers_in) .none kV_numbers_in dc_numbers_in pm_numbers_in an_numbers_in cd_numbers_in ct_numbers_in), sl_numbers_in⟩) (c_numbers_in : PySem.W.codeIn K cd_numbers_in "numbers_in" = true) (k_numbers_in : PySem.W.keepIn K (.ref f_numbers_in) = true)
    (a_runs_of : PySem.W.nsIn K mainGlobals "runs_of" = some (some (.ref f_runs_of))) (l_runs_of : K.lookup f_runs_of = some ⟨oc_runs_of, od_runs_of, .func (PySem.W.fnOf "runs_of" "runs_of" (defArgs s_runs_of) (defBody s_runs_of) (defScope s_runs_of) .none kV_runs_of dc_runs_of pm_runs_of an_runs_of cd_runs_of ct_runs_of), sl_runs_of⟩) (c_runs_of : PySem.W.codeIn K cd_runs_of "runs_of" = true) (k_runs_of : PySem.W.keepIn K (.ref f_runs_of) = true)
    (a_runs_text : PySem.W.nsIn K mainGlobals "runs_text" = some (some (.ref f_runs_text))) (l_runs_text : K.lookup f_runs_text = some ⟨oc_runs_text, od_runs_text, .func (PySem.W.fnOf "runs_text" "runs_text" (defArgs s_runs_text) (defBody s_runs_text) (defScope s_runs_text) .none kV_runs_text dc_runs_text pm_runs_text an_runs_text cd_runs_text ct_runs_text), sl_runs_text⟩) (c_runs_text : PySem.W.codeIn K cd_runs_text "runs_text" = true) (k_runs_text : PySem.W.keepIn K (.ref f_runs_text) = true)
    (a_stretch_text : PySem.W.nsIn K mainGlobals "stretch_text" = some (some (.ref f_stretch_text))) (l_stretch_text : K.lookup f_stretch_text = some ⟨oc_stretch_text, od_stretch_text, .func (PySem.W.fnOf "stretch_text" "stretch_text" (defArgs s_stretch_text) (defBody s_stretch_text) (defScope s_stretch_text) .none kV_stretch_text dc_stretch_text pm_stretch_text an_stretch_text cd_stretch_text ct_stretch_text), sl_stretch_text⟩) (c_stretch_text : PySem.W.codeIn K cd_stretch_text "stretch_text" = true) (k_stretch_text : PySem.W.keepIn K (.ref f_stretch_text) = true)
    (a_shows_rows : PySem.W.nsIn K mainGlobals "shows_rows" = some (some (.ref f_shows_rows))) (l_shows_rows : K.lookup f_shows_rows = some ⟨oc_shows_rows, od_shows_rows, .func (PySem.W.fnOf "shows_rows" "shows_rows" (defArgs s_shows_rows) (defBody s_shows_rows) (defScope s_shows_rows) .none kV_shows_rows dc_shows_rows pm_shows_rows an_shows_rows cd_shows_rows ct_shows_rows), sl_shows_rows⟩) (c_shows_rows : PySem.W.codeIn K cd_shows_rows "shows_rows" = true) (k_shows_rows : PySem.W.keepIn K (.ref f_shows_rows) = true)
    (a_same_editions : PySem.W.nsIn K mainGlobals "same_editions" = some (some (.ref f_same_editions))) (l_same_editions : K.lookup f_same_editions = some ⟨oc_same_editions, od_same_editions, .func (PySem.W.fnOf "same_editions" "same_editions" (defArgs s_same_editions) (defBody s_same_editions) (defScope s_same_editions) .none kV_same_editions dc_same_editions pm_same_editions an_same_editions cd_same_editions ct_same_editions), sl_same_editions⟩) (c_same_editions : PySem.W.codeIn K cd_same_editions "same_editions" = true) (k_same_editions : PySem.W.keepIn K (.ref f_same_editions) = true)
    (a_parts_with_lines : PySem.W.nsIn K mainGlobals "parts_with_lines" = some (some (.ref f_parts_with_lines))) (l_parts_with_lines : K.lookup f_parts_with_lines = some ⟨oc_parts_with_lines, od_parts_with_lines, .func (PySem.W.fnOf "parts_with_lines" "parts_with_lines" (defArgs s_parts_with_lines) (defBody s_parts_with_lines) (defScope s_parts_with_lines) .none kV_parts_with_lines dc_parts_with_lines pm_parts_with_lines an_parts_with_lines cd_parts_with_lines ct_parts_with_lines), sl_parts_with_lines⟩) (c_parts_with_lines : PySem.W.codeIn K cd_parts_with_lines "parts_with_lines" = true) (k_parts_with_lines : PySem.W.keepIn K (.ref f_parts_with_lines) = true)
    (a_places_led : PySem.W.nsIn K mainGlobals "places_led" = some (some (.ref f_places_led))) (l_places_led : K.lookup f_places_led = some ⟨oc_places_led, od_places_led, .func (PySem.W.fnOf "places_led" "places_led" (defArgs s_places_led) (defBody s_places_led) (defScope s_places_led) .none kV_places_led dc_places_led pm_places_led an_places_led cd_places_led ct_places_led), sl_places_led⟩) (c_places_led : PySem.W.codeIn K cd_places_led "places_led" = true) (k_places_led : PySem.W.keepIn K (.ref f_places_led) = true)
    (a_places_lost : PySem.W.nsIn K mainGlobals "places_lost" = some (some (.ref f_places_lost))) (l_places_lost : K.lookup f_places_lost = some ⟨oc_places_lost, od_places_lost, .func (PySem.W.fnOf "places_lost" "places_lost" (defArgs s_places_lost) (defBody s_places_lost) (defScope s_places_lost) .none kV_places_lost dc_places_lost pm_places_lost an_places_lost cd_places_lost ct_places_lost), sl_places_lost⟩) (c_places_lost : PySem.W.codeIn K cd_places_lost "places_lost" = true) (k_places_lost : PySem.W.keepIn K (.ref f_places_lost) = true)
    (a_rows_of : PySem.W.nsIn K mainGlobals "rows_of" = some (some (.ref f_rows_of))) (l_rows_of : K.lookup f_rows_of = some ⟨oc_rows_of, od_rows_of, .func (PySem.W.fnOf "rows_of" "rows_of" (defArgs s_rows_of) (defBody s_rows_of) (defScope s_rows_of) .none kV_rows_of dc_rows_of pm_rows_of an_rows_of cd_rows_of ct_rows_of), sl_rows_of⟩) (c_rows_of : PySem.W.codeIn K cd_rows_of "rows_of" = true) (k_rows_of : PySem.W.keepIn K (.ref f_rows_of) = true)
    (a_goes_on : PySem.W.nsIn K mainGlobals "goes_on" = some (some (.ref f_goes_on))) (l_goes_on : K.lookup f_goes_on = some ⟨oc_goes_on, od_goes_on, .func (PySem.W.fnOf "goes_on" "goes_on" (defArgs s_goes_on) (defBody s_goes_on) (defScope s_goes_on) .none kV_goes_on dc_goes_on pm_goes_on an_goes_on cd_goes_on ct_goes_on), sl_goes_on⟩) (c_goes_on : PySem.W.codeIn K cd_goes_on "goes_on" = true) (k_goes_on : PySem.W.keepIn K (.ref f_goes_on) = true)
    (a_row_text : PySem.W.nsIn K mainGlobals "row_text" = some (some (.ref f_row_text))) (l_row_text : K.lookup f_row_text = some ⟨oc_row_text, od_row_text, .func (PySem.W.fnOf "row_text" "row_text" (defArgs s_row_text) (defBody s_row_text) (defScope s_row_text) .none kV_row_text dc_row_text pm_row_text an_row_text cd_row_text ct_row_text), sl_row_text⟩) (c_row_text : PySem.W.codeIn K cd_row_text "row_text" = true) (k_row_text : PySem.W.keepIn K (.ref f_row_text) = true)
    (a_kind_of : PySem.W.nsIn K mainGlobals "kind_of" = some (some (.ref f_kind_of))) (l_kind_of : K.lookup f_kind_of = some ⟨oc_kind_of, od_kind_of, .func (PySem.W.fnOf "kind_of" "kind_of" (defArgs s_kind_of) (defBody s_kind_of) (defScope s_kind_of) .none kV_kind_of dc_kind_of pm_kind_of an_kind_of cd_kind_of ct_kind_of), sl_kind_of⟩) (c_kind_of : PySem.W.codeIn K cd_kind_of "kind_of" = true) (k_kind_of : PySem.W.keepIn K (.ref f_kind_of) = true)
    (a__law_cell_at : PySem.W.nsIn K mainGlobals "_law_cell_at" = some (some (.ref f__law_cell_at))) (l__law_cell_at : K.lookup f__law_cell_at = some ⟨oc__law_cell_at, od__law_cell_at, .func (PySem.W.fnOf "_law_cell_at" "_law_cell_at" (defArgs s__law_cell_at) (defBody s__law_cell_at) (defScope s__law_cell_at) .none kV__law_cell_at dc__law_cell_at pm__law_cell_at an__law_cell_at cd__law_cell_at ct__law_cell_at), sl__law_cell_at⟩) (c__law_cell_at : PySem.W.codeIn K cd__law_cell_at "_law_cell_at" = true) (k__law_cell_at : PySem.W.keepIn K (.ref f__law_cell_at) = true)
    (a__law_row : PySem.W.nsIn K mainGlobals "_law_row" = some (some (.ref f__law_row))) (l__law_row : K.lookup f__law_row = some ⟨oc__law_row, od__law_row, .func (PySem.W.fnOf "_law_row" "_law_row" (defArgs s__law_row) (defBody s__law_row) (defScope s__law_row) .none kV__law_row dc__law_row pm__law_row an__law_row cd__law_row ct__law_row), sl__law_row⟩) (c__law_row : PySem.W.codeIn K cd__law_row "_law_row" = true) (k__law_row : PySem.W.keepIn K (.ref f__law_row) = true)
    (a__law_names : PySem.W.nsIn K mainGlobals "_law_names" = some (some (.ref f__law_names))) (l__law_names : K.lookup f__law_names = some ⟨oc__law_names, od__law_names, .func (PySem.W.fnOf "_law_names" "_law_names" (defArgs s__law_names) (defBody s__law_names) (defScope s__law_names) .none kV__law_names dc__law_names pm__law_names an__law_names cd__law_names ct__law_names), sl__law_names⟩) (c__law_names : PySem.W.codeIn K cd__law_names "_law_names" = true) (k__law_names : PySem.W.keepIn K (.ref f__law_names) = true)
    (a__law_books : PySem.W.nsIn K mainGlobals "_law_books" = some (some (.ref f__law_books))) (l__law_books : K.lookup f__law_books = some ⟨oc__law_books, od__law_books, .func (PySem.W.fnOf "_law_books" "_law_books" (defArgs s__law_books) (defBody s__law_books) (defScope s__law_books) .none kV__law_books dc__law_books pm__law_books an__law_books cd__law_books ct__law_books), sl__law_books⟩) (c__law_books : PySem.W.codeIn K cd__law_books "_law_books" = true) (k__law_books : PySem.W.keepIn K (.ref f__law_books) = true)
    (a__law_copy : PySem.W.nsIn K mainGlobals "_law_copy" = some (some (.ref f__law_copy))) (l__law_copy : K.lookup f__law_copy = some ⟨oc__law_copy, od__law_copy, .func (PySem.W.fnOf "_law_copy" "_law_copy" (defArgs s__law_copy) (defBody s__law_copy) (defScope s__law_copy) .none kV__law_copy dc__law_copy pm__law_copy an__law_copy cd__law_copy ct__law_copy), sl__law_copy⟩) (c__law_copy : PySem.W.codeIn K cd__law_copy "_law_copy" = true) (k__law_copy : PySem.W.keepIn K (.ref f__law_copy) = true)
    (a__law_spots : PySem.W.nsIn K mainGlobals "_law_spots" = some (some (.ref f__law_spots))) (l__law_spots : K.lookup f__law_spots = some ⟨oc__law_spots, od__law_spots, .func (PySem.W.fnOf "_law_spots" "_law_spots" (defArgs s__law_spots) (defBody s__law_spots) (defScope s__law_spots) .none kV__law_spots dc__law_spots pm__law_spots an__law_spots cd__law_spots ct__law_spots), sl__law_spots⟩) (c__law_spots : PySem.W.codeIn K cd__law_spots "_law_spots" = true) (k__law_spots : PySem.W.keepIn K (.ref f__law_spots) = true)
    (a__law_threads : PySem.W.nsIn K mainGlobals "_law_threads" = some (some (.ref f__law_threads))) (l__law_threads : K.lookup f__law_threads = some ⟨oc__law_threads, od__law_threads, .func (PySem.W.fnOf "_law_threads" "_law_threads" (defArgs s__law_threads) (defBody s__law_threads) (defScope s__law_threads) .none kV__law_threads dc__law_threads pm__law_threads an__law_threads cd__law_threads ct__law_threads), sl__law_threads⟩) (c__law_threads : PySem.W.codeIn K cd__law_threads "_law_threads" = true) (k__law_threads : PySem.W.keepIn K (.ref f__law_threads) = true)
    (a__law_edition : PySem.W.nsIn K mainGlobals "_law_edition" = some (some (.ref f__law_edition))) (l__law_edition : K.lookup f__law_edition = some ⟨oc__law_edition, od__law_edition, .func (PySem.W.fnOf "_law_edition" "_law_edition" (defArgs s__law_edition) (defBody s__law_edition) (defScope s__law_edition) .none kV__law_edition dc__law_edition pm__law_edition an__law_edition cd__law_edition ct__law_edition), sl__law_edition⟩) (c__law_edition : PySem.W.codeIn K cd__law_edition "_law_edition" = true) (k__law_edition : PySem.W.keepIn K (.ref f__law_edition) = true)
    (a__law_two : PySem.W.nsIn K mainGlobals "_law_two" = some (some (.ref f__law_two))) (l__law_two : K.lookup f__law_two = some ⟨oc__law_two, od__law_two, .func (PySem.W.fnOf "_law_two" "_law_two" (defArgs s__law_two) (defBody s__law_two) (defScope s__law_two) .none kV__law_two dc__law_two pm__law_two an__law_two cd__law_two ct__law_two), sl__law_two⟩) (c__law_two : PySem.W.codeIn K cd__law_two "_law_two" = true) (k__law_two : PySem.W.keepIn K (.ref f__law_two) = true)
    (a__law_goes : PySem.W.nsIn K mainGlobals "_law_goes" = some (some (.ref f__law_goes))) (l__law_goes : K.lookup f__law_goes = some ⟨oc__law_goes, od__law_goes, .func (PySem.W.fnOf "_law_goes" "_law_goes" (defArgs s__law_goes) (defBody s__law_goes) (defScope s__law_goes) .none kV__law_goes dc__law_goes pm__law_goes an__law_goes cd__law_goes ct__law_goes), sl__law_goes⟩) (c__law_goes : PySem.W.codeIn K cd__law_goes "_law_goes" = true) (k__law_goes : PySem.W.keepIn K (.ref f__law_goes) = true)
    (a__law_rows : PySem.W.nsIn K mainGlobals "_law_rows" = some (some (.ref f__law_rows))) (l__law_rows : K.lookup f__law_rows = some ⟨oc__law_rows, od__law_rows, .func (PySem.W.fnOf "_law_rows" "_law_rows" (defArgs s__law_rows) (defBody s__law_rows) (defScope s__law_rows) .none kV__law_rows dc__law_rows pm__law_rows an__law_rows cd__law_rows ct__law_rows), sl__law_rows⟩) (c__law_rows : PySem.W.codeIn K cd__law_rows "_law_rows" = true) (k__law_rows : PySem.W.keepIn K (.ref f__law_rows) = true)
    (a__law_alike : PySem.W.nsIn K mainGlobals "_law_alike" = some (some (.ref f__law_alike))) (l__law_alike : K.lookup f__law_alike = some ⟨oc__law_alike, od__law_alike, .func (PySem.W.fnOf "_law_alike" "_law_alike" (defArgs s__law_alike) (defBody s__law_alike) (defScope s__law_alike) .none kV__law_alike dc__law_alike pm__law_alike an__law_alike cd__law_alike ct__law_alike), sl__law_alike⟩) (c__law_alike : PySem.W.codeIn K cd__law_alike "_law_alike" = true) (k__law_alike : PySem.W.keepIn K (.ref f__law_alike) = true)
    (a__law_turned_row : PySem.W.nsIn K mainGlobals "_law_turned_row" = some (some (.ref f__law_turned_row))) (l__law_turned_row : K.lookup f__law_turned_row = some ⟨oc__law_turned_row, od__law_turned_row, .func (PySem.W.fnOf "_law_turned_row" "_law_turned_row" (defArgs s__law_turned_row) (defBody s__law_turned_row) (defScope s__law_turned_row) .none kV__law_turned_row dc__law_turned_row pm__law_turned_row an__law_turned_row cd__law_turned_row ct__law_turned_row), sl__law_turned_row⟩) (c__law_turned_row : PySem.W.codeIn K cd__law_turned_row "_law_turned_row" = true) (k__law_turned_row : PySem.W.keepIn K (.ref f__law_turned_row) = true)
    (a__law_forged : PySem.W.nsIn K mainGlobals "_law_forged" = some (some (.ref f__law_forged))) (l__law_forged : K.lookup f__law_forged = some ⟨oc__law_forged, od__law_forged, .func (PySem.W.fnOf "_law_forged" "_law_forged" (defArgs s__law_forged) (defBody s__law_forged) (defScope s__law_forged) .none kV__law_forged dc__law_forged pm__law_forged an__law_forged cd__law_forged ct__law_forged), sl__law_forged⟩) (c__law_forged : PySem.W.codeIn K cd__law_forged "_law_forged" = true) (k__law_forged : PySem.W.keepIn K (.ref f__law_forged) = true)
    (a__law_refused : PySem.W.nsIn K mainGlobals "_law_refused" = some (some (.ref f__law_refused))) (l__law_refused : K.lookup f__law_refused = some ⟨oc__law_refused, od__law_refused, .func (PySem.W.fnOf "_law_refused" "_law_refused" (defArgs s__law_refused) (defBody s__law_refused) (defScope s__law_refused) .none kV__law_refused dc__law_refused pm__law_refused an__law_refused cd__law_refused ct__law_refused), sl__law_refused⟩) (c__law_refused : PySem.W.codeIn K cd__law_refused "_law_refused" = true) (k__law_refused : PySem.W.keepIn K (.ref f__law_refused) = true)
    (a_law : PySem.W.nsIn K mainGlobals "law" = some (some (.ref f_law))) (l_law : K.lookup f_law = some ⟨oc_law, od_law, .func (PySem.W.fnOf "law" "law" (defArgs s_law) (defBody s_law) (defScope s_law) .none kV_law dc_law pm_law an_law cd_law ct_law), sl_law⟩) (c_law : PySem.W.codeIn K cd_law "law" = true) (k_law : PySem.W.keepIn K (.ref f_law) = true)
    (z_LookupError : PySem.W.nsIn K mainGlobals "LookupError" = some none)
    (z_ValueError : PySem.W.nsIn K mainGlobals "ValueError" = some none)
    (z_abs : PySem.W.nsIn K mainGlobals "abs" = some none)
    (z_all : PySem.W.nsIn K mainGlobals "all" = some none)
    (z_any : PySem.W.nsIn K mainGlobals "any" = some none)
    (z_bool : PySem.W.nsIn K mainGlobals "bool" = some none)
    (z_enumerate : PySem.W.nsIn K mainGlobals "enumerate" = some none)
    (z_int : PySem.W.nsIn K mainGlobals "int" = some none)
    (z_isinstance : PySem.W.nsIn K mainGlobals "isinstance" = some none)
    (z_len : PySem.W.nsIn K mainGlobals "len" = some none)
    (z_list : PySem.W.nsIn K mainGlobals "list" = some none)
    (z_max : PySem.W.nsIn K mainGlobals "max" = some none)
    (z_range : PySem.W.nsIn K mainGlobals "range" = some none)
    (z_sorted : PySem.W.nsIn K mainGlobals "sorted" = some none)
    (z_str : PySem.W.nsIn K mainGlobals "str" = some none)
    (z_sum : PySem.W.nsIn K mainGlobals "sum" = some none)
    (z_tuple : PySem.W.nsIn K mainGlobals "tuple" = some none)
    {t_LAST_LINE : Tok} (y_LAST_LINE : PySem.W.nsIn K mainGlobals "LAST_LINE" = some (some (.int 9999 t_LAST_LINE)))
    {t_LONGEST_NAME : Tok} (y_LONGEST_NAME : PySem.W.nsIn K mainGlobals "LONGEST_NAME" = some (some (.int 6 t_LONGEST_NAME)))
    {t_MOST_BOOKS : Tok} (y_MOST_BOOKS : PySem.W.nsIn K mainGlobals "MOST_BOOKS" = some (some (.int 6 t_MOST_BOOKS)))
    {t_MOST_BOOK_CHAPTERS : Tok} (y_MOST_BOOK_CHAPTERS : PySem.W.nsIn K mainGlobals "MOST_BOOK_CHAPTERS" = some (some (.int 12 t_MOST_BOOK_CHAPTERS)))
    {t_MOST_CHAPTERS : Tok} (y_MOST_CHAPTERS : PySem.W.nsIn K mainGlobals "MOST_CHAPTERS" = some (some (.int 40 t_MOST_CHAPTERS)))
    {t_MOST_PAIRS_editions : Tok} (y_MOST_PAIRS_editions : PySem.W.nsIn K mainGlobals "MOST_PAIRS_editions" = some (some (.int 400 t_MOST_PAIRS_editions)))
    {t_MOST_PAIRS_places : Tok} (y_MOST_PAIRS_places : PySem.W.nsIn K mainGlobals "MOST_PAIRS_places" = some (some (.int 400 t_MOST_PAIRS_places)))
    {t_MOST_PARTS : Tok} (y_MOST_PARTS : PySem.W.nsIn K mainGlobals "MOST_PARTS" = some (some (.int 400 t_MOST_PARTS)))
    {t_MOST_VERSES : Tok} (y_MOST_VERSES : PySem.W.nsIn K mainGlobals "MOST_VERSES" = some (some (.int 30 t_MOST_VERSES)))
    {t_MOST_VERSE_PARTS : Tok} (y_MOST_VERSE_PARTS : PySem.W.nsIn K mainGlobals "MOST_VERSE_PARTS" = some (some (.int 4 t_MOST_VERSE_PARTS)))
    {t_SMALL_LETTERS : Tok} (y_SMALL_LETTERS : PySem.W.nsIn K mainGlobals "SMALL_LETTERS" = some (some (.str "abcdefghijklmnopqrstuvwxyz" t_SMALL_LETTERS)))
    {C fI TI : Addr} {odI anI ddT : Option Addr} {slI slT : Array (Option Value)} {ocI kVI dcI pmI cdI ctI ocT : Value} {nT : Nat} (aE : PySem.W.nsIn K mainGlobals "Edition" = some (some (.ref C))) (iI : PySem.W.findIn K (.ref C) "__init__" = some (some (.ref fI))) (lI : K.lookup fI = some ⟨ocI, odI, .func (PySem.W.fnOf "__init__" "Edition.__init__" (defArgs s_Edition___init__) (defBody s_Edition___init__) (defScope s_Edition___init__) (.ref TI) kVI dcI pmI anI cdI ctI), slI⟩) (cI : PySem.W.codeIn K cdI "Edition.__init__" = true) (kI : PySem.W.keepIn K (.ref fI) = true) (nI : PySem.W.isFn K (.ref fI) = true) (lT : K.lookup TI = some ⟨ocT, ddT, .seq #[Value.none] nT, slT⟩) (mkC : PySem.W.makesIn K C = true) (kC : PySem.W.keepIn K (.ref C) = true) (pgC : PySem.W.plainGet K C Str.empty = true) (hdC : PySem.W.hasDictIn K C = true) (poC : PySem.W.plainOver K C = true) (saC : PySem.W.findIn K (.ref C) "__setattr__" = some (some (.builtin "object.__setattr__"))) (w1 : PySem.W.findIn K (.ref C) "_books" = some none) (w2 : PySem.W.findIn K (.ref C) "_chapters" = some none) (w3 : PySem.W.findIn K (.ref C) "_places" = some none) (w4 : PySem.W.findIn K (.ref C) "_stretches" = some none) (w5 : PySem.W.findIn K (.ref C) "_lines" = some none) (w6 : PySem.W.findIn K (.ref C) "_numbers" = some none) (w7 : PySem.W.findIn K (.ref C) "_told" = some none) (haC : PySem.W.findIn K (.ref C) "__class__" = some (some (.builtin "object.__class__"))) (hnC : PySem.W.specialIn K (.builtin "object.__class__") "__get__" = some (some (.builtin "getset_descriptor.__get__"))) (tkC : PySem.W.takesIn K (.builtin "object.__class__") = some true) (hmC : PySem.W.mroIn K C (.type "object") = some true) (q1 : PySem.W.subIn K (.ref C) (.type "int") = some false) (q2 : PySem.W.subIn K (.ref C) (.type "bool") = some false) (q3 : PySem.W.subIn K (.ref C) (.type "str") = some false) {f_Mlines : Addr} {od_Mlines an_Mlines : Option Addr} {sl_Mlines : Array (Option Value)} {oc_Mlines kV_Mlines dc_Mlines pm_Mlines cd_Mlines ct_Mlines : Value} (i_Mlines : PySem.W.findIn K (.ref C) "lines" = some (some (.ref f_Mlines))) (l_Mlines : K.lookup f_Mlines = some ⟨oc_Mlines, od_Mlines, .func (PySem.W.fnOf "lines" "Edition.lines" (defArgs s_Edition_lines) (defBody s_Edition_lines) (defScope s_Edition_lines) .none kV_Mlines dc_Mlines pm_Mlines an_Mlines cd_Mlines ct_Mlines), sl_Mlines⟩) (c_Mlines : PySem.W.codeIn K cd_Mlines "Edition.lines" = true) (k_Mlines : PySem.W.keepIn K (.ref f_Mlines) = true) (n_Mlines : PySem.W.isFn K (.ref f_Mlines) = true) {f_Mpart_of : Addr} {od_Mpart_of an_Mpart_of : Option Addr} {sl_Mpart_of : Array (Option Value)} {oc_Mpart_of kV_Mpart_of dc_Mpart_of pm_Mpart_of cd_Mpart_of ct_Mpart_of : Value} (i_Mpart_of : PySem.W.findIn K (.ref C) "part_of" = some (some (.ref f_Mpart_of))) (l_Mpart_of : K.lookup f_Mpart_of = some ⟨oc_Mpart_of, od_Mpart_of, .func (PySem.W.fnOf "part_of" "Edition.part_of" (defArgs s_Edition_part_of) (defBody s_Edition_part_of) (defScope s_Edition_part_of) .none kV_Mpart_of dc_Mpart_of pm_Mpart_of an_Mpart_of cd_Mpart_of ct_Mpart_of), sl_Mpart_of⟩) (c_Mpart_of : PySem.W.codeIn K cd_Mpart_of "Edition.part_of" = true) (k_Mpart_of : PySem.W.keepIn K (.ref f_Mpart_of) = true) (n_Mpart_of : PySem.W.isFn K (.ref f_Mpart_of) = true) {f_Mtold : Addr} {od_Mtold an_Mtold : Option Addr} {sl_Mtold : Array (Option Value)} {oc_Mtold kV_Mtold dc_Mtold pm_Mtold cd_Mtold ct_Mtold : Value} (i_Mtold : PySem.W.findIn K (.ref C) "told" = some (some (.ref f_Mtold))) (l_Mtold : K.lookup f_Mtold = some ⟨oc_Mtold, od_Mtold, .func (PySem.W.fnOf "told" "Edition.told" (defArgs s_Edition_told) (defBody s_Edition_told) (defScope s_Edition_told) .none kV_Mtold dc_Mtold pm_Mtold an_Mtold cd_Mtold ct_Mtold), sl_Mtold⟩) (c_Mtold : PySem.W.codeIn K cd_Mtold "Edition.told" = true) (k_Mtold : PySem.W.keepIn K (.ref f_Mtold) = true) (n_Mtold : PySem.W.isFn K (.ref f_Mtold) = true) {CL fL : Addr} {odIL anIL : Option Addr} {slIL : Array (Option Value)} {ocIL kVIL dcIL pmIL cdIL ctIL : Value} (aEL : PySem.W.nsIn K mainGlobals "Leading" = some (some (.ref CL))) (iIL : PySem.W.findIn K (.ref CL) "__init__" = some (some (.ref fL))) (lIL : K.lookup fL = some ⟨ocIL, odIL, .func (PySem.W.fnOf "__init__" "Leading.__init__" (defArgs s_Leading___init__) (defBody s_Leading___init__) (defScope s_Leading___init__) .none kVIL dcIL pmIL anIL cdIL ctIL), slIL⟩) (cIL : PySem.W.codeIn K cdIL "Leading.__init__" = true) (kIL : PySem.W.keepIn K (.ref fL) = true) (nIL : PySem.W.isFn K (.ref fL) = true) (mkCL : PySem.W.makesIn K CL = true) (kCL : PySem.W.keepIn K (.ref CL) = true) (pgCL : PySem.W.plainGet K CL Str.empty = true) (hdCL : PySem.W.hasDictIn K CL = true) (poCL : PySem.W.plainOver K CL = true) (saCL : PySem.W.findIn K (.ref CL) "__setattr__" = some (some (.builtin "object.__setattr__"))) (u1 : PySem.W.findIn K (.ref CL) "_one" = some none) (u2 : PySem.W.findIn K (.ref CL) "_other" = some none) (u3 : PySem.W.findIn K (.ref CL) "_ahead" = some none) (u4 : PySem.W.findIn K (.ref CL) "_behind" = some none) (u5 : PySem.W.findIn K (.ref CL) "_rows" = some none) {f_Lrows : Addr} {od_Lrows an_Lrows : Option Addr} {sl_Lrows : Array (Option Value)} {oc_Lrows kV_Lrows dc_Lrows pm_Lrows cd_Lrows ct_Lrows : Value} (i_Lrows : PySem.W.findIn K (.ref CL) "rows" = some (some (.ref f_Lrows))) (l_Lrows : K.lookup f_Lrows = some ⟨oc_Lrows, od_Lrows, .func (PySem.W.fnOf "rows" "Leading.rows" (defArgs s_Leading_rows) (defBody s_Leading_rows) (defScope s_Leading_rows) .none kV_Lrows dc_Lrows pm_Lrows an_Lrows cd_Lrows ct_Lrows), sl_Lrows⟩) (c_Lrows : PySem.W.codeIn K cd_Lrows "Leading.rows" = true) (k_Lrows : PySem.W.keepIn K (.ref f_Lrows) = true) (n_Lrows : PySem.W.isFn K (.ref f_Lrows) = true) {E_PlaceError : Addr} (ae_PlaceError : PySem.W.nsIn K mainGlobals "PlaceError" = some (some (.ref E_PlaceError))) {E_NoEdition : Addr} (ae_NoEdition : PySem.W.nsIn K mainGlobals "NoEdition" = some (some (.ref E_NoEdition))) {f_EPlaceError : Addr} {od_EPlaceError an_EPlaceError : Option Addr} {sl_EPlaceError : Array (Option Value)} {oc_EPlaceError kV_EPlaceError dc_EPlaceError pm_EPlaceError cd_EPlaceError ct_EPlaceError : Value} (l_EPlaceError : K.lookup f_EPlaceError = some ⟨oc_EPlaceError, od_EPlaceError, .func (PySem.W.fnOf "__init__" "PlaceError.__init__" (defArgs s_PlaceError___init__) (defBody s_PlaceError___init__) (defScope s_PlaceError___init__) .none kV_EPlaceError dc_EPlaceError pm_EPlaceError an_EPlaceError cd_EPlaceError ct_EPlaceError), sl_EPlaceError⟩) (c_EPlaceError : PySem.W.codeIn K cd_EPlaceError "PlaceError.__init__" = true) (k_EPlaceError : PySem.W.keepIn K (.ref f_EPlaceError) = true) {f_ENoEdition : Addr} {od_ENoEdition an_ENoEdition : Option Addr} {sl_ENoEdition : Array (Option Value)} {oc_ENoEdition kV_ENoEdition dc_ENoEdition pm_ENoEdition cd_ENoEdition ct_ENoEdition : Value} (l_ENoEdition : K.lookup f_ENoEdition = some ⟨oc_ENoEdition, od_ENoEdition, .func (PySem.W.fnOf "__init__" "NoEdition.__init__" (defArgs s_NoEdition___init__) (defBody s_NoEdition___init__) (defScope s_NoEdition___init__) .none kV_ENoEdition dc_ENoEdition pm_ENoEdition an_ENoEdition cd_ENoEdition ct_ENoEdition), sl_ENoEdition⟩) (c_ENoEdition : PySem.W.codeIn K cd_ENoEdition "NoEdition.__init__" = true) (k_ENoEdition : PySem.W.keepIn K (.ref f_ENoEdition) = true) (vV : valF (.type "ValueError") (.type "type") "__init__" (.builtin "ValueError.__init__") K = true) (atB : valF (.ref E_PlaceError) (.type "type") "__init__" (.ref f_EPlaceError) K = true) (gaB : PySem.W.specialIn K (.ref E_PlaceError) "__getattribute__" = some (some (.builtin "type.__getattribute__"))) (rdB : PySem.W.readsIn K E_PlaceError (.type "type") = true) (xb_NoEdition : excB E_NoEdition f_ENoEdition K = true) (xi_NoEdition : exiB E_NoEdition K = true) (mEE : PySem.W.exmOne K (.ref E_NoEdition) (.ref E_NoEdition) = some true) (nbC : noBiB C K = true)
    : ∃ fd : FuncData, (∀ (s : Shared) (v : Value), BindsTo s fd ⟨[v], []⟩ [("script", v)]) ∧ ∀ base : Heap, K.In base → base.Ns mainGlobals mg → FnG l.prog w K mg base LV fa fd ["script"] (sp_law K) := by
  have e := hfa.symm.trans (PySem.W.mg_of X G a_law)
  cases e
  have T : Txt K mg := ⟨PySem.W.mg_none_of X G z_LookupError, PySem.W.mg_none_of X G z_ValueError, PySem.W.mg_none_of X G z_abs, PySem.W.mg_none_of X G z_all, PySem.W.mg_none_of X G z_any, PySem.W.mg_none_of X G z_bool, PySem.W.mg_none_of X G z_enumerate, PySem.W.mg_none_of X G z_int, PySem.W.mg_none_of X G z_isinstance, PySem.W.mg_none_of X G z_len, PySem.W.mg_none_of X G z_list, PySem.W.mg_none_of X G z_max, PySem.W.mg_none_of X G z_range, PySem.W.mg_none_of X G z_sorted, PySem.W.mg_none_of X G z_str, PySem.W.mg_none_of X G z_sum, PySem.W.mg_none_of X G z_tuple, ⟨_, PySem.W.mg_of X G y_LAST_LINE, ⟨_, rfl⟩⟩, ⟨_, PySem.W.mg_of X G y_LONGEST_NAME, ⟨_, rfl⟩⟩, ⟨_, PySem.W.mg_of X G y_MOST_BOOKS, ⟨_, rfl⟩⟩, ⟨_, PySem.W.mg_of X G y_MOST_BOOK_CHAPTERS, ⟨_, rfl⟩⟩, ⟨_, PySem.W.mg_of X G y_MOST_CHAPTERS, ⟨_, rfl⟩⟩, ⟨_, PySem.W.mg_of X G y_MOST_PAIRS_editions, ⟨_, rfl⟩⟩, ⟨_, PySem.W.mg_of X G y_MOST_PAIRS_places, ⟨_, rfl⟩⟩, ⟨_, PySem.W.mg_of X G y_MOST_PARTS, ⟨_, rfl⟩⟩, ⟨_, PySem.W.mg_of X G y_MOST_VERSES, ⟨_, rfl⟩⟩, ⟨_, PySem.W.mg_of X G y_MOST_VERSE_PARTS, ⟨_, rfl⟩⟩, ⟨_, PySem.W.mg_of X G y_SMALL_LETTERS, ⟨_, rfl⟩⟩⟩
  have D__wall : Df K mg "_wall" s__wall ["k"] := ⟨_, _, fun_mk (st := s__wall) l__wall c__wall k__wall, PySem.W.mg_of X G a__wall, (fun_mk (st := s__wall) l__wall c__wall k__wall).binds (ps := ["k"]) fun _ _ _ _ _ _ us hl => match us, hl with | [_], _ => rfl⟩
  have D_is_number : Df K mg "is_number" s_is_number ["thing"] := ⟨_, _, fun_mk (st := s_is_number) l_is_number c_is_number k_is_number, PySem.W.mg_of X G a_is_number, (fun_mk (st := s_is_number) l_is_number c_is_number k_is_number).binds (ps := ["thing"]) fun _ _ _ _ _ _ us hl => match us, hl with | [_], _ => rfl⟩
  have D_is_whole : Df K mg "is_whole" s_is_whole ["thing", "low", "high"] := ⟨_, _, fun_mk (st := s_is_whole) l_is_whole c_is_whole k_is_whole, PySem.W.mg_of X G a_is_whole, (fun_mk (st := s_is_whole) l_is_whole c_is_whole k_is_whole).binds (ps := ["thing", "low", "high"]) fun _ _ _ _ _ _ us hl => match us, hl with | [_, _, _], _ => rfl⟩
  have D_is_name : Df K mg "is_name" s_is_name ["thing"] := ⟨_, _, fun_mk (st := s_is_name) l_is_name c_is_name k_is_name, PySem.W.mg_of X G a_is_name, (fun_mk (st := s_is_name) l_is_name c_is_name k_is_name).binds (ps := ["thing"]) fun _ _ _ _ _ _ us hl => match us, hl with | [_], _ => rfl⟩
  have D_is_made_of : Df K mg "is_made_of" s_is_made_of ["thing", "signs", "most"] := ⟨_, _, fun_mk (st := s_is_made_of) l_is_made_of c_is_made_of k_is_made_of, PySem.W.mg_of X G a_is_made_of, (fun_mk (st := s_is_made_of) l_is_made_of c_is_made_of k_is_made_of).binds (ps := ["thing", "signs", "most"]) fun _ _ _ _ _ _ us hl => match us, hl with | [_, _, _], _ => rfl⟩
  have D_is_tuple : Df K mg "is_tuple" s_is_tuple ["thing", "fewest", "most"] := ⟨_, _, fun_mk (st := s_is_tuple) l_is_tuple c_is_tuple k_is_tuple, PySem.W.mg_of X G a_is_tuple, (fun_mk (st := s_is_tuple) l_is_tuple c_is_tuple k_is_tuple).binds (ps := ["thing", "fewest", "most"]) fun _ _ _ _ _ _ us hl => match us, hl with | [_, _, _], _ => rfl⟩
  have D_is_row : Df K mg "is_row" s_is_row ["thing", "fewest", "most"] := ⟨_, _, fun_mk (st := s_is_row) l_is_row c_is_row k_is_row, PySem.W.mg_of X G a_is_row, (fun_mk (st := s_is_row) l_is_row c_is_row k_is_row).binds (ps := ["thing", "fewest", "most"]) fun _ _ _ _ _ _ us hl => match us, hl with | [_, _, _], _ => rfl⟩
  have D_check_edition : Df K mg "check_edition" s_check_edition ["thing"] := ⟨_, _, fun_mk (st := s_check_edition) l_check_edition c_check_edition k_check_edition, PySem.W.mg_of X G a_check_edition, (fun_mk (st := s_check_edition) l_check_edition c_check_edition k_check_edition).binds (ps := ["thing"]) fun _ _ _ _ _ _ us hl => match us, hl with | [_], _ => rfl⟩
  have D_kept_books : Df K mg "kept_books" s_kept_books ["books"] := ⟨_, _, fun_mk (st := s_kept_books) l_kept_books c_kept_books k_kept_books, PySem.W.mg_of X G a_kept_books, (fun_mk (st := s_kept_books) l_kept_books c_kept_books k_kept_books).binds (ps := ["books"]) fun _ _ _ _ _ _ us hl => match us, hl with | [_], _ => rfl⟩
  have D_kept_book : Df K mg "kept_book" s_kept_book ["book", "names"] := ⟨_, _, fun_mk (st := s_kept_book) l_kept_book c_kept_book k_kept_book, PySem.W.mg_of X G a_kept_book, (fun_mk (st := s_kept_book) l_kept_book c_kept_book k_kept_book).binds (ps := ["book", "names"]) fun _ _ _ _ _ _ us hl => match us, hl with | [_, _], _ => rfl⟩
  have D_kept_chapter : Df K mg "kept_chapter" s_kept_chapter ["chapter"] := ⟨_, _, fun_mk (st := s_kept_chapter) l_kept_chapter c_kept_chapter k_kept_chapter, PySem.W.mg_of X G a_kept_chapter, (fun_mk (st := s_kept_chapter) l_kept_chapter c_kept_chapter k_kept_chapter).binds (ps := ["chapter"]) fun _ _ _ _ _ _ us hl => match us, hl with | [_], _ => rfl⟩
  have D_check_counts : Df K mg "check_counts" s_check_counts ["books"] := ⟨_, _, fun_mk (st := s_check_counts) l_check_counts c_check_counts k_check_counts, PySem.W.mg_of X G a_check_counts, (fun_mk (st := s_check_counts) l_check_counts c_check_counts k_check_counts).binds (ps := ["books"]) fun _ _ _ _ _ _ us hl => match us, hl with | [_], _ => rfl⟩
  have D_kept_lines : Df K mg "kept_lines" s_kept_lines ["lines", "size"] := ⟨_, _, fun_mk (st := s_kept_lines) l_kept_lines c_kept_lines k_kept_lines, PySem.W.mg_of X G a_kept_lines, (fun_mk (st := s_kept_lines) l_kept_lines c_kept_lines k_kept_lines).binds (ps := ["lines", "size"]) fun _ _ _ _ _ _ us hl => match us, hl with | [_, _], _ => rfl⟩
  have D_lines_of_pair : Df K mg "lines_of_pair" s_lines_of_pair ["pair"] := ⟨_, _, fun_mk (st := s_lines_of_pair) l_lines_of_pair c_lines_of_pair k_lines_of_pair, PySem.W.mg_of X G a_lines_of_pair, (fun_mk (st := s_lines_of_pair) l_lines_of_pair c_lines_of_pair k_lines_of_pair).binds (ps := ["pair"]) fun _ _ _ _ _ _ us hl => match us, hl with | [_], _ => rfl⟩
  have D_fewest_pairs : Df K mg "fewest_pairs" s_fewest_pairs ["lines"] := ⟨_, _, fun_mk (st := s_fewest_pairs) l_fewest_pairs c_fewest_pairs k_fewest_pairs, PySem.W.mg_of X G a_fewest_pairs, (fun_mk (st := s_fewest_pairs) l_fewest_pairs c_fewest_pairs k_fewest_pairs).binds (ps := ["lines"]) fun _ _ _ _ _ _ us hl => match us, hl with | [_], _ => rfl⟩
  have D_places_in : Df K mg "places_in" s_places_in ["books"] := ⟨_, _, fun_mk (st := s_places_in) l_places_in c_places_in k_places_in, PySem.W.mg_of X G a_places_in, (fun_mk (st := s_places_in) l_places_in c_places_in k_places_in).binds (ps := ["books"]) fun _ _ _ _ _ _ us hl => match us, hl with | [_], _ => rfl⟩
  have D_stretches_of : Df K mg "stretches_of" s_stretches_of ["places"] := ⟨_, _, fun_mk (st := s_stretches_of) l_stretches_of c_stretches_of k_stretches_of, PySem.W.mg_of X G a_stretches_of, (fun_mk (st := s_stretches_of) l_stretches_of c_stretches_of k_stretches_of).binds (ps := ["places"]) fun _ _ _ _ _ _ us hl => match us, hl with | [_], _ => rfl⟩
  have D_all_of : Df K mg "all_of" s_all_of ["edition"] := ⟨_, _, fun_mk (st := s_all_of) l_all_of c_all_of k_all_of, PySem.W.mg_of X G a_all_of, (fun_mk (st := s_all_of) l_all_of c_all_of k_all_of).binds (ps := ["edition"]) fun _ _ _ _ _ _ us hl => match us, hl with | [_], _ => rfl⟩
  have D_spot_places : Df K mg "spot_places" s_spot_places ["edition", "spot"] := ⟨_, _, fun_mk (st := s_spot_places) l_spot_places c_spot_places k_spot_places, PySem.W.mg_of X G a_spot_places, (fun_mk (st := s_spot_places) l_spot_places c_spot_places k_spot_places).binds (ps := ["edition", "spot"]) fun _ _ _ _ _ _ us hl => match us, hl with | [_, _], _ => rfl⟩
  have D_places_of_numbers : Df K mg "places_of_numbers" s_places_of_numbers ["edition", "numbers"] := ⟨_, _, fun_mk (st := s_places_of_numbers) l_places_of_numbers c_places_of_numbers k_places_of_numbers, PySem.W.mg_of X G a_places_of_numbers, (fun_mk (st := s_places_of_numbers) l_places_of_numbers c_places_of_numbers k_places_of_numbers).binds (ps := ["edition", "numbers"]) fun _ _ _ _ _ _ us hl => match us, hl with | [_, _], _ => rfl⟩
  have D_places_of_stretches : Df K mg "places_of_stretches" s_places_of_stretches ["edition", "stretches"] := ⟨_, _, fun_mk (st := s_places_of_stretches) l_places_of_stretches c_places_of_stretches k_places_of_stretches, PySem.W.mg_of X G a_places_of_stretches, (fun_mk (st := s_places_of_stretches) l_places_of_stretches c_places_of_stretches k_places_of_stretches).binds (ps := ["edition", "stretches"]) fun _ _ _ _ _ _ us hl => match us, hl with | [_, _], _ => rfl⟩
  have D_is_places_of : Df K mg "is_places_of" s_is_places_of ["edition", "thing"] := ⟨_, _, fun_mk (st := s_is_places_of) l_is_places_of c_is_places_of k_is_places_of, PySem.W.mg_of X G a_is_places_of, (fun_mk (st := s_is_places_of) l_is_places_of c_is_places_of k_is_places_of).binds (ps := ["edition", "thing"]) fun _ _ _ _ _ _ us hl => match us, hl with | [_, _], _ => rfl⟩
  have D_kept_pairs : Df K mg "kept_pairs" s_kept_pairs ["pairs", "size"] := ⟨_, _, fun_mk (st := s_kept_pairs) l_kept_pairs c_kept_pairs k_kept_pairs, PySem.W.mg_of X G a_kept_pairs, (fun_mk (st := s_kept_pairs) l_kept_pairs c_kept_pairs k_kept_pairs).binds (ps := ["pairs", "size"]) fun _ _ _ _ _ _ us hl => match us, hl with | [_, _], _ => rfl⟩
  have D_is_stretch : Df K mg "is_stretch" s_is_stretch ["thing", "size"] := ⟨_, _, fun_mk (st := s_is_stretch) l_is_stretch c_is_stretch k_is_stretch, PySem.W.mg_of X G a_is_stretch, (fun_mk (st := s_is_stretch) l_is_stretch c_is_stretch k_is_stretch).binds (ps := ["thing", "size"]) fun _ _ _ _ _ _ us hl => match us, hl with | [_, _], _ => rfl⟩
  have D_numbers_in : Df K mg "numbers_in" s_numbers_in ["stretches"] := ⟨_, _, fun_mk (st := s_numbers_in) l_numbers_in c_numbers_in k_numbers_in, PySem.W.mg_of X G a_numbers_in, (fun_mk (st := s_numbers_in) l_numbers_in c_numbers_in k_numbers_in).binds (ps := ["stretches"]) fun _ _ _ _ _ _ us hl => match us, hl with | [_], _ => rfl⟩
  have D_runs_of : Df K mg "runs_of" s_runs_of ["numbers"] := ⟨_, _, fun_mk (st := s_runs_of) l_runs_of c_runs_of k_runs_of, PySem.W.mg_of X G a_runs_of, (fun_mk (st := s_runs_of) l_runs_of c_runs_of k_runs_of).binds (ps := ["numbers"]) fun _ _ _ _ _ _ us hl => match us, hl with | [_], _ => rfl⟩
  have D_runs_text : Df K mg "runs_text" s_runs_text ["runs"] := ⟨_, _, fun_mk (st := s_runs_text) l_runs_text c_runs_text k_runs_text, PySem.W.mg_of X G a_runs_text, (fun_mk (st := s_runs_text) l_runs_text c_runs_text k_runs_text).binds (ps := ["runs"]) fun _ _ _ _ _ _ us hl => match us, hl with | [_], _ => rfl⟩
  have D_stretch_text : Df K mg "stretch_text" s_stretch_text ["first", "last"] := ⟨_, _, fun_mk (st := s_stretch_text) l_stretch_text c_stretch_text k_stretch_text, PySem.W.mg_of X G a_stretch_text, (fun_mk (st := s_stretch_text) l_stretch_text c_stretch_text k_stretch_text).binds (ps := ["first", "last"]) fun _ _ _ _ _ _ us hl => match us, hl with | [_, _], _ => rfl⟩
  have D_shows_rows : Df K mg "shows_rows" s_shows_rows ["one", "other", "thing"] := ⟨_, _, fun_mk (st := s_shows_rows) l_shows_rows c_shows_rows k_shows_rows, PySem.W.mg_of X G a_shows_rows, (fun_mk (st := s_shows_rows) l_shows_rows c_shows_rows k_shows_rows).binds (ps := ["one", "other", "thing"]) fun _ _ _ _ _ _ us hl => match us, hl with | [_, _, _], _ => rfl⟩
  have D_same_editions : Df K mg "same_editions" s_same_editions ["some", "others"] := ⟨_, _, fun_mk (st := s_same_editions) l_same_editions c_same_editions k_same_editions, PySem.W.mg_of X G a_same_editions, (fun_mk (st := s_same_editions) l_same_editions c_same_editions k_same_editions).binds (ps := ["some", "others"]) fun _ _ _ _ _ _ us hl => match us, hl with | [_, _], _ => rfl⟩
  have D_parts_with_lines : Df K mg "parts_with_lines" s_parts_with_lines ["edition", "lines"] := ⟨_, _, fun_mk (st := s_parts_with_lines) l_parts_with_lines c_parts_with_lines k_parts_with_lines, PySem.W.mg_of X G a_parts_with_lines, (fun_mk (st := s_parts_with_lines) l_parts_with_lines c_parts_with_lines k_parts_with_lines).binds (ps := ["edition", "lines"]) fun _ _ _ _ _ _ us hl => match us, hl with | [_, _], _ => rfl⟩
  have D_places_led : Df K mg "places_led" s_places_led ["edition", "goals", "other", "places"] := ⟨_, _, fun_mk (st := s_places_led) l_places_led c_places_led k_places_led, PySem.W.mg_of X G a_places_led, (fun_mk (st := s_places_led) l_places_led c_places_led k_places_led).binds (ps := ["edition", "goals", "other", "places"]) fun _ _ _ _ _ _ us hl => match us, hl with | [_, _, _, _], _ => rfl⟩
  have D_places_lost : Df K mg "places_lost" s_places_lost ["edition", "goals"] := ⟨_, _, fun_mk (st := s_places_lost) l_places_lost c_places_lost k_places_lost, PySem.W.mg_of X G a_places_lost, (fun_mk (st := s_places_lost) l_places_lost c_places_lost k_places_lost).binds (ps := ["edition", "goals"]) fun _ _ _ _ _ _ us hl => match us, hl with | [_, _], _ => rfl⟩
  have D_rows_of : Df K mg "rows_of" s_rows_of ["goals"] := ⟨_, _, fun_mk (st := s_rows_of) l_rows_of c_rows_of k_rows_of, PySem.W.mg_of X G a_rows_of, (fun_mk (st := s_rows_of) l_rows_of c_rows_of k_rows_of).binds (ps := ["goals"]) fun _ _ _ _ _ _ us hl => match us, hl with | [_], _ => rfl⟩
  have D_goes_on : Df K mg "goes_on" s_goes_on ["row", "goal"] := ⟨_, _, fun_mk (st := s_goes_on) l_goes_on c_goes_on k_goes_on, PySem.W.mg_of X G a_goes_on, (fun_mk (st := s_goes_on) l_goes_on c_goes_on k_goes_on).binds (ps := ["row", "goal"]) fun _ _ _ _ _ _ us hl => match us, hl with | [_, _], _ => rfl⟩
  have D_row_text : Df K mg "row_text" s_row_text ["row"] := ⟨_, _, fun_mk (st := s_row_text) l_row_text c_row_text k_row_text, PySem.W.mg_of X G a_row_text, (fun_mk (st := s_row_text) l_row_text c_row_text k_row_text).binds (ps := ["row"]) fun _ _ _ _ _ _ us hl => match us, hl with | [_], _ => rfl⟩
  have D_kind_of : Df K mg "kind_of" s_kind_of ["many", "found", "there"] := ⟨_, _, fun_mk (st := s_kind_of) l_kind_of c_kind_of k_kind_of, PySem.W.mg_of X G a_kind_of, (fun_mk (st := s_kind_of) l_kind_of c_kind_of k_kind_of).binds (ps := ["many", "found", "there"]) fun _ _ _ _ _ _ us hl => match us, hl with | [_, _, _], _ => rfl⟩
  have D__law_cell_at : Df K mg "_law_cell_at" s__law_cell_at ["script", "k"] := ⟨_, _, fun_mk (st := s__law_cell_at) l__law_cell_at c__law_cell_at k__law_cell_at, PySem.W.mg_of X G a__law_cell_at, (fun_mk (st := s__law_cell_at) l__law_cell_at c__law_cell_at k__law_cell_at).binds (ps := ["script", "k"]) fun _ _ _ _ _ _ us hl => match us, hl with | [_, _], _ => rfl⟩
  have D__law_row : Df K mg "_law_row" s__law_row ["cell", "many", "salt"] := ⟨_, _, fun_mk (st := s__law_row) l__law_row c__law_row k__law_row, PySem.W.mg_of X G a__law_row, (fun_mk (st := s__law_row) l__law_row c__law_row k__law_row).binds (ps := ["cell", "many", "salt"]) fun _ _ _ _ _ _ us hl => match us, hl with | [_, _, _], _ => rfl⟩
  have D__law_names : Df K mg "_law_names" s__law_names ["row", "many"] := ⟨_, _, fun_mk (st := s__law_names) l__law_names c__law_names k__law_names, PySem.W.mg_of X G a__law_names, (fun_mk (st := s__law_names) l__law_names c__law_names k__law_names).binds (ps := ["row", "many"]) fun _ _ _ _ _ _ us hl => match us, hl with | [_, _], _ => rfl⟩
  have D__law_books : Df K mg "_law_books" s__law_books ["cell", "salt"] := ⟨_, _, fun_mk (st := s__law_books) l__law_books c__law_books k__law_books, PySem.W.mg_of X G a__law_books, (fun_mk (st := s__law_books) l__law_books c__law_books k__law_books).binds (ps := ["cell", "salt"]) fun _ _ _ _ _ _ us hl => match us, hl with | [_, _], _ => rfl⟩
  have D__law_copy : Df K mg "_law_copy" s__law_copy ["books"] := ⟨_, _, fun_mk (st := s__law_copy) l__law_copy c__law_copy k__law_copy, PySem.W.mg_of X G a__law_copy, (fun_mk (st := s__law_copy) l__law_copy c__law_copy k__law_copy).binds (ps := ["books"]) fun _ _ _ _ _ _ us hl => match us, hl with | [_], _ => rfl⟩
  have D__law_spots : Df K mg "_law_spots" s__law_spots ["books"] := ⟨_, _, fun_mk (st := s__law_spots) l__law_spots c__law_spots k__law_spots, PySem.W.mg_of X G a__law_spots, (fun_mk (st := s__law_spots) l__law_spots c__law_spots k__law_spots).binds (ps := ["books"]) fun _ _ _ _ _ _ us hl => match us, hl with | [_], _ => rfl⟩
  have D__law_threads : Df K mg "_law_threads" s__law_threads ["row", "size", "span", "low", "way"] := ⟨_, _, fun_mk (st := s__law_threads) l__law_threads c__law_threads k__law_threads, PySem.W.mg_of X G a__law_threads, (fun_mk (st := s__law_threads) l__law_threads c__law_threads k__law_threads).binds (ps := ["row", "size", "span", "low", "way"]) fun _ _ _ _ _ _ us hl => match us, hl with | [_, _, _, _, _], _ => rfl⟩
  have D__law_edition : Df K mg "_law_edition" s__law_edition ["books", "threads", "way"] := ⟨_, _, fun_mk (st := s__law_edition) l__law_edition c__law_edition k__law_edition, PySem.W.mg_of X G a__law_edition, (fun_mk (st := s__law_edition) l__law_edition c__law_edition k__law_edition).binds (ps := ["books", "threads", "way"]) fun _ _ _ _ _ _ us hl => match us, hl with | [_, _, _], _ => rfl⟩
  have D__law_two : Df K mg "_law_two" s__law_two ["script"] := ⟨_, _, fun_mk (st := s__law_two) l__law_two c__law_two k__law_two, PySem.W.mg_of X G a__law_two, (fun_mk (st := s__law_two) l__law_two c__law_two k__law_two).binds (ps := ["script"]) fun _ _ _ _ _ _ us hl => match us, hl with | [_], _ => rfl⟩
  have D__law_goes : Df K mg "_law_goes" s__law_goes ["first", "second"] := ⟨_, _, fun_mk (st := s__law_goes) l__law_goes c__law_goes k__law_goes, PySem.W.mg_of X G a__law_goes, (fun_mk (st := s__law_goes) l__law_goes c__law_goes k__law_goes).binds (ps := ["first", "second"]) fun _ _ _ _ _ _ us hl => match us, hl with | [_, _], _ => rfl⟩
  have D__law_rows : Df K mg "_law_rows" s__law_rows ["goes"] := ⟨_, _, fun_mk (st := s__law_rows) l__law_rows c__law_rows k__law_rows, PySem.W.mg_of X G a__law_rows, (fun_mk (st := s__law_rows) l__law_rows c__law_rows k__law_rows).binds (ps := ["goes"]) fun _ _ _ _ _ _ us hl => match us, hl with | [_], _ => rfl⟩
  have D__law_alike : Df K mg "_law_alike" s__law_alike ["found", "due"] := ⟨_, _, fun_mk (st := s__law_alike) l__law_alike c__law_alike k__law_alike, PySem.W.mg_of X G a__law_alike, (fun_mk (st := s__law_alike) l__law_alike c__law_alike k__law_alike).binds (ps := ["found", "due"]) fun _ _ _ _ _ _ us hl => match us, hl with | [_, _], _ => rfl⟩
  have D__law_turned_row : Df K mg "_law_turned_row" s__law_turned_row ["row", "cell"] := ⟨_, _, fun_mk (st := s__law_turned_row) l__law_turned_row c__law_turned_row k__law_turned_row, PySem.W.mg_of X G a__law_turned_row, (fun_mk (st := s__law_turned_row) l__law_turned_row c__law_turned_row k__law_turned_row).binds (ps := ["row", "cell"]) fun _ _ _ _ _ _ us hl => match us, hl with | [_, _], _ => rfl⟩
  have D__law_forged : Df K mg "_law_forged" s__law_forged ["due", "cell"] := ⟨_, _, fun_mk (st := s__law_forged) l__law_forged c__law_forged k__law_forged, PySem.W.mg_of X G a__law_forged, (fun_mk (st := s__law_forged) l__law_forged c__law_forged k__law_forged).binds (ps := ["due", "cell"]) fun _ _ _ _ _ _ us hl => match us, hl with | [_, _], _ => rfl⟩
  have D__law_refused : Df K mg "_law_refused" s__law_refused ["one", "other", "thing"] := ⟨_, _, fun_mk (st := s__law_refused) l__law_refused c__law_refused k__law_refused, PySem.W.mg_of X G a__law_refused, (fun_mk (st := s__law_refused) l__law_refused c__law_refused k__law_refused).binds (ps := ["one", "other", "thing"]) fun _ _ _ _ _ _ us hl => match us, hl with | [_, _, _], _ => rfl⟩
  have D_law : Df K mg "law" s_law ["script"] := ⟨_, _, fun_mk (st := s_law) l_law c_law k_law, PySem.W.mg_of X G a_law, (fun_mk (st := s_law) l_law c_law k_law).binds (ps := ["script"]) fun _ _ _ _ _ _ us hl => match us, hl with | [_], _ => rfl⟩
  exact ⟨_, fun s v => .of_eq rfl, fun base _ _ => by
    have EC : EdC K C := ⟨⟨pgC, hdC, poC, saC⟩, w1, w2, w3, w4, w5, w6, w7⟩
    have O : OwnK K C := ⟨EC.cl, haC, hnC, tkC, hmC, kit_sub (by decide +kernel) q1, kit_sub (by decide +kernel) q2, kit_sub (by decide +kernel) q3⟩
    have kk : PySem.W.kitOne K (.ref C) (.ref C) = some true := kit_self
    have gC : ∃ u, mg "Edition" = some u ∧ RelV (.ref C) u := ⟨_, PySem.W.mg_of X G aE, rfl⟩
    have cCA : Cl l.prog w K mg base 2 "_law_cell_at" ["script", "k"] (sp_cellAt K) := ok_cellAt T D__law_cell_at
    have cRowL : Cl l.prog w K mg base 2 "_law_row" ["cell", "many", "salt"] sp_row := ok_rowL T D__law_row
    have cNamK : Cl l.prog w K mg base 2 "_law_names" ["row", "many"] sp_namesK := ok_namesK T D__law_names
    have cBksL : Cl l.prog w K mg base 3 "_law_books" ["cell", "salt"] sp_booksK := ok_booksK T cRowL cNamK D__law_books
    have cCopy : Cl l.prog w K mg base 2 "_law_copy" ["books"] sp_copy := ok_copy T D__law_copy
    have cSpots : Cl l.prog w K mg base 2 "_law_spots" ["books"] sp_spotsL := ok_spotsL T D__law_spots
    have cAlike : Cl l.prog w K mg base 7 "_law_alike" ["found", "due"] (sp_alike 6) := ok_alike T D__law_alike
    have cNum : Cl l.prog w K mg base 1 "is_number" ["thing"] (sp_num K) := ok_isNum T D_is_number
    have cWhole : Cl l.prog w K mg base 2 "is_whole" ["thing", "low", "high"] (sp_whole K) := ok_whole T cNum D_is_whole
    have cMade : Cl l.prog w K mg base 2 "is_made_of" ["thing", "signs", "most"] (sp_made K) := ok_made T D_is_made_of
    have cName : Cl l.prog w K mg base 3 "is_name" ["thing"] (sp_name K) := ok_name T cMade D_is_name
    have cTup : Cl l.prog w K mg base 2 "is_tuple" ["thing", "fewest", "most"] sp_isTup := ok_isTup T D_is_tuple
    have cRow : Cl l.prog w K mg base 2 "is_row" ["thing", "fewest", "most"] sp_isRow := ok_isRow T D_is_row
    have cCh : Cl l.prog w K mg base 3 "kept_chapter" ["chapter"] sp_keptCh := ok_keptCh T cWhole cRow D_kept_chapter
    have cBk : Cl l.prog w K mg base 4 "kept_book" ["book", "names"] sp_keptBk := ok_keptBk T cName cTup cRow cCh D_kept_book
    have cCounts : Cl l.prog w K mg base 2 "check_counts" ["books"] sp_counts := ok_counts T D_check_counts
    have cBks : Cl l.prog w K mg base 5 "kept_books" ["books"] sp_keptBks := ok_keptBks T cRow cBk cCounts D_kept_books
    have cLnPair : Cl l.prog w K mg base 3 "lines_of_pair" ["pair"] sp_lnPair := ok_lnPair T cWhole cTup D_lines_of_pair
    have cKeptLn : Cl l.prog w K mg base 4 "kept_lines" ["lines", "size"] sp_keptLn := ok_keptLn T cRow cLnPair D_kept_lines
    have cFewest : Cl l.prog w K mg base 2 "fewest_pairs" ["lines"] (sp_fewest K) := ok_fewest T D_fewest_pairs
    have cPlaces : Cl l.prog w K mg base 2 "places_in" ["books"] sp_places := ok_places T D_places_in
    have cStret : Cl l.prog w K mg base 2 "stretches_of" ["places"] sp_stret := ok_stret T D_stretches_of
    have cChk : Cl l.prog w K mg base 2 "check_edition" ["thing"] (sp_chkEd C) := ok_chkEd T EC O kk gC D_check_edition
    have cThr : Cl l.prog w K mg base 2 "_law_threads" ["row", "size", "span", "low", "way"] sp_threads := ok_threads T D__law_threads
    have cTwoB : Cl l.prog w K mg base 4 "_law_two" ["script"] (sp_twoB K) := ok_twoB T cCA cBksL cSpots cRowL cThr D__law_two
    have cGoes : Cl l.prog w K mg base 2 "_law_goes" ["first", "second"] sp_goesL := ok_goesL T D__law_goes
    have FI : FunD K "__init__" "Edition.__init__" (defArgs s_Edition___init__) (defBody s_Edition___init__) (defScope s_Edition___init__) [.non] [] fI _ := ⟨⟨_, _, _, _, _, _, _, _, _, _, rfl, lI, cI, .inr ⟨(fun z => nomatch z), TI, _, [Value.none], _, rfl, lT, rfl, .cons rfl .nil⟩, .inl rfl⟩, kI⟩
    have bI : Binds K _ ["self", "books", "lines"] [] := bindsD_all (fd := PySem.W.fnOf "__init__" "Edition.__init__" (defArgs s_Edition___init__) (defBody s_Edition___init__) (defScope s_Edition___init__) (.ref TI) kVI dcI pmI anI cdI ctI) lT rfl fun us hl => match us, hl with | [_, _, _], _ => ⟨_, rfl, rfl⟩
    have cEd : C8.Mak l.prog w K mg base 6 "Edition" C (sp_init C) [] := ⟨⟨_, _, _, _, ⟨mkC, iI, nI, kC⟩, ok_init T EC cBks cPlaces cStret cKeptLn cFewest FI, PySem.W.mg_of X G aE, bI, .nil⟩⟩
    have F_lines := fun_mk (st := s_Edition_lines) l_Mlines c_Mlines k_Mlines
    have b_lines : Binds K _ ["self"] [] := F_lines.binds (ps := ["self"]) fun _ _ _ _ _ _ us hl => match us, hl with | [_], _ => rfl
    have m_lines : C8.Met l.prog w K mg base 2 C "lines" (sp_lines C) [] := ⟨⟨_, _, _, _, EC.cl, ⟨i_Mlines, n_Mlines, k_Mlines⟩, ok_lines T EC F_lines, b_lines, .nil⟩⟩
    have F_part_of := fun_mk (st := s_Edition_part_of) l_Mpart_of c_Mpart_of k_Mpart_of
    have b_part_of : Binds K _ ["self", "thing"] [] := F_part_of.binds (ps := ["self", "thing"]) fun _ _ _ _ _ _ us hl => match us, hl with | [_, _], _ => rfl
    have m_part_of : C8.Met l.prog w K mg base 3 C "part_of" (sp_partOf K C) [] := ⟨⟨_, _, _, _, EC.cl, ⟨i_Mpart_of, n_Mpart_of, k_Mpart_of⟩, ok_partOf T EC cWhole F_part_of, b_part_of, .nil⟩⟩
    have F_told := fun_mk (st := s_Edition_told) l_Mtold c_Mtold k_Mtold
    have b_told : Binds K _ ["self"] [] := F_told.binds (ps := ["self"]) fun _ _ _ _ _ _ us hl => match us, hl with | [_], _ => rfl
    have m_told : C8.Met l.prog w K mg base 3 C "told" (sp_told C) [] := ⟨⟨_, _, _, _, EC.cl, ⟨i_Mtold, n_Mtold, k_Mtold⟩, ok_told T EC F_told, b_told, .nil⟩⟩
    have LC : LdC K CL := ⟨⟨pgCL, hdCL, poCL, saCL⟩, u1, u2, u3, u4, u5⟩
    have cPwl : Cl l.prog w K mg base 4 "parts_with_lines" ["edition", "lines"] (sp_pwl C) := ok_pwl T m_part_of D_parts_with_lines
    have cGoOn : Cl l.prog w K mg base 2 "goes_on" ["row", "goal"] (sp_goesOn K) := ok_goesOn T D_goes_on
    have cRowsOf : Cl l.prog w K mg base 3 "rows_of" ["goals"] (sp_rowsOf K) := ok_rowsOf T cGoOn D_rows_of
    have FL := fun_mk (st := s_Leading___init__) lIL cIL kIL
    have bL : Binds K _ ["self", "one", "other"] [] := FL.binds (ps := ["self", "one", "other"]) fun _ _ _ _ _ _ us hl => match us, hl with | [_, _, _], _ => rfl
    have cLd : C8.Mak l.prog w K mg base 5 "Leading" CL (sp_initL CL C) [] := ⟨⟨_, _, _, _, ⟨mkCL, iIL, nIL, kCL⟩, ok_initL T LC cChk m_lines cPwl cRowsOf FL, PySem.W.mg_of X G aEL, bL, .nil⟩⟩
    have F_Lrows := fun_mk (st := s_Leading_rows) l_Lrows c_Lrows k_Lrows
    have b_Lrows : Binds K _ ["self"] [] := F_Lrows.binds (ps := ["self"]) fun _ _ _ _ _ _ us hl => match us, hl with | [_], _ => rfl
    have m_rows : C8.Met l.prog w K mg base 2 CL "rows" (sp_ldRows CL) [] := ⟨⟨_, _, _, _, LC.cl, ⟨i_Lrows, n_Lrows, k_Lrows⟩, ok_ldRows T LC F_Lrows, b_Lrows, .nil⟩⟩
    have bED : Binds K _ ["self", "books", "lines"] [Value.none] := bindsD_one (m := 2) (fd := PySem.W.fnOf "__init__" "Edition.__init__" (defArgs s_Edition___init__) (defBody s_Edition___init__) (defScope s_Edition___init__) (.ref TI) kVI dcI pmI anI cdI ctI) rfl lT rfl fun us hl => match us, hl with | [_, _], _ => ⟨_, rfl, rfl⟩
    have cEdD : C8.Mak l.prog w K mg base 6 "Edition" C (sp_init C) [.non] := ⟨⟨_, _, _, _, ⟨mkC, iI, nI, kC⟩, ok_init T EC cBks cPlaces cStret cKeptLn cFewest FI, PySem.W.mg_of X G aE, bED, .cons rfl .nil⟩⟩
    have cEdN : MakN l.prog w K mg base 6 "Edition" C 1 ["lines"] (fun vs zs => vs ++ zs) (sp_init C) := ⟨fI, _, ["self", "books", "lines"], _, ⟨mkC, iI, nI, kC⟩, ok_init T EC cBks cPlaces cStret cKeptLn cFewest FI, PySem.W.mg_of X G aE, kbn_all (m := 2) lT rfl fun us ws hl hw => match us, ws, hl, hw with | [_, _], [_], _, _ => ⟨_, rfl, rfl⟩⟩
    have gx_PlaceError : mg "PlaceError" = some (.ref E_PlaceError) := PySem.W.mg_of X G ae_PlaceError
    have gx_NoEdition : mg "NoEdition" = some (.ref E_NoEdition) := PySem.W.mg_of X G ae_NoEdition
    have FB := fun_mk (st := s_PlaceError___init__) l_EPlaceError c_EPlaceError k_EPlaceError
    have bB : Binds K _ ["self", "text"] [] := FB.binds (ps := ["self", "text"]) fun _ _ _ _ _ _ us hl => match us, hl with | [_, _], _ => rfl
    have GB : FnOk l.prog w K mg base CX0 2 f_EPlaceError _ ["self", "text"] (sp_base K) := ok_PlaceErrorI T (valF_ok vV) FB
    have XE_NoEdition : ExC K mg "NoEdition" E_NoEdition f_ENoEdition := excB_ok gx_NoEdition xb_NoEdition
    have F_ENoEdition := fun_mk (st := s_NoEdition___init__) l_ENoEdition c_ENoEdition k_ENoEdition
    have b_ENoEdition : Binds K _ ["self", "found"] [] := F_ENoEdition.binds (ps := ["self", "found"]) fun _ _ _ _ _ _ us hl => match us, hl with | [_, _], _ => rfl
    have x_NoEdition : CxE l.prog w K mg base "NoEdition" E_NoEdition := ⟨_, _, XE_NoEdition, ok_NoEditionI XE_NoEdition ⟨gaB, rdB, valF_ok atB⟩ gx_PlaceError k_EPlaceError bB GB F_ENoEdition, b_ENoEdition⟩
    have cEdL : Cl l.prog w K mg base 8 "_law_edition" ["books", "threads", "way"] (sp_edL C) := ok_edL T cCopy cEdD cEdN D__law_edition
    have cAlikeG : Cl l.prog w K mg base 8 "_law_alike" ["found", "due"] (sp_alikeG 7) := ok_alikeG T D__law_alike
    have cLRows : Cl l.prog w K mg base 2 "_law_rows" ["goes"] sp_rowsL := ok_rowsL T D__law_rows
    have cTurnR : Cl l.prog w K mg base 2 "_law_turned_row" ["row", "cell"] sp_turnR := ok_turnR T D__law_turned_row
    have cForge : Cl l.prog w K mg base 3 "_law_forged" ["due", "cell"] sp_forge := ok_forge T cTurnR D__law_forged
    have cShows : Cl l.prog w K mg base 7 "shows_rows" ["one", "other", "thing"] (sp_shows CL C) := ok_shows T cLd m_rows D_shows_rows
    have cxChk : ClX l.prog w K mg base 5 "check_edition" ["thing"] (sp_chkB C E_NoEdition) := ok_chkB T O kk (noBiB_ok nbC) gC x_NoEdition D_check_edition
    have FLX : FnOk l.prog w K mg base (L2.CX l.prog w) 6 fL _ ["self", "one", "other"] (sp_initLB CL C E_NoEdition) := FnOk.or (FnOk.lift (FnOk.toX (ok_initL T LC cChk m_lines cPwl cRowsOf FL)) (by decide)) (ok_initLX T LC cxChk m_lines cPwl cRowsOf FL)
    have cxLd : MkX l.prog w K mg base 6 "Leading" CL (sp_initLB CL C E_NoEdition) [] := ⟨_, _, _, _, ⟨mkCL, iIL, nIL, kCL⟩, FLX, PySem.W.mg_of X G aEL, bL, .nil⟩
    have cxShows : ClX l.prog w K mg base 8 "shows_rows" ["one", "other", "thing"] (sp_showsX C E_NoEdition) := ok_showsX T cxLd m_rows D_shows_rows
    have cRef : Cl l.prog w K mg base 9 "_law_refused" ["one", "other", "thing"] (sp_refL C) := ok_refL T gx_NoEdition XE_NoEdition mEE cxShows D__law_refused
    exact ok_law T (fun_mk (st := s_law) l_law c_law k_law) cCA cTwoB cEdL cGoes cLRows cForge cAlikeG cShows cRef m_told⟩
end My
namespace My
open PySem PySem.Spec PyProof.Rows L2
theorem lawM {l : PySem.W.OpenLaw} {w : World} {K : PySem.W.Frag} {h : Heap} {mg : Str → Option Value} {fa : Addr} (X : K.In h) (G : h.Ns mainGlobals mg) (hfa : mg "law" = some (.ref fa)) (c : ∀ p ∈ psM, SaysM p.1 p.2 K) : ∃ fd : FuncData, (∀ (s : Shared) (v : Value), BindsTo s fd ⟨[v], []⟩ [("script", v)]) ∧ ∀ base : Heap, K.In base → base.Ns mainGlobals mg → FnG l.prog w K mg base LV fa fd ["script"] (sp_law K) := by
    have a__wall : PySem.W.nsIn K mainGlobals "_wall" = some (some (.ref (He.ga K "_wall"))) := He.eqO_ok ((saysM0 c).fact (f := fun K => He.eqO (PySem.W.nsIn K mainGlobals "_wall") (some (some (.ref (He.ga K "_wall"))))) 0 rfl)
    obtain ⟨_, _, _, _, _, _, _, _, _, l__wall, c__wall, k__wall⟩ := FunD.plain ((saysM2 c).def_ (d := fnM_0) 0 rfl)
    have a_is_number : PySem.W.nsIn K mainGlobals "is_number" = some (some (.ref (He.ga K "is_number"))) := He.eqO_ok ((saysM0 c).fact (f := fun K => He.eqO (PySem.W.nsIn K mainGlobals "is_number") (some (some (.ref (He.ga K "is_number"))))) 1 rfl)
    obtain ⟨_, _, _, _, _, _, _, _, _, l_is_number, c_is_number, k_is_number⟩ := FunD.plain ((saysM2 c).def_ (d := fnM_1) 1 rfl)
    have a_is_whole : PySem.W.nsIn K mainGlobals "is_whole" = some (some (.ref (He.ga K "is_whole"))) := He.eqO_ok ((saysM0 c).fact (f := fun K => He.eqO (PySem.W.nsIn K mainGlobals "is_whole") (some (some (.ref (He.ga K "is_whole"))))) 2 rfl)
    obtain ⟨_, _, _, _, _, _, _, _, _, l_is_whole, c_is_whole, k_is_whole⟩ := FunD.plain ((saysM2 c).def_ (d := fnM_2) 2 rfl)
    have a_is_name : PySem.W.nsIn K mainGlobals "is_name" = some (some (.ref (He.ga K "is_name"))) := He.eqO_ok ((saysM0 c).fact (f := fun K => He.eqO (PySem.W.nsIn K mainGlobals "is_name") (some (some (.ref (He.ga K "is_name"))))) 3 rfl)
    obtain ⟨_, _, _, _, _, _, _, _, _, l_is_name, c_is_name, k_is_name⟩ := FunD.plain ((saysM2 c).def_ (d := fnM_3) 3 rfl)
    have a_is_made_of : PySem.W.nsIn K mainGlobals "is_made_of" = some (some (.ref (He.ga K "is_made_of"))) := He.eqO_ok ((saysM0 c).fact (f := fun K => He.eqO (PySem.W.nsIn K mainGlobals "is_made_of") (some (some (.ref (He.ga K "is_made_of"))))) 4 rfl)
    obtain ⟨_, _, _, _, _, _, _, _, _, l_is_made_of, c_is_made_of, k_is_made_of⟩ := FunD.plain ((saysM2 c).def_ (d := fnM_4) 4 rfl)
    have a_is_tuple : PySem.W.nsIn K mainGlobals "is_tuple" = some (some (.ref (He.ga K "is_tuple"))) := He.eqO_ok ((saysM0 c).fact (f := fun K => He.eqO (PySem.W.nsIn K mainGlobals "is_tuple") (some (some (.ref (He.ga K "is_tuple"))))) 5 rfl)
    obtain ⟨_, _, _, _, _, _, _, _, _, l_is_tuple, c_is_tuple, k_is_tuple⟩ := FunD.plain ((saysM2 c).def_ (d := fnM_5) 5 rfl)
    have a_is_row : PySem.W.nsIn K mainGlobals "is_row" = some (some (.ref (He.ga K "is_row"))) := He.eqO_ok ((saysM0 c).fact (f := fun K => He.eqO (PySem.W.nsIn K mainGlobals "is_row") (some (some (.ref (He.ga K "is_row"))))) 6 rfl)
    obtain ⟨_, _, _, _, _, _, _, _, _, l_is_row, c_is_row, k_is_row⟩ := FunD.plain ((saysM2 c).def_ (d := fnM_6) 6 rfl)
    have a_check_edition : PySem.W.nsIn K mainGlobals "check_edition" = some (some (.ref (He.ga K "check_edition"))) := He.eqO_ok ((saysM0 c).fact (f := fun K => He.eqO (PySem.W.nsIn K mainGlobals "check_edition") (some (some (.ref (He.ga K "check_edition"))))) 7 rfl)
    obtain ⟨_, _, _, _, _, _, _, _, _, l_check_edition, c_check_edition, k_check_edition⟩ := FunD.plain ((saysM2 c).def_ (d := fnM_7) 7 rfl)
    have a_kept_books : PySem.W.nsIn K mainGlobals "kept_books" = some (some (.ref (He.ga K "kept_books"))) := He.eqO_ok ((saysM0 c).fact (f := fun K => He.eqO (PySem.W.nsIn K mainGlobals "kept_books") (some (some (.ref (He.ga K "kept_books"))))) 8 rfl)
    obtain ⟨_, _, _, _, _, _, _, _, _, l_kept_books, c_kept_books, k_kept_books⟩ := FunD.plain ((saysM2 c).def_ (d := fnM_8) 8 rfl)
    have a_kept_book : PySem.W.nsIn K mainGlobals "kept_book" = some (some (.ref (He.ga K "kept_book"))) := He.eqO_ok ((saysM0 c).fact (f := fun K => He.eqO (PySem.W.nsIn K mainGlobals "kept_book") (some (some (.ref (He.ga K "kept_book"))))) 9 rfl)
    obtain ⟨_, _, _, _, _, _, _, _, _, l_kept_book, c_kept_book, k_kept_book⟩ := FunD.plain ((saysM2 c).def_ (d := fnM_9) 9 rfl)
    have a_kept_chapter : PySem.W.nsIn K mainGlobals "kept_chapter" = some (some (.ref (He.ga K "kept_chapter"))) := He.eqO_ok ((saysM0 c).fact (f := fun K => He.eqO (PySem.W.nsIn K mainGlobals "kept_chapter") (some (some (.ref (He.ga K "kept_chapter"))))) 10 rfl)
    obtain ⟨_, _, _, _, _, _, _, _, _, l_kept_chapter, c_kept_chapter, k_kept_chapter⟩ := FunD.plain ((saysM2 c).def_ (d := fnM_10) 10 rfl)
    have a_check_counts : PySem.W.nsIn K mainGlobals "check_counts" = some (some (.ref (He.ga K "check_counts"))) := He.eqO_ok ((saysM0 c).fact (f := fun K => He.eqO (PySem.W.nsIn K mainGlobals "check_counts") (some (some (.ref (He.ga K "check_counts"))))) 11 rfl)
    obtain ⟨_, _, _, _, _, _, _, _, _, l_check_counts, c_check_counts, k_check_counts⟩ := FunD.plain ((saysM2 c).def_ (d := fnM_11) 11 rfl)
    have a_kept_lines : PySem.W.nsIn K mainGlobals "kept_lines" = some (some (.ref (He.ga K "kept_lines"))) := He.eqO_ok ((saysM0 c).fact (f := fun K => He.eqO (PySem.W.nsIn K mainGlobals "kept_lines") (some (some (.ref (He.ga K "kept_lines"))))) 12 rfl)
    obtain ⟨_, _, _, _, _, _, _, _, _, l_kept_lines, c_kept_lines, k_kept_lines⟩ := FunD.plain ((saysM2 c).def_ (d := fnM_12) 12 rfl)
    have a_lines_of_pair : PySem.W.nsIn K mainGlobals "lines_of_pair" = some (some (.ref (He.ga K "lines_of_pair"))) := He.eqO_ok ((saysM0 c).fact (f := fun K => He.eqO (PySem.W.nsIn K mainGlobals "lines_of_pair") (some (some (.ref (He.ga K "lines_of_pair"))))) 13 rfl)
    obtain ⟨_, _, _, _, _, _, _, _, _, l_lines_of_pair, c_lines_of_pair, k_lines_of_pair⟩ := FunD.plain ((saysM2 c).def_ (d := fnM_13) 13 rfl)
    have a_fewest_pairs : PySem.W.nsIn K mainGlobals "fewest_pairs" = some (some (.ref (He.ga K "fewest_pairs"))) := He.eqO_ok ((saysM0 c).fact (f := fun K => He.eqO (PySem.W.nsIn K mainGlobals "fewest_pairs") (some (some (.ref (He.ga K "fewest_pairs"))))) 14 rfl)
    obtain ⟨_, _, _, _, _, _, _, _, _, l_fewest_pairs, c_fewest_pairs, k_fewest_pairs⟩ := FunD.plain ((saysM2 c).def_ (d := fnM_14) 14 rfl)
    have a_places_in : PySem.W.nsIn K mainGlobals "places_in" = some (some (.ref (He.ga K "places_in"))) := He.eqO_ok ((saysM0 c).fact (f := fun K => He.eqO (PySem.W.nsIn K mainGlobals "places_in") (some (some (.ref (He.ga K "places_in"))))) 15 rfl)
    obtain ⟨_, _, _, _, _, _, _, _, _, l_places_in, c_places_in, k_places_in⟩ := FunD.plain ((saysM2 c).def_ (d := fnM_15) 15 rfl)
    have a_stretches_of : PySem.W.nsIn K mainGlobals "stretches_of" = some (some (.ref (He.ga K "stretches_of"))) := He.eqO_ok ((saysM0 c).fact (f := fun K => He.eqO (PySem.W.nsIn K mainGlobals "stretches_of") (some (some (.ref (He.ga K "stretches_of"))))) 16 rfl)
    obtain ⟨_, _, _, _, _, _, _, _, _, l_stretches_of, c_stretches_of, k_stretches_of⟩ := FunD.plain ((saysM2 c).def_ (d := fnM_16) 16 rfl)
    have a_all_of : PySem.W.nsIn K mainGlobals "all_of" = some (some (.ref (He.ga K "all_of"))) := He.eqO_ok ((saysM0 c).fact (f := fun K => He.eqO (PySem.W.nsIn K mainGlobals "all_of") (some (some (.ref (He.ga K "all_of"))))) 17 rfl)
    obtain ⟨_, _, _, _, _, _, _, _, _, l_all_of, c_all_of, k_all_of⟩ := FunD.plain ((saysM2 c).def_ (d := fnM_17) 17 rfl)
    have a_spot_places : PySem.W.nsIn K mainGlobals "spot_places" = some (some (.ref (He.ga K "spot_places"))) := He.eqO_ok ((saysM0 c).fact (f := fun K => He.eqO (PySem.W.nsIn K mainGlobals "spot_places") (some (some (.ref (He.ga K "spot_places"))))) 18 rfl)
    obtain ⟨_, _, _, _, _, _, _, _, _, l_spot_places, c_spot_places, k_spot_places⟩ := FunD.plain ((saysM2 c).def_ (d := fnM_18) 18 rfl)
    have a_places_of_numbers : PySem.W.nsIn K mainGlobals "places_of_numbers" = some (some (.ref (He.ga K "places_of_numbers"))) := He.eqO_ok ((saysM0 c).fact (f := fun K => He.eqO (PySem.W.nsIn K mainGlobals "places_of_numbers") (some (some (.ref (He.ga K "places_of_numbers"))))) 19 rfl)
    obtain ⟨_, _, _, _, _, _, _, _, _, l_places_of_numbers, c_places_of_numbers, k_places_of_numbers⟩ := FunD.plain ((saysM2 c).def_ (d := fnM_19) 19 rfl)
    have a_places_of_stretches : PySem.W.nsIn K mainGlobals "places_of_stretches" = some (some (.ref (He.ga K "places_of_stretches"))) := He.eqO_ok ((saysM0 c).fact (f := fun K => He.eqO (PySem.W.nsIn K mainGlobals "places_of_stretches") (some (some (.ref (He.ga K "places_of_stretches"))))) 20 rfl)
    obtain ⟨_, _, _, _, _, _, _, _, _, l_places_of_stretches, c_places_of_stretches, k_places_of_stretches⟩ := FunD.plain ((saysM2 c).def_ (d := fnM_20) 20 rfl)
    have a_is_places_of : PySem.W.nsIn K mainGlobals "is_places_of" = some (some (.ref (He.ga K "is_places_of"))) := He.eqO_ok ((saysM0 c).fact (f := fun K => He.eqO (PySem.W.nsIn K mainGlobals "is_places_of") (some (some (.ref (He.ga K "is_places_of"))))) 21 rfl)
    obtain ⟨_, _, _, _, _, _, _, _, _, l_is_places_of, c_is_places_of, k_is_places_of⟩ := FunD.plain ((saysM2 c).def_ (d := fnM_21) 21 rfl)
    have a_kept_pairs : PySem.W.nsIn K mainGlobals "kept_pairs" = some (some (.ref (He.ga K "kept_pairs"))) := He.eqO_ok ((saysM0 c).fact (f := fun K => He.eqO (PySem.W.nsIn K mainGlobals "kept_pairs") (some (some (.ref (He.ga K "kept_pairs"))))) 22 rfl)
    obtain ⟨_, _, _, _, _, _, _, _, _, l_kept_pairs, c_kept_pairs, k_kept_pairs⟩ := FunD.plain ((saysM2 c).def_ (d := fnM_22) 22 rfl)
    have a_is_stretch : PySem.W.nsIn K mainGlobals "is_stretch" = some (some (.ref (He.ga K "is_stretch"))) := He.eqO_ok ((saysM0 c).fact (f := fun K => He.eqO (PySem.W.nsIn K mainGlobals "is_stretch") (some (some (.ref (He.ga K "is_stretch"))))) 23 rfl)
    obtain ⟨_, _, _, _, _, _, _, _, _, l_is_stretch, c_is_stretch, k_is_stretch⟩ := FunD.plain ((saysM2 c).def_ (d := fnM_23) 23 rfl)
    have a_numbers_in : PySem.W.nsIn K mainGlobals "numbers_in" = some (some (.ref (He.ga K "numbers_in"))) := He.eqO_ok ((saysM0 c).fact (f := fun K => He.eqO (PySem.W.nsIn K mainGlobals "numbers_in") (some (some (.ref (He.ga K "numbers_in"))))) 24 rfl)
    obtain ⟨_, _, _, _, _, _, _, _, _, l_numbers_in, c_numbers_in, k_numbers_in⟩ := FunD.plain ((saysM2 c).def_ (d := fnM_24) 24 rfl)
    have a_runs_of : PySem.W.nsIn K mainGlobals "runs_of" = some (some (.ref (He.ga K "runs_of"))) := He.eqO_ok ((saysM0 c).fact (f := fun K => He.eqO (PySem.W.nsIn K mainGlobals "runs_of") (some (some (.ref (He.ga K "runs_of"))))) 25 rfl)
    obtain ⟨_, _, _, _, _, _, _, _, _, l_runs_of, c_runs_of, k_runs_of⟩ := FunD.plain ((saysM2 c).def_ (d := fnM_25) 25 rfl)
    have a_runs_text : PySem.W.nsIn K mainGlobals "runs_text" = some (some (.ref (He.ga K "runs_text"))) := He.eqO_ok ((saysM0 c).fact (f := fun K => He.eqO (PySem.W.nsIn K mainGlobals "runs_text") (some (some (.ref (He.ga K "runs_text"))))) 26 rfl)
    obtain ⟨_, _, _, _, _, _, _, _, _, l_runs_text, c_runs_text, k_runs_text⟩ := FunD.plain ((saysM2 c).def_ (d := fnM_26) 26 rfl)
    have a_stretch_text : PySem.W.nsIn K mainGlobals "stretch_text" = some (some (.ref (He.ga K "stretch_text"))) := He.eqO_ok ((saysM0 c).fact (f := fun K => He.eqO (PySem.W.nsIn K mainGlobals "stretch_text") (some (some (.ref (He.ga K "stretch_text"))))) 27 rfl)
    obtain ⟨_, _, _, _, _, _, _, _, _, l_stretch_text, c_stretch_text, k_stretch_text⟩ := FunD.plain ((saysM2 c).def_ (d := fnM_27) 27 rfl)
    have a_shows_rows : PySem.W.nsIn K mainGlobals "shows_rows" = some (some (.ref (He.ga K "shows_rows"))) := He.eqO_ok ((saysM0 c).fact (f := fun K => He.eqO (PySem.W.nsIn K mainGlobals "shows_rows") (some (some (.ref (He.ga K "shows_rows"))))) 28 rfl)
    obtain ⟨_, _, _, _, _, _, _, _, _, l_shows_rows, c_shows_rows, k_shows_rows⟩ := FunD.plain ((saysM2 c).def_ (d := fnM_28) 28 rfl)
    have a_same_editions : PySem.W.nsIn K mainGlobals "same_editions" = some (some (.ref (He.ga K "same_editions"))) := He.eqO_ok ((saysM0 c).fact (f := fun K => He.eqO (PySem.W.nsIn K mainGlobals "same_editions") (some (some (.ref (He.ga K "same_editions"))))) 29 rfl)
    obtain ⟨_, _, _, _, _, _, _, _, _, l_same_editions, c_same_editions, k_same_editions⟩ := FunD.plain ((saysM2 c).def_ (d := fnM_29) 29 rfl)
    have a_parts_with_lines : PySem.W.nsIn K mainGlobals "parts_with_lines" = some (some (.ref (He.ga K "parts_with_lines"))) := He.eqO_ok ((saysM0 c).fact (f := fun K => He.eqO (PySem.W.nsIn K mainGlobals "parts_with_lines") (some (some (.ref (He.ga K "parts_with_lines"))))) 30 rfl)
    obtain ⟨_, _, _, _, _, _, _, _, _, l_parts_with_lines, c_parts_with_lines, k_parts_with_lines⟩ := FunD.plain ((saysM2 c).def_ (d := fnM_30) 30 rfl)
    have a_places_led : PySem.W.nsIn K mainGlobals "places_led" = some (some (.ref (He.ga K "places_led"))) := He.eqO_ok ((saysM0 c).fact (f := fun K => He.eqO (PySem.W.nsIn K mainGlobals "places_led") (some (some (.ref (He.ga K "places_led"))))) 31 rfl)
    obtain ⟨_, _, _, _, _, _, _, _, _, l_places_led, c_places_led, k_places_led⟩ := FunD.plain ((saysM2 c).def_ (d := fnM_31) 31 rfl)
    have a_places_lost : PySem.W.nsIn K mainGlobals "places_lost" = some (some (.ref (He.ga K "places_lost"))) := He.eqO_ok ((saysM0 c).fact (f := fun K => He.eqO (PySem.W.nsIn K mainGlobals "places_lost") (some (some (.ref (He.ga K "places_lost"))))) 32 rfl)
    obtain ⟨_, _, _, _, _, _, _, _, _, l_places_lost, c_places_lost, k_places_lost⟩ := FunD.plain ((saysM2 c).def_ (d := fnM_32) 32 rfl)
    have a_rows_of : PySem.W.nsIn K mainGlobals "rows_of" = some (some (.ref (He.ga K "rows_of"))) := He.eqO_ok ((saysM0 c).fact (f := fun K => He.eqO (PySem.W.nsIn K mainGlobals "rows_of") (some (some (.ref (He.ga K "rows_of"))))) 33 rfl)
    obtain ⟨_, _, _, _, _, _, _, _, _, l_rows_of, c_rows_of, k_rows_of⟩ := FunD.plain ((saysM2 c).def_ (d := fnM_33) 33 rfl)
    have a_goes_on : PySem.W.nsIn K mainGlobals "goes_on" = some (some (.ref (He.ga K "goes_on"))) := He.eqO_ok ((saysM0 c).fact (f := fun K => He.eqO (PySem.W.nsIn K mainGlobals "goes_on") (some (some (.ref (He.ga K "goes_on"))))) 34 rfl)
    obtain ⟨_, _, _, _, _, _, _, _, _, l_goes_on, c_goes_on, k_goes_on⟩ := FunD.plain ((saysM2 c).def_ (d := fnM_34) 34 rfl)
    have a_row_text : PySem.W.nsIn K mainGlobals "row_text" = some (some (.ref (He.ga K "row_text"))) := He.eqO_ok ((saysM0 c).fact (f := fun K => He.eqO (PySem.W.nsIn K mainGlobals "row_text") (some (some (.ref (He.ga K "row_text"))))) 35 rfl)
    obtain ⟨_, _, _, _, _, _, _, _, _, l_row_text, c_row_text, k_row_text⟩ := FunD.plain ((saysM2 c).def_ (d := fnM_35) 35 rfl)
    have a_kind_of : PySem.W.nsIn K mainGlobals "kind_of" = some (some (.ref (He.ga K "kind_of"))) := He.eqO_ok ((saysM0 c).fact (f := fun K => He.eqO (PySem.W.nsIn K mainGlobals "kind_of") (some (some (.ref (He.ga K "kind_of"))))) 36 rfl)
    obtain ⟨_, _, _, _, _, _, _, _, _, l_kind_of, c_kind_of, k_kind_of⟩ := FunD.plain ((saysM2 c).def_ (d := fnM_36) 36 rfl)
    have a__law_cell_at : PySem.W.nsIn K mainGlobals "_law_cell_at" = some (some (.ref (He.ga K "_law_cell_at"))) := He.eqO_ok ((saysM0 c).fact (f := fun K => He.eqO (PySem.W.nsIn K mainGlobals "_law_cell_at") (some (some (.ref (He.ga K "_law_cell_at"))))) 37 rfl)
    obtain ⟨_, _, _, _, _, _, _, _, _, l__law_cell_at, c__law_cell_at, k__law_cell_at⟩ := FunD.plain ((saysM2 c).def_ (d := fnM_37) 37 rfl)
    have a__law_row : PySem.W.nsIn K mainGlobals "_law_row" = some (some (.ref (He.ga K "_law_row"))) := He.eqO_ok ((saysM0 c).fact (f := fun K => He.eqO (PySem.W.nsIn K mainGlobals "_law_row") (some (some (.ref (He.ga K "_law_row"))))) 38 rfl)
    obtain ⟨_, _, _, _, _, _, _, _, _, l__law_row, c__law_row, k__law_row⟩ := FunD.plain ((saysM2 c).def_ (d := fnM_38) 38 rfl)
    have a__law_names : PySem.W.nsIn K mainGlobals "_law_names" = some (some (.ref (He.ga K "_law_names"))) := He.eqO_ok ((saysM0 c).fact (f := fun K => He.eqO (PySem.W.nsIn K mainGlobals "_law_names") (some (some (.ref (He.ga K "_law_names"))))) 39 rfl)
    obtain ⟨_, _, _, _, _, _, _, _, _, l__law_names, c__law_names, k__law_names⟩ := FunD.plain ((saysM2 c).def_ (d := fnM_39) 39 rfl)
    have a__law_books : PySem.W.nsIn K mainGlobals "_law_books" = some (some (.ref (He.ga K "_law_books"))) := He.eqO_ok ((saysM0 c).fact (f := fun K => He.eqO (PySem.W.nsIn K mainGlobals "_law_books") (some (some (.ref (He.ga K "_law_books"))))) 40 rfl)
    obtain ⟨_, _, _, _, _, _, _, _, _, l__law_books, c__law_books, k__law_books⟩ := FunD.plain ((saysM2 c).def_ (d := fnM_40) 40 rfl)
    have a__law_copy : PySem.W.nsIn K mainGlobals "_law_copy" = some (some (.ref (He.ga K "_law_copy"))) := He.eqO_ok ((saysM0 c).fact (f := fun K => He.eqO (PySem.W.nsIn K mainGlobals "_law_copy") (some (some (.ref (He.ga K "_law_copy"))))) 41 rfl)
    obtain ⟨_, _, _, _, _, _, _, _, _, l__law_copy, c__law_copy, k__law_copy⟩ := FunD.plain ((saysM2 c).def_ (d := fnM_41) 41 rfl)
    have a__law_spots : PySem.W.nsIn K mainGlobals "_law_spots" = some (some (.ref (He.ga K "_law_spots"))) := He.eqO_ok ((saysM0 c).fact (f := fun K => He.eqO (PySem.W.nsIn K mainGlobals "_law_spots") (some (some (.ref (He.ga K "_law_spots"))))) 42 rfl)
    obtain ⟨_, _, _, _, _, _, _, _, _, l__law_spots, c__law_spots, k__law_spots⟩ := FunD.plain ((saysM2 c).def_ (d := fnM_42) 42 rfl)
    have a__law_threads : PySem.W.nsIn K mainGlobals "_law_threads" = some (some (.ref (He.ga K "_law_threads"))) := He.eqO_ok ((saysM0 c).fact (f := fun K => He.eqO (PySem.W.nsIn K mainGlobals "_law_threads") (some (some (.ref (He.ga K "_law_threads"))))) 43 rfl)
    obtain ⟨_, _, _, _, _, _, _, _, _, l__law_threads, c__law_threads, k__law_threads⟩ := FunD.plain ((saysM2 c).def_ (d := fnM_43) 43 rfl)
    have a__law_edition : PySem.W.nsIn K mainGlobals "_law_edition" = some (some (.ref (He.ga K "_law_edition"))) := He.eqO_ok ((saysM0 c).fact (f := fun K => He.eqO (PySem.W.nsIn K mainGlobals "_law_edition") (some (some (.ref (He.ga K "_law_edition"))))) 44 rfl)
    obtain ⟨_, _, _, _, _, _, _, _, _, l__law_edition, c__law_edition, k__law_edition⟩ := FunD.plain ((saysM2 c).def_ (d := fnM_44) 44 rfl)
    have a__law_two : PySem.W.nsIn K mainGlobals "_law_two" = some (some (.ref (He.ga K "_law_two"))) := He.eqO_ok ((saysM0 c).fact (f := fun K => He.eqO (PySem.W.nsIn K mainGlobals "_law_two") (some (some (.ref (He.ga K "_law_two"))))) 45 rfl)
    obtain ⟨_, _, _, _, _, _, _, _, _, l__law_two, c__law_two, k__law_two⟩ := FunD.plain ((saysM2 c).def_ (d := fnM_45) 45 rfl)
    have a__law_goes : PySem.W.nsIn K mainGlobals "_law_goes" = some (some (.ref (He.ga K "_law_goes"))) := He.eqO_ok ((saysM0 c).fact (f := fun K => He.eqO (PySem.W.nsIn K mainGlobals "_law_goes") (some (some (.ref (He.ga K "_law_goes"))))) 46 rfl)
    obtain ⟨_, _, _, _, _, _, _, _, _, l__law_goes, c__law_goes, k__law_goes⟩ := FunD.plain ((saysM2 c).def_ (d := fnM_46) 46 rfl)
    have a__law_rows : PySem.W.nsIn K mainGlobals "_law_rows" = some (some (.ref (He.ga K "_law_rows"))) := He.eqO_ok ((saysM0 c).fact (f := fun K => He.eqO (PySem.W.nsIn K mainGlobals "_law_rows") (some (some (.ref (He.ga K "_law_rows"))))) 47 rfl)
    obtain ⟨_, _, _, _, _, _, _, _, _, l__law_rows, c__law_rows, k__law_rows⟩ := FunD.plain ((saysM2 c).def_ (d := fnM_47) 47 rfl)
    have a__law_alike : PySem.W.nsIn K mainGlobals "_law_alike" = some (some (.ref (He.ga K "_law_alike"))) := He.eqO_ok ((saysM0 c).fact (f := fun K => He.eqO (PySem.W.nsIn K mainGlobals "_law_alike") (some (some (.ref (He.ga K "_law_alike"))))) 48 rfl)
    obtain ⟨_, _, _, _, _, _, _, _, _, l__law_alike, c__law_alike, k__law_alike⟩ := FunD.plain ((saysM2 c).def_ (d := fnM_48) 48 rfl)
    have a__law_turned_row : PySem.W.nsIn K mainGlobals "_law_turned_row" = some (some (.ref (He.ga K "_law_turned_row"))) := He.eqO_ok ((saysM0 c).fact (f := fun K => He.eqO (PySem.W.nsIn K mainGlobals "_law_turned_row") (some (some (.ref (He.ga K "_law_turned_row"))))) 49 rfl)
    obtain ⟨_, _, _, _, _, _, _, _, _, l__law_turned_row, c__law_turned_row, k__law_turned_row⟩ := FunD.plain ((saysM2 c).def_ (d := fnM_49) 49 rfl)
    have a__law_forged : PySem.W.nsIn K mainGlobals "_law_forged" = some (some (.ref (He.ga K "_law_forged"))) := He.eqO_ok ((saysM0 c).fact (f := fun K => He.eqO (PySem.W.nsIn K mainGlobals "_law_forged") (some (some (.ref (He.ga K "_law_forged"))))) 50 rfl)
    obtain ⟨_, _, _, _, _, _, _, _, _, l__law_forged, c__law_forged, k__law_forged⟩ := FunD.plain ((saysM2 c).def_ (d := fnM_50) 50 rfl)
    have a__law_refused : PySem.W.nsIn K mainGlobals "_law_refused" = some (some (.ref (He.ga K "_law_refused"))) := He.eqO_ok ((saysM0 c).fact (f := fun K => He.eqO (PySem.W.nsIn K mainGlobals "_law_refused") (some (some (.ref (He.ga K "_law_refused"))))) 51 rfl)
    obtain ⟨_, _, _, _, _, _, _, _, _, l__law_refused, c__law_refused, k__law_refused⟩ := FunD.plain ((saysM2 c).def_ (d := fnM_51) 51 rfl)
    have a_law : PySem.W.nsIn K mainGlobals "law" = some (some (.ref (He.ga K "law"))) := He.eqO_ok ((saysM0 c).fact (f := fun K => He.eqO (PySem.W.nsIn K mainGlobals "law") (some (some (.ref (He.ga K "law"))))) 52 rfl)
    obtain ⟨_, _, _, _, _, _, _, _, _, l_law, c_law, k_law⟩ := FunD.plain ((saysM2 c).def_ (d := fnM_52) 52 rfl)
    have z_LookupError : PySem.W.nsIn K mainGlobals "LookupError" = some none := He.eqO_ok ((saysM0 c).fact (f := fun K => He.eqO (PySem.W.nsIn K mainGlobals "LookupError") (some none)) 53 rfl)
    have z_ValueError : PySem.W.nsIn K mainGlobals "ValueError" = some none := He.eqO_ok ((saysM0 c).fact (f := fun K => He.eqO (PySem.W.nsIn K mainGlobals "ValueError") (some none)) 54 rfl)
    have z_abs : PySem.W.nsIn K mainGlobals "abs" = some none := He.eqO_ok ((saysM0 c).fact (f := fun K => He.eqO (PySem.W.nsIn K mainGlobals "abs") (some none)) 55 rfl)
    have z_all : PySem.W.nsIn K mainGlobals "all" = some none := He.eqO_ok ((saysM0 c).fact (f := fun K => He.eqO (PySem.W.nsIn K mainGlobals "all") (some none)) 56 rfl)
    have z_any : PySem.W.nsIn K mainGlobals "any" = some none := He.eqO_ok ((saysM0 c).fact (f := fun K => He.eqO (PySem.W.nsIn K mainGlobals "any") (some none)) 57 rfl)
    have z_bool : PySem.W.nsIn K mainGlobals "bool" = some none := He.eqO_ok ((saysM0 c).fact (f := fun K => He.eqO (PySem.W.nsIn K mainGlobals "bool") (some none)) 58 rfl)
    have z_enumerate : PySem.W.nsIn K mainGlobals "enumerate" = some none := He.eqO_ok ((saysM0 c).fact (f := fun K => He.eqO (PySem.W.nsIn K mainGlobals "enumerate") (some none)) 59 rfl)
    have z_int : PySem.W.nsIn K mainGlobals "int" = some none := He.eqO_ok ((saysM0 c).fact (f := fun K => He.eqO (PySem.W.nsIn K mainGlobals "int") (some none)) 60 rfl)
    have z_isinstance : PySem.W.nsIn K mainGlobals "isinstance" = some none := He.eqO_ok ((saysM0 c).fact (f := fun K => He.eqO (PySem.W.nsIn K mainGlobals "isinstance") (some none)) 61 rfl)
    have z_len : PySem.W.nsIn K mainGlobals "len" = some none := He.eqO_ok ((saysM0 c).fact (f := fun K => He.eqO (PySem.W.nsIn K mainGlobals "len") (some none)) 62 rfl)
    have z_list : PySem.W.nsIn K mainGlobals "list" = some none := He.eqO_ok ((saysM0 c).fact (f := fun K => He.eqO (PySem.W.nsIn K mainGlobals "list") (some none)) 63 rfl)
    have z_max : PySem.W.nsIn K mainGlobals "max" = some none := He.eqO_ok ((saysM0 c).fact (f := fun K => He.eqO (PySem.W.nsIn K mainGlobals "max") (some none)) 64 rfl)
    have z_range : PySem.W.nsIn K mainGlobals "range" = some none := He.eqO_ok ((saysM0 c).fact (f := fun K => He.eqO (PySem.W.nsIn K mainGlobals "range") (some none)) 65 rfl)
    have z_sorted : PySem.W.nsIn K mainGlobals "sorted" = some none := He.eqO_ok ((saysM0 c).fact (f := fun K => He.eqO (PySem.W.nsIn K mainGlobals "sorted") (some none)) 66 rfl)
    have z_str : PySem.W.nsIn K mainGlobals "str" = some none := He.eqO_ok ((saysM0 c).fact (f := fun K => He.eqO (PySem.W.nsIn K mainGlobals "str") (some none)) 67 rfl)
    have z_sum : PySem.W.nsIn K mainGlobals "sum" = some none := He.eqO_ok ((saysM0 c).fact (f := fun K => He.eqO (PySem.W.nsIn K mainGlobals "sum") (some none)) 68 rfl)
    have z_tuple : PySem.W.nsIn K mainGlobals "tuple" = some none := He.eqO_ok ((saysM0 c).fact (f := fun K => He.eqO (PySem.W.nsIn K mainGlobals "tuple") (some none)) 69 rfl)
    obtain ⟨_, y_LAST_LINE⟩ := intF_ok ((saysM0 c).fact (f := intF "LAST_LINE" 9999) 70 rfl)
    obtain ⟨_, y_LONGEST_NAME⟩ := intF_ok ((saysM0 c).fact (f := intF "LONGEST_NAME" 6) 71 rfl)
    obtain ⟨_, y_MOST_BOOKS⟩ := intF_ok ((saysM0 c).fact (f := intF "MOST_BOOKS" 6) 72 rfl)
    obtain ⟨_, y_MOST_BOOK_CHAPTERS⟩ := intF_ok ((saysM0 c).fact (f := intF "MOST_BOOK_CHAPTERS" 12) 73 rfl)
    obtain ⟨_, y_MOST_CHAPTERS⟩ := intF_ok ((saysM0 c).fact (f := intF "MOST_CHAPTERS" 40) 74 rfl)
    obtain ⟨_, y_MOST_PAIRS_editions⟩ := intF_ok ((saysM0 c).fact (f := intF "MOST_PAIRS_editions" 400) 75 rfl)
    obtain ⟨_, y_MOST_PAIRS_places⟩ := intF_ok ((saysM0 c).fact (f := intF "MOST_PAIRS_places" 400) 76 rfl)
    obtain ⟨_, y_MOST_PARTS⟩ := intF_ok ((saysM0 c).fact (f := intF "MOST_PARTS" 400) 77 rfl)
    obtain ⟨_, y_MOST_VERSES⟩ := intF_ok ((saysM0 c).fact (f := intF "MOST_VERSES" 30) 78 rfl)
    obtain ⟨_, y_MOST_VERSE_PARTS⟩ := intF_ok ((saysM0 c).fact (f := intF "MOST_VERSE_PARTS" 4) 79 rfl)
    obtain ⟨_, y_SMALL_LETTERS⟩ := strF_ok ((saysM0 c).fact (f := strF "SMALL_LETTERS" "abcdefghijklmnopqrstuvwxyz") 80 rfl)
    have aE : PySem.W.nsIn K mainGlobals "Edition" = some (some (.ref (He.ga K "Edition"))) := He.eqO_ok ((saysM0 c).fact (f := fun K => He.eqO (PySem.W.nsIn K mainGlobals "Edition") (some (some (.ref (He.ga K "Edition"))))) 81 rfl)
    have iI : PySem.W.findIn K (.ref (He.ga K "Edition")) "__init__" = some (some (.ref (He.ma K (He.ga K "Edition") "__init__"))) := He.eqO_ok ((saysM0 c).fact (f := fun K => He.eqO (PySem.W.findIn K (.ref (He.ga K "Edition")) "__init__") (some (some (.ref (He.ma K (He.ga K "Edition") "__init__"))))) 82 rfl)
    obtain ⟨_, _, _, _, _, _, _, _, _, _, _, _, _, _, lI, cI, kI, lT⟩ := FunD.oneN ((saysM2 c).def_ (d := fnM_53) 53 rfl)
    have nI : PySem.W.isFn K (.ref (He.ma K (He.ga K "Edition") "__init__")) = true := (saysM0 c).fact (f := fun K => PySem.W.isFn K (.ref (He.ma K (He.ga K "Edition") "__init__"))) 83 rfl
    have mkC : PySem.W.makesIn K (He.ga K "Edition") = true := (saysM0 c).fact (f := fun K => PySem.W.makesIn K (He.ga K "Edition")) 84 rfl
    have kC : PySem.W.keepIn K (.ref (He.ga K "Edition")) = true := (saysM0 c).fact (f := fun K => PySem.W.keepIn K (.ref (He.ga K "Edition"))) 85 rfl
    have pgC : PySem.W.plainGet K (He.ga K "Edition") Str.empty = true := (saysM0 c).fact (f := fun K => PySem.W.plainGet K (He.ga K "Edition") Str.empty) 86 rfl
    have hdC : PySem.W.hasDictIn K (He.ga K "Edition") = true := (saysM0 c).fact (f := fun K => PySem.W.hasDictIn K (He.ga K "Edition")) 87 rfl
    have poC : PySem.W.plainOver K (He.ga K "Edition") = true := (saysM0 c).fact (f := fun K => PySem.W.plainOver K (He.ga K "Edition")) 88 rfl
    have saC : PySem.W.findIn K (.ref (He.ga K "Edition")) "__setattr__" = some (some (.builtin "object.__setattr__")) := He.eqO_ok ((saysM0 c).fact (f := fun K => He.eqO (PySem.W.findIn K (.ref (He.ga K "Edition")) "__setattr__") (some (some (.builtin "object.__setattr__")))) 89 rfl)
    have w1 : PySem.W.findIn K (.ref (He.ga K "Edition")) "_books" = some none := He.eqO_ok ((saysM0 c).fact (f := fun K => He.eqO (PySem.W.findIn K (.ref (He.ga K "Edition")) "_books") (some none)) 90 rfl)
    have w2 : PySem.W.findIn K (.ref (He.ga K "Edition")) "_chapters" = some none := He.eqO_ok ((saysM0 c).fact (f := fun K => He.eqO (PySem.W.findIn K (.ref (He.ga K "Edition")) "_chapters") (some none)) 91 rfl)
    have w3 : PySem.W.findIn K (.ref (He.ga K "Edition")) "_places" = some none := He.eqO_ok ((saysM0 c).fact (f := fun K => He.eqO (PySem.W.findIn K (.ref (He.ga K "Edition")) "_places") (some none)) 92 rfl)
    have w4 : PySem.W.findIn K (.ref (He.ga K "Edition")) "_stretches" = some none := He.eqO_ok ((saysM0 c).fact (f := fun K => He.eqO (PySem.W.findIn K (.ref (He.ga K "Edition")) "_stretches") (some none)) 93 rfl)
    have w5 : PySem.W.findIn K (.ref (He.ga K "Edition")) "_lines" = some none := He.eqO_ok ((saysM0 c).fact (f := fun K => He.eqO (PySem.W.findIn K (.ref (He.ga K "Edition")) "_lines") (some none)) 94 rfl)
    have w6 : PySem.W.findIn K (.ref (He.ga K "Edition")) "_numbers" = some none := He.eqO_ok ((saysM0 c).fact (f := fun K => He.eqO (PySem.W.findIn K (.ref (He.ga K "Edition")) "_numbers") (some none)) 95 rfl)
    have w7 : PySem.W.findIn K (.ref (He.ga K "Edition")) "_told" = some none := He.eqO_ok ((saysM0 c).fact (f := fun K => He.eqO (PySem.W.findIn K (.ref (He.ga K "Edition")) "_told") (some none)) 96 rfl)
    have haC : PySem.W.findIn K (.ref (He.ga K "Edition")) "__class__" = some (some (.builtin "object.__class__")) := He.eqO_ok ((saysM0 c).fact (f := fun K => He.eqO (PySem.W.findIn K (.ref (He.ga K "Edition")) "__class__") (some (some (.builtin "object.__class__")))) 97 rfl)
    have hnC : PySem.W.specialIn K (.builtin "object.__class__") "__get__" = some (some (.builtin "getset_descriptor.__get__")) := He.eqO_ok ((saysM0 c).fact (f := fun K => He.eqO (PySem.W.specialIn K (.builtin "object.__class__") "__get__") (some (some (.builtin "getset_descriptor.__get__")))) 98 rfl)
    have tkC : PySem.W.takesIn K (.builtin "object.__class__") = some true := of_decide_eq_true ((saysM0 c).fact (f := fun K => decide (PySem.W.takesIn K (.builtin "object.__class__") = some true)) 99 rfl)
    have hmC : PySem.W.mroIn K (He.ga K "Edition") (.type "object") = some true := of_decide_eq_true ((saysM0 c).fact (f := fun K => decide (PySem.W.mroIn K (He.ga K "Edition") (.type "object") = some true)) 100 rfl)
    have q1 : PySem.W.subIn K (.ref (He.ga K "Edition")) (.type "int") = some false := of_decide_eq_true ((saysM0 c).fact (f := fun K => decide (PySem.W.subIn K (.ref (He.ga K "Edition")) (.type "int") = some false)) 101 rfl)
    have q2 : PySem.W.subIn K (.ref (He.ga K "Edition")) (.type "bool") = some false := of_decide_eq_true ((saysM0 c).fact (f := fun K => decide (PySem.W.subIn K (.ref (He.ga K "Edition")) (.type "bool") = some false)) 102 rfl)
    have q3 : PySem.W.subIn K (.ref (He.ga K "Edition")) (.type "str") = some false := of_decide_eq_true ((saysM0 c).fact (f := fun K => decide (PySem.W.subIn K (.ref (He.ga K "Edition")) (.type "str") = some false)) 103 rfl)
    have i_Mlines : PySem.W.findIn K (.ref (He.ga K "Edition")) "lines" = some (some (.ref (He.ma K (He.ga K "Edition") "lines"))) := He.eqO_ok ((saysM0 c).fact (f := fun K => He.eqO (PySem.W.findIn K (.ref (He.ga K "Edition")) "lines") (some (some (.ref (He.ma K (He.ga K "Edition") "lines"))))) 104 rfl)
    obtain ⟨_, _, _, _, _, _, _, _, _, l_Mlines, c_Mlines, k_Mlines⟩ := FunD.plain ((saysM2 c).def_ (d := fnM_54) 54 rfl)
    have n_Mlines : PySem.W.isFn K (.ref (He.ma K (He.ga K "Edition") "lines")) = true := (saysM0 c).fact (f := fun K => PySem.W.isFn K (.ref (He.ma K (He.ga K "Edition") "lines"))) 105 rfl
    have i_Mpart_of : PySem.W.findIn K (.ref (He.ga K "Edition")) "part_of" = some (some (.ref (He.ma K (He.ga K "Edition") "part_of"))) := He.eqO_ok ((saysM0 c).fact (f := fun K => He.eqO (PySem.W.findIn K (.ref (He.ga K "Edition")) "part_of") (some (some (.ref (He.ma K (He.ga K "Edition") "part_of"))))) 106 rfl)
    obtain ⟨_, _, _, _, _, _, _, _, _, l_Mpart_of, c_Mpart_of, k_Mpart_of⟩ := FunD.plain ((saysM2 c).def_ (d := fnM_55) 55 rfl)
    have n_Mpart_of : PySem.W.isFn K (.ref (He.ma K (He.ga K "Edition") "part_of")) = true := (saysM0 c).fact (f := fun K => PySem.W.isFn K (.ref (He.ma K (He.ga K "Edition") "part_of"))) 107 rfl
    have i_Mtold : PySem.W.findIn K (.ref (He.ga K "Edition")) "told" = some (some (.ref (He.ma K (He.ga K "Edition") "told"))) := He.eqO_ok ((saysM0 c).fact (f := fun K => He.eqO (PySem.W.findIn K (.ref (He.ga K "Edition")) "told") (some (some (.ref (He.ma K (He.ga K "Edition") "told"))))) 108 rfl)
    obtain ⟨_, _, _, _, _, _, _, _, _, l_Mtold, c_Mtold, k_Mtold⟩ := FunD.plain ((saysM2 c).def_ (d := fnM_56) 56 rfl)
    have n_Mtold : PySem.W.isFn K (.ref (He.ma K (He.ga K "Edition") "told")) = true := (saysM0 c).fact (f := fun K => PySem.W.isFn K (.ref (He.ma K (He.ga K "Edition") "told"))) 109 rfl
    have aEL : PySem.W.nsIn K mainGlobals "Leading" = some (some (.ref (He.ga K "Leading"))) := He.eqO_ok ((saysM1 c).fact (f := fun K => He.eqO (PySem.W.nsIn K mainGlobals "Leading") (some (some (.ref (He.ga K "Leading"))))) 0 rfl)
    have iIL : PySem.W.findIn K (.ref (He.ga K "Leading")) "__init__" = some (some (.ref (He.ma K (He.ga K "Leading") "__init__"))) := He.eqO_ok ((saysM1 c).fact (f := fun K => He.eqO (PySem.W.findIn K (.ref (He.ga K "Leading")) "__init__") (some (some (.ref (He.ma K (He.ga K "Leading") "__init__"))))) 1 rfl)
    obtain ⟨_, _, _, _, _, _, _, _, _, lIL, cIL, kIL⟩ := FunD.plain ((saysM2 c).def_ (d := fnM_57) 57 rfl)
    have nIL : PySem.W.isFn K (.ref (He.ma K (He.ga K "Leading") "__init__")) = true := (saysM1 c).fact (f := fun K => PySem.W.isFn K (.ref (He.ma K (He.ga K "Leading") "__init__"))) 2 rfl
    have mkCL : PySem.W.makesIn K (He.ga K "Leading") = true := (saysM1 c).fact (f := fun K => PySem.W.makesIn K (He.ga K "Leading")) 3 rfl
    have kCL : PySem.W.keepIn K (.ref (He.ga K "Leading")) = true := (saysM1 c).fact (f := fun K => PySem.W.keepIn K (.ref (He.ga K "Leading"))) 4 rfl
    have pgCL : PySem.W.plainGet K (He.ga K "Leading") Str.empty = true := (saysM1 c).fact (f := fun K => PySem.W.plainGet K (He.ga K "Leading") Str.empty) 5 rfl
    have hdCL : PySem.W.hasDictIn K (He.ga K "Leading") = true := (saysM1 c).fact (f := fun K => PySem.W.hasDictIn K (He.ga K "Leading")) 6 rfl
    have poCL : PySem.W.plainOver K (He.ga K "Leading") = true := (saysM1 c).fact (f := fun K => PySem.W.plainOver K (He.ga K "Leading")) 7 rfl
    have saCL : PySem.W.findIn K (.ref (He.ga K "Leading")) "__setattr__" = some (some (.builtin "object.__setattr__")) := He.eqO_ok ((saysM1 c).fact (f := fun K => He.eqO (PySem.W.findIn K (.ref (He.ga K "Leading")) "__setattr__") (some (some (.builtin "object.__setattr__")))) 8 rfl)
    have u1 : PySem.W.findIn K (.ref (He.ga K "Leading")) "_one" = some none := He.eqO_ok ((saysM1 c).fact (f := fun K => He.eqO (PySem.W.findIn K (.ref (He.ga K "Leading")) "_one") (some none)) 9 rfl)
    have u2 : PySem.W.findIn K (.ref (He.ga K "Leading")) "_other" = some none := He.eqO_ok ((saysM1 c).fact (f := fun K => He.eqO (PySem.W.findIn K (.ref (He.ga K "Leading")) "_other") (some none)) 10 rfl)
    have u3 : PySem.W.findIn K (.ref (He.ga K "Leading")) "_ahead" = some none := He.eqO_ok ((saysM1 c).fact (f := fun K => He.eqO (PySem.W.findIn K (.ref (He.ga K "Leading")) "_ahead") (some none)) 11 rfl)
    have u4 : PySem.W.findIn K (.ref (He.ga K "Leading")) "_behind" = some none := He.eqO_ok ((saysM1 c).fact (f := fun K => He.eqO (PySem.W.findIn K (.ref (He.ga K "Leading")) "_behind") (some none)) 12 rfl)
    have u5 : PySem.W.findIn K (.ref (He.ga K "Leading")) "_rows" = some none := He.eqO_ok ((saysM1 c).fact (f := fun K => He.eqO (PySem.W.findIn K (.ref (He.ga K "Leading")) "_rows") (some none)) 13 rfl)
    have i_Lrows : PySem.W.findIn K (.ref (He.ga K "Leading")) "rows" = some (some (.ref (He.ma K (He.ga K "Leading") "rows"))) := He.eqO_ok ((saysM1 c).fact (f := fun K => He.eqO (PySem.W.findIn K (.ref (He.ga K "Leading")) "rows") (some (some (.ref (He.ma K (He.ga K "Leading") "rows"))))) 14 rfl)
    obtain ⟨_, _, _, _, _, _, _, _, _, l_Lrows, c_Lrows, k_Lrows⟩ := FunD.plain ((saysM2 c).def_ (d := fnM_58) 58 rfl)
    have n_Lrows : PySem.W.isFn K (.ref (He.ma K (He.ga K "Leading") "rows")) = true := (saysM1 c).fact (f := fun K => PySem.W.isFn K (.ref (He.ma K (He.ga K "Leading") "rows"))) 15 rfl
    have ae_PlaceError : PySem.W.nsIn K mainGlobals "PlaceError" = some (some (.ref (He.ga K "PlaceError"))) := He.eqO_ok ((saysM1 c).fact (f := fun K => He.eqO (PySem.W.nsIn K mainGlobals "PlaceError") (some (some (.ref (He.ga K "PlaceError"))))) 16 rfl)
    have ae_NoEdition : PySem.W.nsIn K mainGlobals "NoEdition" = some (some (.ref (He.ga K "NoEdition"))) := He.eqO_ok ((saysM1 c).fact (f := fun K => He.eqO (PySem.W.nsIn K mainGlobals "NoEdition") (some (some (.ref (He.ga K "NoEdition"))))) 17 rfl)
    obtain ⟨_, _, _, _, _, _, _, _, _, l_EPlaceError, c_EPlaceError, k_EPlaceError⟩ := FunD.plain ((saysM2 c).def_ (d := fnM_59) 59 rfl)
    obtain ⟨_, _, _, _, _, _, _, _, _, l_ENoEdition, c_ENoEdition, k_ENoEdition⟩ := FunD.plain ((saysM2 c).def_ (d := fnM_60) 60 rfl)
    have vV : valF (.type "ValueError") (.type "type") "__init__" (.builtin "ValueError.__init__") K = true := (saysM1 c).fact (f := fun K => valF (.type "ValueError") (.type "type") "__init__" (.builtin "ValueError.__init__") K) 18 rfl
    have atB : valF (.ref (He.ga K "PlaceError")) (.type "type") "__init__" (.ref (He.ma K (He.ga K "PlaceError") "__init__")) K = true := (saysM1 c).fact (f := fun K => valF (.ref (He.ga K "PlaceError")) (.type "type") "__init__" (.ref (He.ma K (He.ga K "PlaceError") "__init__")) K) 19 rfl
    have gaB : PySem.W.specialIn K (.ref (He.ga K "PlaceError")) "__getattribute__" = some (some (.builtin "type.__getattribute__")) := He.eqO_ok ((saysM1 c).fact (f := fun K => He.eqO (PySem.W.specialIn K (.ref (He.ga K "PlaceError")) "__getattribute__") (some (some (.builtin "type.__getattribute__")))) 20 rfl)
    have rdB : PySem.W.readsIn K (He.ga K "PlaceError") (.type "type") = true := (saysM1 c).fact (f := fun K => PySem.W.readsIn K (He.ga K "PlaceError") (.type "type")) 21 rfl
    have xb_NoEdition : excB (He.ga K "NoEdition") (He.ma K (He.ga K "NoEdition") "__init__") K = true := (saysM1 c).fact (f := fun K => excB (He.ga K "NoEdition") (He.ma K (He.ga K "NoEdition") "__init__") K) 22 rfl
    have xi_NoEdition : exiB (He.ga K "NoEdition") K = true := (saysM1 c).fact (f := fun K => exiB (He.ga K "NoEdition") K) 23 rfl
    have mEE : PySem.W.exmOne K (.ref (He.ga K "NoEdition")) (.ref (He.ga K "NoEdition")) = some true := of_decide_eq_true ((saysM1 c).fact (f := fun K => decide (PySem.W.exmOne K (.ref (He.ga K "NoEdition")) (.ref (He.ga K "NoEdition")) = some true)) 24 rfl)
    have nbC : noBiB (He.ga K "Edition") K = true := (saysM1 c).fact (f := fun K => noBiB (He.ga K "Edition") K) 25 rfl
    exact all_mk X G hfa a__wall l__wall c__wall k__wall a_is_number l_is_number c_is_number k_is_number a_is_whole l_is_whole c_is_whole k_is_whole a_is_name l_is_name c_is_name k_is_name a_is_made_of l_is_made_of c_is_made_of k_is_made_of a_is_tuple l_is_tuple c_is_tuple k_is_tuple a_is_row l_is_row c_is_row k_is_row a_check_edition l_check_edition c_check_edition k_check_edition a_kept_books l_kept_books c_kept_books k_kept_books a_kept_book l_kept_book c_kept_book k_kept_book a_kept_chapter l_kept_chapter c_kept_chapter k_kept_chapter a_check_counts l_check_counts c_check_counts k_check_counts a_kept_lines l_kept_lines c_kept_lines k_kept_lines a_lines_of_pair l_lines_of_pair c_lines_of_pair k_lines_of_pair a_fewest_pairs l_fewest_pairs c_fewest_pairs k_fewest_pairs a_places_in l_places_in c_places_in k_places_in a_stretches_of l_stretches_of c_stretches_of k_stretches_of a_all_of l_all_of c_all_of k_all_of a_spot_places l_spot_places c_spot_places k_spot_places a_places_of_numbers l_places_of_numbers c_places_of_numbers k_places_of_numbers a_places_of_stretches l_places_of_stretches c_places_of_stretches k_places_of_stretches a_is_places_of l_is_places_of c_is_places_of k_is_places_of a_kept_pairs l_kept_pairs c_kept_pairs k_kept_pairs a_is_stretch l_is_stretch c_is_stretch k_is_stretch a_numbers_in l_numbers_in c_numbers_in k_numbers_in a_runs_of l_runs_of c_runs_of k_runs_of a_runs_text l_runs_text c_runs_text k_runs_text a_stretch_text l_stretch_text c_stretch_text k_stretch_text a_shows_rows l_shows_rows c_shows_rows k_shows_rows a_same_editions l_same_editions c_same_editions k_same_editions a_parts_with_lines l_parts_with_lines c_parts_with_lines k_parts_with_lines a_places_led l_places_led c_places_led k_places_led a_places_lost l_places_lost c_places_lost k_places_lost a_rows_of l_rows_of c_rows_of k_rows_of a_goes_on l_goes_on c_goes_on k_goes_on a_row_text l_row_text c_row_text k_row_text a_kind_of l_kind_of c_kind_of k_kind_of a__law_cell_at l__law_cell_at c__law_cell_at k__law_cell_at a__law_row l__law_row c__law_row k__law_row a__law_names l__law_names c__law_names k__law_names a__law_books l__law_books c__law_books k__law_books a__law_copy l__law_copy c__law_copy k__law_copy a__law_spots l__law_spots c__law_spots k__law_spots a__law_threads l__law_threads c__law_threads k__law_threads a__law_edition l__law_edition c__law_edition k__law_edition a__law_two l__law_two c__law_two k__law_two a__law_goes l__law_goes c__law_goes k__law_goes a__law_rows l__law_rows c__law_rows k__law_rows a__law_alike l__law_alike c__law_alike k__law_alike a__law_turned_row l__law_turned_row c__law_turned_row k__law_turned_row a__law_forged l__law_forged c__law_forged k__law_forged a__law_refused l__law_refused c__law_refused k__law_refused a_law l_law c_law k_law z_LookupError z_ValueError z_abs z_all z_any z_bool z_enumerate z_int z_isinstance z_len z_list z_max z_range z_sorted z_str z_sum z_tuple y_LAST_LINE y_LONGEST_NAME y_MOST_BOOKS y_MOST_BOOK_CHAPTERS y_MOST_CHAPTERS y_MOST_PAIRS_editions y_MOST_PAIRS_places y_MOST_PARTS y_MOST_VERSES y_MOST_VERSE_PARTS y_SMALL_LETTERS aE iI lI cI kI nI lT mkC kC pgC hdC poC saC w1 w2 w3 w4 w5 w6 w7 haC hnC tkC hmC q1 q2 q3 i_Mlines l_Mlines c_Mlines k_Mlines n_Mlines i_Mpart_of l_Mpart_of c_Mpart_of k_Mpart_of n_Mpart_of i_Mtold l_Mtold c_Mtold k_Mtold n_Mtold aEL iIL lIL cIL kIL nIL mkCL kCL pgCL hdCL poCL saCL u1 u2 u3 u4 u5 i_Lrows l_Lrows c_Lrows k_Lrows n_Lrows ae_PlaceError ae_NoEdition l_EPlaceError c_EPlaceError k_EPlaceError l_ENoEdition c_ENoEdition k_ENoEdition vV atB gaB rdB xb_NoEdition xi_NoEdition mEE nbC
end My
open PySem PySem.W PySem.Calls PyProof.Rows
set_option maxHeartbeats 0 in
theorem PySem.Challenge.cw_bookplaces_k29_forged_rows_holds : PySem.Challenge.rw_bookplaces_k29_forged_rows.Holds := by
  w_on; o_law
  refine HandSHeadRun.head_any (r := OpenLaw.row PySem.Challenge.rw_bookplaces_k29_forged_rows) (q := view (OpenLaw.row PySem.Challenge.rw_bookplaces_k29_forged_rows).prog [86]) (H := My.hkM) (ob := My.obM) (M := 40000) (loose := My.looseM) (d := HandSHeadRun.topDef (OpenLaw.row PySem.Challenge.rw_bookplaces_k29_forged_rows).prog 86) (kwd := []) My.obM_eq
    (by kernel_rfl) (fun s => by kernel_rfl) My.runM (by kernel_rfl) (by kernel_rfl) (by kernel_rfl) (by rfl) (by first | assumption | decide +kernel) (by decide +kernel) ⟨rfl, rfl, rfl, rfl, rfl, by decide +kernel⟩ ?hw ?hc
  case hw => w_witness2
  case hc =>
    refine My.walk_ofGE (l := PySem.Challenge.rw_bookplaces_k29_forged_rows) (n := 63) (k := My.LV) (x := "script") rfl (by decide) (by kernel_rfl) ⟨rfl, by decide, by decide⟩ ?F
    intro w mg fa h Y G hmg0
    obtain ⟨K, KX, c⟩ := Y
    have hmg : mg ("law" : PySem.Str) = some (.ref fa) := by
      have e : (HandSHeadRun.topDef (OpenLaw.row PySem.Challenge.rw_bookplaces_k29_forged_rows).prog 86).name = ("law" : PySem.Str) := by kernel_rfl
      rw [← e]
      exact hmg0
    obtain ⟨fd, hb, hF⟩ := My.lawM (l := PySem.Challenge.rw_bookplaces_k29_forged_rows) (w := w) KX G hmg c
    exact ⟨K, fd, My.sp_law K, KX, hb, fun H a ns hl _ hS => ⟨a, ns, rfl, hS, hl, fun _ => rfl⟩, hF⟩
