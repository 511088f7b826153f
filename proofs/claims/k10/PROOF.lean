import PyProof.Rows.All
import Wide.All
import OpenK.AllK
import Wide.FinOn
import HandS.ForMost
import HandS.Evl
import HandS.Codes
import HandS.IsInst
import HandS.RaiseMore
import HandS.TupAny
import HandS.ExcInit
import HandS.Walk
import KE.KExcIs
import PyProof.ReprRoads
import KE.KRevSl
import HandS.Iter
import HandS.Conv
import HandS.DictComp
import KE.GoesEnumKw
import KE.KTupSum
import HandS.Defaults
import HandS.More
import HandS.MakeKw
import PySem.Challenge.RW_bookplaces_k10_whole_each_part_once
set_option Elab.async false
set_option linter.all false
set_option maxRecDepth 100000
/-! B0: what all of these proofs share. -/
namespace My
open PySem PySem.Spec PyProof.Rows L2
/-! ### defs called by their names -/
def Df (K : PySem.W.Frag) (mg : Str → Option Value) (x : Str) (st : Stmt) (ps : List Str) : Prop := ∃ f fd, Fun K x x st f fd ∧ mg x = some (.ref f) ∧ Binds K fd ps []
def Cl (P : Program) (w : World) (K : PySem.W.Frag) (mg : Str → Option Value) (base : Heap) (k : Nat) (x : Str) (ps : List Str) (sp : Sp) : Prop := ∃ f fd, FnOk P w K mg base CX0 k f fd ps sp ∧ mg x = some (.ref f) ∧ PySem.W.keepIn K (.ref f) = true ∧ Binds K fd ps []
section
variable {P : Program} {w : World} {K : PySem.W.Frag} {mg : Str → Option Value} {base : Heap}
theorem ok_of {x : Str} {st : Stmt} {N ps : List Str} {k : Nat} {sp : Sp} (D : Df K mg x st ps) (S : FnScope N ps (defScope st)) (len : ∀ vs H Q E, sp vs H Q E → vs.length = ps.length)
    (hbody : ∀ (f : Addr) (cdv : Value) (A : Around) (outer : List Env) (s : Shared) (H : Hp) (vs : List V) (Q : VK) (E : XK), Room k (A.deeper (envOfC x (defScope st) s.heap.objs.size f cdv)) → sp vs H Q E →
      ∃ t, PSs (cxOf CX0 P w K mg base N x (defScope st) f cdv A outer s H E).nox (defBody st) t ∧ t { nx := fun _ H' => Q .non H', rt := Q } (start N vs) H) : Cl P w K mg base (k + 1) x ps sp := by
  obtain ⟨f, fd, F, hm, b⟩ := D
  exact ⟨f, fd, F.ok S len (hbody f), hm, F.kp, b⟩
end
section
variable {X : Cx}
theorem pe_cl {k j : Nat} {x : Str} {ps : List Str} {sp : Sp} {e : Expr} {es : List Expr} {t : TA} {p pos : Pos} (c : Cl X.prog X.w X.K X.mg X.base k x ps sp) (hr : Room j X.A) (hk : k ≤ j) (hg : Gl X x) (ha : PA X (e :: es) t)
    (hdb : (x == ("__debug__" : Str)) = false := by decide) (he : starEach (e :: es) X.env = (false, eval e X.env) :: starEach es X.env := by rfl) (hpl : (backTo pos (starEach es X.env)).any (·.1) = false := by rfl) :
    PE X (.Call (.Name x p) (e :: es) [] pos) (tCall sp [] E0 t) := by
  obtain ⟨f, fd, F, hm, kp, b⟩ := c
  exact pe_call F (hr.mono hk) hg hm kp b .nil pass0 ha hdb he hpl
theorem call_repr_bool : CallR X (.builtin "repr") (fun xs H Q => ∃ b, xs = [.bl b] ∧ Q (.str (if b then "True" else "False")) H) := by
  intro pins s σ H xs us Q I r h
  obtain ⟨i, rfl, q⟩ := h
  obtain ⟨u, rfl, rfl⟩ := vals1 r
  exact PySem.P.repr_of_bool ⟨.str _, H, I.tok _, ⟨_, rfl⟩, q⟩
end
theorem repr_ne (a b : Bool) : (!decide ((V.str (if a then "True" else "False")) = V.str (if b then "True" else "False"))) = (a != b) := by
  cases a <;> cases b <;> decide +kernel

/-! ### heaps: all but the thing at p is as it was -/
def Bt (p : Addr) (H H' : Hp) : Prop := ∀ b o, b ≠ p → H b = some o → H' b = some o
theorem Bt.refl {p : Addr} {H : Hp} : Bt p H H := fun _ _ _ h => h
theorem Bt.trans {p : Addr} {H H1 H2 : Hp} (a : Bt p H H1) (b : Bt p H1 H2) : Bt p H H2 := fun c o n h => b c o n (a c o n h)
theorem Bt.same {p : Addr} {H H1 : Hp} (a : Same H H1) : Bt p H H1 := fun c o _ h => a c o h
theorem Bt.upd {p : Addr} {H : Hp} {o : HO} : Bt p H (upd H p o) := fun c o n h => by
  rw [upd_ne n]
  exact h
theorem Bt.new {p q : Addr} {H : Hp} {o : HO} (h : H q = none) : Bt p H (L2.upd H q o) := fun c u _ e => by
  rw [upd_ne (ne_of_none e h)]
  exact e
theorem same_new {H : Hp} {p : Addr} {o : HO} (h : H p = none) : Same H (upd H p o) := fun b x e => by
  rw [upd_ne (ne_of_none e h)]
  exact e

/-! ### the box of which the law draws -/
def bx (i j k : Int) : HO := .lst [.int i, .int j, .int k]
def Box (n : Nat) (H : Hp) (p : Addr) : Prop := ∃ i j k : Int, H p = some (bx i j k) ∧ 0 ≤ i ∧ 0 ≤ j ∧ j < 2147483587 ∧ 0 ≤ k ∧ k ≤ n
theorem Box.mono {n m : Nat} {H : Hp} {p : Addr} (h : Box n H p) (l : n ≤ m) : Box m H p := by
  obtain ⟨i, j, k, e, a, b, c, d, f⟩ := h
  exact ⟨i, j, k, e, a, b, c, d, by omega⟩
theorem Box.same {n : Nat} {H H' : Hp} {p : Addr} (h : Box n H p) (l : Same H H') : Box n H' p := by
  obtain ⟨i, j, k, e, a, b, c, d, f⟩ := h
  exact ⟨i, j, k, l _ _ e, a, b, c, d, f⟩
theorem Box.ne {n : Nat} {H : Hp} {p q : Addr} (h : Box n H p) (l : H q = none) : p ≠ q := by
  obtain ⟨i, j, k, e, _⟩ := h
  exact ne_of_none e l
/-- what a def that draws leaves: the box, some draws further on, and all else as it was -/
structure Dr (p : Addr) (n : Nat) (H H' : Hp) : Prop where
  box : Box n H' p
  bt : Bt p H H'
theorem nat_small {z : Int} {m : Nat} (h0 : 0 ≤ z) (h1 : z < m) : z.natAbs < m := by omega

def sp_cell (K : PySem.W.Frag) : Sp := fun vs H Q _ => ∃ (a : Addr) (ns : List Int) (k : Int), vs = [.ref a, .int k] ∧ SqL K H a (ns.map V.int) ∧ 0 ≤ k ∧ ∀ z, Q (.int z) H
def sp_box : Sp := fun vs H Q _ => ∃ c : Int, vs = [.int c] ∧ ∀ p H', H p = none → Same H H' → Box 0 H' p → Q (.ref p) H'
def sp_take : Sp := fun vs H Q _ => ∃ (p : Addr) (n : Nat) (m : Int), vs = [.ref p, .int m] ∧ Box n H p ∧ n ≤ 1000000 ∧ 0 < m ∧ m < 1073741824 ∧ ∀ d H', 0 ≤ d → d < m → Dr p (n + 1) H H' → Q (.int d) H'
end My
namespace My
open PySem PySem.Spec PyProof.Rows L2
theorem ix_some {α : Type} (xs : List α) {i : Int} (h0 : 0 ≤ i) (h1 : i < xs.length) : ∃ v, atI xs i = some v ∧ v ∈ xs := by
  have hj : i.toNat < xs.length := by omega
  refine ⟨xs[i.toNat], ?_, List.getElem_mem hj⟩
  have e : xs[i.toNat]? = some xs[i.toNat] := List.getElem?_eq_getElem hj
  have := atI_nat e
  rwa [Int.toNat_of_nonneg h0] at this
theorem Dr.refl {p : Addr} {n : Nat} {H : Hp} (h : Box n H p) : Dr p n H H := ⟨h, Bt.refl⟩
theorem Dr.trans {p : Addr} {n m : Nat} {H H1 H2 : Hp} (a : Dr p n H H1) (b : Dr p m H1 H2) : Dr p m H H2 := ⟨b.box, a.bt.trans b.bt⟩
theorem Dr.new {p q : Addr} {n : Nat} {H H1 : Hp} {o : HO} (a : Dr p n H H1) (h : H1 q = none) : Dr p n H (upd H1 q o) := ⟨a.box.same (same_new h), a.bt.trans (Bt.new h)⟩
theorem Dr.mono {p : Addr} {n m : Nat} {H H1 : Hp} (a : Dr p n H H1) (l : n ≤ m) : Dr p m H H1 := ⟨a.box.mono l, a.bt⟩
theorem joinL1 : ∀ cs : List Nat, TL.joinL [] (cs.map fun c => [c]) = cs
  | [] => rfl
  | [c] => rfl
  | c :: d :: r => by
    have e := joinL1 (d :: r)
    show c :: ([] ++ TL.joinL [] ((d :: r).map fun c => [c])) = c :: d :: r
    rw [List.nil_append, e]
theorem join_signs (cs : List Nat) : Txt.join ("" : Str) (cs.map fun c => (⟨#[c]⟩ : Str)) = SX.S cs := by
  have e := SX.join_S [] (cs.map fun c => [c])
  rw [joinL1, List.map_map] at e
  exact e
theorem lens1 : ∀ cs : List Nat, ((cs.map fun c => (⟨#[c]⟩ : Str)).map (·.length)).sum = cs.length
  | [] => rfl
  | c :: r => by
    have e := lens1 r
    rw [List.map_cons, List.map_cons, List.sum_cons, e, List.length_cons]
    show 1 + r.length = r.length + 1
    omega
end My
set_option Elab.async false
set_option linter.all false
set_option maxRecDepth 100000
set_option maxHeartbeats 4000000
/-! B1: an own exception as a value: made by its own __init__, its base's __init__ called by the class's name, isinstance of it. -/
namespace My
open PySem PySem.Spec PyProof.Rows L2
theorem S_le {l : List Nat} (h : l.length ≤ 1000) : (SX.S l).length ≤ sizeLine := by
  rw [SX.S_len]
  exact Nat.le_trans h (by decide)
theorem sign_ok {c : Nat} (h : c < 128) : PyData.strOk (⟨#[c]⟩ : Str) = true := by
  simp [PyData.strOk]
  omega
theorem lay_signs : ∀ cs : List Nat, (∀ c ∈ cs, c < 128) → PyData.canLayAll0 (cs.map fun c => PyData.str ⟨#[c]⟩) = true
  | [], _ => rfl
  | c :: r, h => by
    show (PyData.strOk (⟨#[c]⟩ : Str) && PyData.canLayAll0 (r.map fun c => PyData.str ⟨#[c]⟩)) = true
    rw [sign_ok (h c (List.mem_cons_self ..)), lay_signs r fun d hd => h d (List.mem_cons_of_mem _ hd)]
    rfl
theorem dep_signs : ∀ cs : List Nat, PyData.depthAll (cs.map fun c => PyData.str ⟨#[c]⟩) = 0
  | [] => rfl
  | c :: r => by
    show max 0 (PyData.depthAll (r.map fun c => PyData.str ⟨#[c]⟩)) = 0
    rw [dep_signs r]
    rfl
theorem shaped_signs {cs : List Nat} (h : ∀ c ∈ cs, c < 128) : SeqAt.shaped (.list (cs.map fun c => PyData.str ⟨#[c]⟩)) = true := by
  unfold SeqAt.shaped
  rw [Bool.and_eq_true]
  refine ⟨lay_signs cs h, decide_eq_true ?_⟩
  show PyData.depthAll _ + 1 ≤ 64
  rw [dep_signs]
  decide
theorem dpall_signs {K : PySem.W.Frag} {H : Hp} : ∀ cs : List Nat, DpAll K H (cs.map fun c => V.str ⟨#[c]⟩) (cs.map fun c => PyData.str ⟨#[c]⟩)
  | [] => .nil
  | c :: r => .cons (.str _) (dpall_signs r)
theorem eqv_nil (ds : List PyData) : PyData.eqv (.list ds) (.list []) = ds.isEmpty := by
  cases ds with
  | nil => rfl
  | cons a r => rfl
/-- C(e, ..) as a value, C's own __init__ keeping sp -/
def tMkV (C : Addr) (sp : Sp) (ta : TA) : TE := fun σ H Q => ta σ H fun vs H1 => vs.length ≤ 1000 ∧ ∀ a, H1 a = none → sp (.ref a :: vs) (upd H1 a (exo a C none)) (fun v H2 => v = .non ∧ Q (.ref a) H2) E0
section
variable {X : Cx} {e : Expr} {es : List Expr} {ta : TA} {p p1 p2 pos : Pos}
theorem pe_oexv {x : Str} {C fI : Addr} {k : Nat} {fd : FuncData} {ps : List Str} {sp : Sp} (T : OexC X.K C) (iC : PySem.W.findIn X.K (.ref C) "__init__" = some (some (.ref fI))) (tI : PySem.W.typeIn X.K (.ref fI) = some (.type "function"))
    (F1 : FnOk X.prog X.w X.K X.mg X.base CX0 k fI fd ps sp) (hr : Room (k + 1) X.A) (hb : Binds X.K fd ps []) (hg : Gl X x) (hm : X.mg x = some (.ref C)) (ha : PA X (e :: es) ta)
    (hdb : (x == ("__debug__" : Str)) = false := by decide) (he : starEach (e :: es) X.env = (false, eval e X.env) :: starEach es X.env := by rfl) (hpl : (backTo pos (starEach es X.env)).any (·.1) = false := by rfl) :
    PE X (.Call (.Name x p) (e :: es) [] pos) (tMkV C sp ta) := by
  refine ⟨fun pins s σ H Q I h => ?_⟩
  obtain ⟨nm, q, N, bs, bm, sn, sub, ab, col, dd, k0, k1, k2, k3, k5, hC, hbm⟩ := T.cls
  refine wpAny_Call_Name_kw (ld_glob I hg hm ?_ hdb)
  refine PySem.W.callWith_K (h₀ := X.base) I.ok.mod.kin T.kC (thn (ha.run pos pins s σ H _ I h) fun us s1 ⟨vs, H1, I1, r1, hz, q1⟩ => ⟨I1.kIn, ?_⟩) he hpl
  show wpAny _ _ (call (.ref C) us) _ _ _
  obtain ⟨hp, g, dr, tk, os⟩ := s1
  have hsz : hp.objs.size ≤ hp.objs.size + 1 := Nat.le_succ _
  have hn : H1 (hp.objs.size + 1) = none := I1.hok.fresh hsz
  have hq := q1 (hp.objs.size + 1) hn
  have kk : ∀ b o, hp.get? b = some o → ((hp.push (PySem.W.kdv_tup us)).push (PySem.HandSPX.excO C hp.objs.size)).get? b = some o := fun b o e => Heap.get?_push_of_some _ (Heap.get?_push_of_some _ e)
  have hget : ((hp.push (PySem.W.kdv_tup us)).push (PySem.HandSPX.excO C hp.objs.size)).get? (hp.objs.size + 1) = some (PySem.HandSPX.excO C hp.objs.size) := by heap_get
  have I2 : Inv X pins σ (upd H1 (hp.objs.size + 1) (exo (hp.objs.size + 1) C none)) ⟨(hp.push (PySem.W.kdv_tup us)).push (PySem.HandSPX.excO C hp.objs.size), g, dr, tk, os⟩ :=
    I1.laid (t' := tk) (a := hp.objs.size + 1) (o := exo (hp.objs.size + 1) C none) (h' := (hp.push (PySem.W.kdv_tup us)).push (PySem.HandSPX.excO C hp.objs.size)) kk hsz (exo_ok hget)
  have r2 : Vals (V.ref (hp.objs.size + 1) :: vs) (Value.ref (hp.objs.size + 1) :: us) := .cons rfl r1
  have hl : (Value.ref (hp.objs.size + 1) :: us ++ []).length = ps.length := by
    rw [List.append_nil]
    have e := r2.length
    rw [F1.len _ _ _ _ hq] at e
    exact e.symm
  have hus : us.length ≤ sizeLine := by
    rw [← Paired.length r1, sizeLine_eq]
    omega
  have hbb := hb ⟨(hp.push (PySem.W.kdv_tup us)).push (PySem.HandSPX.excO C hp.objs.size), g, dr, tk, os⟩ (Value.ref (hp.objs.size + 1) :: us) I2.kIn hl
  rw [List.append_nil] at hbb
  refine wpAny_call (PySem.HandSPX.call_own F.excBase_ValueError (fun Y => PySem.HandSPX.refsVE_contains Y bm hbm) (I1.kIn _ _ hC) (PySem.W.looks_findIn I1.kIn iC) (fun self => PySem.W.bind_fn I1.kIn self tI) hus
    (codeAny_mono (F1.run _ X.stack _ _ ⟨Value.ref (hp.objs.size + 1) :: us, []⟩ (Value.ref (hp.objs.size + 1) :: us) _ _ (fun _ _ _ => False) (hr.make C us []) (I2.env0.make C us []) hbb r2 hq) fun r s' hq' => ?_))
  cases r with
  | error er => exact pass0 pins σ _ _ er s' I2 hq'
  | ok fl =>
    cases fl with
    | ret u =>
      obtain ⟨v, H2, os2, bare2, un2, hok2, rv, ev, q2⟩ := hq'
      subst ev
      exact ⟨rv, .ref (hp.objs.size + 1), H2, I2.call' (ch := []) os2 un2 hok2 bare2 (fun b z => absurd z (by simp)), rfl, q2⟩
    | next => exact False.elim hq'
    | brk => exact False.elim hq'
    | cont => exact False.elim hq'
/-- what the written part says of reading a def off the class at C -/
structure CDef (K : PySem.W.Frag) (C : Addr) (m : Str) (f : Addr) : Prop where
  ga : PySem.W.specialIn K (.ref C) "__getattribute__" = some (some (.builtin "type.__getattribute__"))
  rd : PySem.W.readsIn K C (.type "type") = true
  at_ : PySem.W.findCls K (.ref C) (.type "type") m = some (.val (.ref f))
/-- C.m(self, ..) -/
theorem pe_cinit {pl : Sem Bool} {x m : Str} {C f : Addr} {k : Nat} {fd : FuncData} {ps : List Str} {sp : Sp} (c : CDef X.K C m f) (F : FnOk X.prog X.w X.K X.mg X.base CX0 k f fd ps sp) (hr : Room k X.A) (hg : Gl X x) (hm : X.mg x = some (.ref C)) (hk : PySem.W.keepIn X.K (.ref f) = true) (hb : Binds X.K fd ps [])
    (ha : PA X (e :: es) ta) (hdb : (x == ("__debug__" : Str)) = false := by decide)
    (hc : eval (.Call (.Attribute (.Name x p1) m p2) (e :: es) [] pos) X.env = (do
      let ov ← eval (.Name x p1) X.env
      standAt p2.atName
      let (f, first) ← holding [ov] (getMethod ov m pl)
      callWith pos f first (backTo pos (starEach (e :: es) X.env)) (backToKw pos (keywordEach [] X.env))) := by rfl)
    (he : starEach (e :: es) X.env = (false, eval e X.env) :: starEach es X.env := by rfl) (hpl : (backTo pos (starEach es X.env)).any (·.1) = false := by rfl) :
    PE X (.Call (.Attribute (.Name x p1) m p2) (e :: es) [] pos) (tCall sp [] E0 ta) := by
  refine ⟨fun pins s σ H Q I h => ?_⟩
  refine PySem.W.methodCall_KW (ld_glob I hg hm ?_ hdb) hc
  refine PySem.W.method_cls I.kIn c.ga (PySem.W.cls_value I.kIn c.rd c.at_ rfl ?_)
  show wpAny _ _ (callWith pos (Value.ref f) [] (backTo pos (starEach (e :: es) X.env)) []) _ _ _
  refine PySem.W.callWith_K (h₀ := X.base) I.ok.mod.kin hk (thn (ha.run pos pins _ σ H _ (I.tok _) h) fun us s1 ⟨vs, H1, I1, r, q⟩ => ⟨I1.kIn, ?_⟩) he hpl
  exact run_fn F hr hb .nil pass0 I1 r q
end
/-- a made exception of the class at C, its fields (the newest first) -/
def Exn (H : Hp) (a C : Addr) (fs : List (Str × V)) : Prop := ∃ dx, H a = some (exo a C (some dx)) ∧ H dx = some (exd dx fs)
theorem Exn.same {H H' : Hp} {a C : Addr} {fs : List (Str × V)} (h : Exn H a C fs) (s : Same H H') : Exn H' a C fs := by
  obtain ⟨dx, h1, h2⟩ := h
  exact ⟨dx, s _ _ h1, s _ _ h2⟩
/-- what isinstance asks of its class -/
structure ExI (K : PySem.W.Frag) (C : Addr) : Prop where
  cl : (PySem.W.clsIn K C).isSome = true
  ga : PySem.W.findIn K (.ref C) "__getattribute__" = some (some (.builtin "BaseException.__getattribute__"))
  gt : PySem.W.findIn K (.ref C) "__getattr__" = some none
  sub : PySem.W.subIn K (.ref C) (.type "BaseException") = some true
  ca : PySem.W.findIn K (.ref C) "__class__" = some (some (.builtin "object.__class__"))
  hn : PySem.W.specialIn K (.builtin "object.__class__") "__get__" = some (some (.builtin "getset_descriptor.__get__"))
  tk : PySem.W.takesIn K (.builtin "object.__class__") = some true
  hm : PySem.W.mroIn K C (.type "object") = some true
section
variable {X : Cx} {pins : List (Addr × Obj)} {σ : L2.St} {H : Hp} {s : Shared}
theorem exn_inst {a C : Addr} {fs : List (Str × V)} (I : Inv X pins σ H s) (h : Exn H a C fs) : ∃ ox oD, PySem.W.InstAt s.heap a ox C (some oD) := by
  obtain ⟨dx, h1, h2⟩ := h
  obtain ⟨t1, ho⟩ := exo_at I.hok h1
  obtain ⟨mA, hns, rel⟩ := exd_at I.hok h2
  obtain ⟨oD, _, _, hoD, _, _⟩ := hns.count (within_of rel)
  exact ⟨_, oD, ho, rfl, rfl, hoD⟩
/-- isinstance(x, c): x a made exception -/
theorem call_isx : CallR X (.builtin "isinstance") (fun xs H Q => ∃ (a C : Addr) (fs : List (Str × V)) (c : V) (u : Value) (b : Bool), xs = [.ref a, c] ∧ Exn H a C fs ∧ ExI X.K C ∧ ClsV c u ∧ PySem.W.kitOne X.K (.ref C) u = some b ∧ Q (.bl b) H) := by
  intro pins s σ H xs us Q I r h
  obtain ⟨a, C, fs, c, u, b, rfl, hx, D, k, e, q⟩ := h
  obtain ⟨u1, u2, rfl, r1, r2⟩ := vals2 r
  have e2 := k.eq r2
  subst e2
  cases (show u1 = Value.ref a from r1)
  obtain ⟨ox, oD, hI⟩ := exn_inst I hx
  exact PySem.W.kia_one (PySem.W.kitx_exc (x := a) (ox := ox) (od := some oD) D.cl D.ga D.gt D.sub D.ca D.hn D.tk D.hm) I.kIn hI e (fun z => nomatch z) fun tk => ⟨.bl b, H, I.tok tk, rfl, q⟩
/-- both -/
theorem call_isb : CallR X (.builtin "isinstance") (fun xs H Q => rIsi X.K xs H Q ∨ ∃ (a C : Addr) (fs : List (Str × V)) (c : V) (u : Value) (b : Bool), xs = [.ref a, c] ∧ Exn H a C fs ∧ ExI X.K C ∧ ClsV c u ∧ PySem.W.kitOne X.K (.ref C) u = some b ∧ Q (.bl b) H) := CallR.or call_isi call_isx
end
end My
set_option Elab.async false
set_option linter.all false
set_option maxRecDepth 100000
set_option maxHeartbeats 4000000
/-! B2: promises of defs that are called while nothing is being shown (no repr on the way), repr of data; data that stand apart from one object. -/
namespace My
open PySem PySem.Spec PyProof.Rows L2
/-! ### promises where nothing is being shown -/
structure FnG (P : Program) (w : World) (K : PySem.W.Frag) (mg : Str → Option Value) (base : Heap) (k : Nat) (f : Addr) (fd : FuncData) (ps : List Str) (sp : Sp) : Prop where
  len : ∀ vs H Q E, sp vs H Q E → vs.length = ps.length
  go : ∀ (A : Around) (out : List Env) (s : Shared) (H : Hp) (ar : Args) (us : List Value) (vs : List V) (Q : VK) (E : XK), Room k A → A.guards = some [] → Env0 P w K mg base A out s H → BindsTo s fd ar (ps.zip us) → Vals vs us → sp vs H Q E →
    codeAny (model P w) A (.call (.ref f) ar) (CR CX0 out P w H s Q E) s
section
variable {P : Program} {w : World} {K : PySem.W.Frag} {mg : Str → Option Value} {base : Heap}
theorem fnG_of {k : Nat} {f : Addr} {nm ql : Str} {pa : Arguments} {bd : List Stmt} {sc : Scope} {dV kV doc pm cdv ct oc : Value} {an od : Option Addr} {osl : Array (Option Value)} {N ps : List Str} {sp : Sp}
    (look : K.lookup f = some ⟨oc, od, .func (PySem.W.fnOf nm ql pa bd sc dV kV doc pm an cdv ct), osl⟩) (code : PySem.W.codeIn K cdv ql = true) (S : FnScope N ps sc) (len : ∀ vs H Q E, sp vs H Q E → vs.length = ps.length)
    (body : ∀ (A : Around) (out : List Env) (s : Shared) (H : Hp) (vs : List V) (Q : VK) (E : XK), Room k (A.deeper (envOfC ql sc s.heap.objs.size f cdv)) → A.guards = some [] → sp vs H Q E →
      ∃ t, PSs (cxOf CX0 P w K mg base N ql sc f cdv A out s H E) bd t ∧ t { nx := fun _ H' => Q .non H', rt := Q } (start N vs) H) :
    FnG P w K mg base (k + 1) f (PySem.W.fnOf nm ql pa bd sc dV kV doc pm an cdv ct) ps sp := by
  refine ⟨len, fun A out s H ar us vs Q E hr hg env0 hb rel hsp => ?_⟩
  have llen := len _ _ _ _ hsp
  have KS : K.In s.heap := env0.mod.kin.keeps fun b o e => (env0.bs b o e).1
  have kinds : ∀ y ∈ ps.zip us, sc.names.lookup y.1 = some .local ∨ (sc.names.lookup y.1 = some .cell ∧ ((cellsFrom (s.heap.objs.size + 1) sc.names []).lookup y.1).isSome = true) := by
    intro ⟨n, v⟩ hy
    exact (S.par n (List.of_mem_zip hy).1).elim (fun q => .inl q) fun q => .inr ⟨q, PySem.W.cellsFrom_some _ _ _ (.inl q)⟩
  refine codeAny_call_function hr.depth (KS _ _ look) rfl S.co S.gen rfl (PySem.W.codeRec_of KS code) (hb _ _ _ _ ?_)
  refine wpAny_newFunctionEnv_cells S.kind kinds fun ev he s1 z => ?_
  subst he
  refine ⟨(env0.mod.nolimit.keeps fun b o e => (env0.bs b o e).1).keeps z.toInCall.keep, codeAny_func ?_⟩
  obtain ⟨t, ht, hq⟩ := body A out s H vs Q E (hr.deeper _) hg hsp
  have I0 := inv_start (CX := CX0) (E := E) S hr.hd env0 llen rel z
  refine wpAny_mono (ht.run [] s1 (start N vs) H _ I0 hq) (fun fl s' hs => ?_) fun e s' hs => hs
  cases fl with
  | ret u => exact let ⟨v, σ', H', J, rv, q⟩ := hs; ⟨v, H', J.os, J.bare, J.base, J.hok, rv, q⟩
  | next => exact let ⟨σ', H', J, q⟩ := hs; ⟨V.non, H', J.os, J.bare, J.base, J.hok, rfl, q⟩
  | brk => exact let ⟨_, _, _, q⟩ := hs; False.elim q
  | cont => exact let ⟨_, _, _, q⟩ := hs; False.elim q
def ClG (P : Program) (w : World) (K : PySem.W.Frag) (mg : Str → Option Value) (base : Heap) (k : Nat) (x : Str) (ps : List Str) (sp : Sp) : Prop := ∃ f fd, FnG P w K mg base k f fd ps sp ∧ mg x = some (.ref f) ∧ PySem.W.keepIn K (.ref f) = true ∧ Binds K fd ps []
theorem fun_okG {x ql : Str} {st : Stmt} {f : Addr} {fd : FuncData} {N ps : List Str} {k : Nat} {sp : Sp} (F : Fun K x ql st f fd) (S : FnScope N ps (defScope st)) (len : ∀ vs H Q E, sp vs H Q E → vs.length = ps.length)
    (body : ∀ (cdv : Value) (A : Around) (out : List Env) (s : Shared) (H : Hp) (vs : List V) (Q : VK) (E : XK), Room k (A.deeper (envOfC ql (defScope st) s.heap.objs.size f cdv)) → A.guards = some [] → sp vs H Q E →
      ∃ t, PSs (cxOf CX0 P w K mg base N ql (defScope st) f cdv A out s H E).nox (defBody st) t ∧ t { nx := fun _ H' => Q .non H', rt := Q } (start N vs) H) : FnG P w K mg base (k + 1) f fd ps sp := by
  obtain ⟨oc, od, kV, doc, pm, an, cdv, ct, osl, rfl, lk, hcd⟩ := F.ex
  refine fnG_of lk hcd S len fun A out s H vs Q E hr hg hsp => ?_
  obtain ⟨t, h, q⟩ := body cdv A out s H vs Q E hr hg hsp
  exact ⟨t, h.nox, q⟩
theorem okG_of {x : Str} {st : Stmt} {N ps : List Str} {k : Nat} {sp : Sp} (D : Df K mg x st ps) (S : FnScope N ps (defScope st)) (len : ∀ vs H Q E, sp vs H Q E → vs.length = ps.length)
    (body : ∀ (f : Addr) (cdv : Value) (A : Around) (out : List Env) (s : Shared) (H : Hp) (vs : List V) (Q : VK) (E : XK), Room k (A.deeper (envOfC x (defScope st) s.heap.objs.size f cdv)) → A.guards = some [] → sp vs H Q E →
      ∃ t, PSs (cxOf CX0 P w K mg base N x (defScope st) f cdv A out s H E).nox (defBody st) t ∧ t { nx := fun _ H' => Q .non H', rt := Q } (start N vs) H) : ClG P w K mg base (k + 1) x ps sp := by
  obtain ⟨f, fd, F, hm, b⟩ := D
  exact ⟨f, fd, fun_okG F S len (body f), hm, F.kp, b⟩
end
section
variable {X : Cx}
theorem pe_clG {k j : Nat} {x : Str} {ps : List Str} {sp : Sp} {e : Expr} {es : List Expr} {t : TA} {p pos : Pos} (c : ClG X.prog X.w X.K X.mg X.base k x ps sp) (hr : Room j X.A) (gd : X.A.guards = some []) (hk : k ≤ j) (hg : Gl X x) (ha : PA X (e :: es) t)
    (hdb : (x == ("__debug__" : Str)) = false := by decide) (he : starEach (e :: es) X.env = (false, eval e X.env) :: starEach es X.env := by rfl) (hpl : (backTo pos (starEach es X.env)).any (·.1) = false := by rfl) :
    PE X (.Call (.Name x p) (e :: es) [] pos) (tCall sp [] E0 t) := by
  obtain ⟨f, fd, F, hm, kp, b⟩ := c
  refine ⟨fun pins s σ H Q I h => wpAny_Call_Name_kw (ld_glob I hg hm ?_ hdb)⟩
  refine PySem.W.callWith_K (h₀ := X.base) I.ok.mod.kin kp (thn (ha.run pos pins s σ H _ I h) fun us s1 ⟨vs, H1, I1, r, q⟩ => ⟨I1.kIn, ?_⟩) he hpl
  have q : sp (vs ++ []) H1 Q E0 := q
  rw [List.append_nil] at q
  have hl : (us ++ []).length = ps.length := by
    rw [List.append_nil, ← r.length]
    exact F.len _ _ _ _ q
  have hb := b s1 us I1.kIn hl
  rw [List.append_nil] at hb
  refine wpAny_call (codeAny_mono (F.go X.A X.stack s1 H1 ⟨us, []⟩ us vs Q E0 (hr.mono hk) gd I1.env0 hb r q) fun r s' hq => ?_)
  match r, hq with
  | .error e, hq => exact pass0 pins σ H1 s1 e s' I1 hq
  | .ok (.ret u), hq => exact I1.after hq
theorem call_repr_data (gd : X.A.guards = some []) (hu : X.A.units + 80 < cLine) : CallR X (.builtin "repr") (fun xs H Q => ∃ (a : Addr) (d : PyData), xs = [.ref a] ∧ Dp X.K H (.ref a) d ∧ d.showable = true ∧ d.hasDict = false ∧ d.depth ≤ 64 ∧ d.shown.length ≤ sizeLine ∧ Q (.str d.shown) H) := by
  intro pins s σ H xs us Q I r h
  obtain ⟨a, d, rfl, hd, hs, hn, hp, hz, q⟩ := h
  obtain ⟨u, rfl, r1⟩ := vals1 r
  cases (show u = Value.ref a from r1)
  obtain ⟨as, R⟩ := Dp.reads I d (.ref a) (.ref a) hd rfl
  exact repr_of_reads' R hs (fun z => absurd (hn.symm.trans z) (by decide)) gd (by omega) (fun _ _ e => e) (fun h' u tk hk => ⟨.str _, H, I.kept hk, ⟨_, rfl⟩, q⟩) hz
theorem call_repr_none : CallR X (.builtin "repr") (fun xs H Q => xs = [.non] ∧ Q (.str "None") H) := by
  intro pins s σ H xs us Q I r h
  obtain ⟨rfl, q⟩ := h
  obtain ⟨u, rfl, rfl⟩ := vals1 r
  exact PySem.P.repr_of_none ⟨.str _, H, I.tok _, ⟨_, rfl⟩, q⟩
end

/-! ### the law's own call -/
section
variable {P : Program} {w : World} {K : PySem.W.Frag} {mg mb : Str → Option Value} {k : Nat} {fa a : Addr} {fd : FuncData} {x : Str} {sp : Sp} {s₁ : Shared} {vs : List Value} {ns : List Int}
/-- what may be tracked at the law's entry: the script alone -/
structure Ent (K : PySem.W.Frag) (P : Program) (w : World) (s₁ : Shared) (a : Addr) (ns : List Int) (H : Hp) : Prop where
  only : Only H
  sq : SqL K H a (ns.map V.int)
  ok : HOk P w H s₁.heap
  one : ∀ b, H b ≠ none → b = a
  kn : H a ≠ none → K.lookup a = none
theorem lawG_core {H : Hp} (J : Ent K P w s₁ a ns H) (KX : K.In s₁.heap) (hns : s₁.heap.Ns mainGlobals mg) (hb : s₁.heap.Ns builtinsNs mb) (hbb : ∀ x : Str, x ≠ "__name__" → mb x = bootBuiltins x) (hlim : s₁.heap.NoLimit) (hg : s₁.gens = #[])
    (ha : s₁.heap.get? a = some { cls := .type "list", data := .seq vs.toArray }) (hr : Room k callerA) (F : ∀ base : Heap, K.In base → base.Ns mainGlobals mg → FnG P w K mg base k fa fd [x] sp) (bnd : ∀ (s : Shared) (u : Value), BindsTo s fd ⟨[u], []⟩ [(x, u)])
    (hsp : ∀ H : Hp, Only H → SqL K H a (ns.map V.int) → sp [.ref a] H (fun v _ => v = .bl true) fun _ _ _ => False) :
    codeAny (model P w) callerA (.call (.ref fa) ⟨[.ref a], []⟩) (fun r s' => r = .ok (.ret (.bool true)) ∧ OldK s₁.heap s'.heap ∧ s'.os = s₁.os ∧ AllBare s'.gens) s₁ := by
  have at0 : ∀ {b : Addr} {o : Obj}, s₁.heap.get? b = some o → (b = a → H a = none) → (hidT s₁.heap H).get? b = some o := fun {b o} e n => hidT_get e (by
    cases q : H b with
    | none => rfl
    | some u =>
      have eb : b = a := J.one b (by rw [q]; simp)
      rw [eb, n eb] at q
      cases q)
  have dct : ∀ {b : Addr} {o : Obj} {es : Array DictEntry} {ep : Nat}, s₁.heap.get? b = some o → o.data = .dict es ep → b = a → H a = none := fun {b o es ep} e d eb => by
    rw [eb, ha] at e
    cases e
    exact absurd (show Data.seq vs.toArray _ = Data.dict es ep from d) (by intro z; cases z)
  have nsB : ∀ {b : Addr} {m : Str → Option Value}, s₁.heap.Ns b m → (hidT s₁.heap H).Ns b m := fun ⟨o, es, ep, e, d, r⟩ => ⟨o, es, ep, at0 e (dct e d), d, r⟩
  have KB : K.In (hidT s₁.heap H) := fun b o e => at0 (KX b o e) fun eb => by
    cases q : H a with
    | none => rfl
    | some u =>
      have z := J.kn (by rw [q]; simp)
      rw [eb, z] at e
      cases e
  have md : Mod K mg (hidT s₁.heap H) := ⟨KB, nsB hns, ⟨mb, nsB hb, hbb⟩, let ⟨mc, h1, h2⟩ := hlim; ⟨mc, nsB h1, h2⟩⟩
  have en : Env0 P w K mg (hidT s₁.heap H) callerA [] s₁ H := ⟨rfl, md, fun b o e => of_hidT e, Nat.le_of_eq (hidT_size _ _), trivial, (fun b hb => by cases hb), J.ok, .of_eq hg⟩
  refine codeAny_mono ((F _ KB (nsB hns)).go callerA [] s₁ H ⟨[.ref a], []⟩ [.ref a] [.ref a] _ _ hr rfl en (bnd s₁ (.ref a)) (.cons rfl .nil) (hsp H J.only J.sq)) fun r s' h => ?_
  match r, h with
  | .error e, h => exact False.elim h
  | .ok (.ret u), ⟨v, H', os, bare, un, ok2, rv, q⟩ =>
    have q' : v = .bl true := q
    subst q'
    obtain rfl : u = Value.bool true := rv
    refine ⟨rfl, OldK.of_keep fun b o e => ?_, os, bare⟩
    cases q : H b with
    | none => exact un.keep b o e q (by intro z; cases z) (by simp)
    | some u =>
      rcases J.only b with z | ⟨ob, xs, z⟩
      · rw [q] at z
        cases z
      · obtain ⟨e1, _⟩ := J.ok b _ z
        obtain ⟨e2, _⟩ := ok2 b _ (un.frzs b ob _ z)
        rw [e] at e1
        cases e1
        exact e2
theorem lawG_call (KX : K.In s₁.heap) (hns : s₁.heap.Ns mainGlobals mg) (hb : s₁.heap.Ns builtinsNs mb) (hbb : ∀ x : Str, x ≠ "__name__" → mb x = bootBuiltins x) (hlim : s₁.heap.NoLimit) (hg : s₁.gens = #[])
    (ha : s₁.heap.get? a = some { cls := .type "list", data := .seq vs.toArray }) (hi : IntsAre vs ns) (hl : ns.length ≤ sizeLine) (hr : Room k callerA) (F : ∀ base : Heap, K.In base → base.Ns mainGlobals mg → FnG P w K mg base k fa fd [x] sp) (bnd : ∀ (s : Shared) (u : Value), BindsTo s fd ⟨[u], []⟩ [(x, u)])
    (hsp : ∀ H : Hp, Only H → SqL K H a (ns.map V.int) → sp [.ref a] H (fun v _ => v = .bl true) fun _ _ _ => False) :
    codeAny (model P w) callerA (.call (.ref fa) ⟨[.ref a], []⟩) (fun r s' => r = .ok (.ret (.bool true)) ∧ OldK s₁.heap s'.heap ∧ s'.os = s₁.os ∧ AllBare s'.gens) s₁ := by
  have rv := vals_ints hi
  have lv := hi.length
  cases hk : K.lookup a with
  | some o =>
    have e := KX a o hk
    rw [ha] at e
    cases e
    refine lawG_core (H := fun _ => none) ⟨fun _ => .inl rfl, .inr ⟨_, vs.toArray, _, hk, rfl, rfl, rfl, ?_, by simpa using rv⟩, (fun b u z => by cases z), (fun b z => absurd rfl z), (fun z => absurd rfl z)⟩ KX hns hb hbb hlim hg ha hr F bnd hsp
    rw [List.size_toArray, lv]
    exact hl
  | none =>
    refine lawG_core (H := fun b => if b = a then some (.frz { cls := .type "list", data := .seq vs.toArray } (.lst (ns.map V.int))) else none) ⟨fun b => ?_, .inl (.inr ⟨{ cls := .type "list", data := .seq vs.toArray }, if_pos rfl⟩), fun b u z => ?_, fun b z => ?_, fun _ => hk⟩ KX hns hb hbb hlim hg ha hr F bnd hsp
    · by_cases eb : b = a
      · exact .inr ⟨_, _, if_pos eb⟩
      · exact .inl (if_neg eb)
    · by_cases eb : b = a
      · have y := (if_pos eb).symm.trans z
        cases y
        subst eb
        exact ⟨ha, (by rw [List.length_map]; exact hl), vs, _, rv, ha⟩
      · have y := (if_neg eb).symm.trans z
        cases y
    · by_cases eb : b = a
      · exact eb
      · exact absurd (if_neg eb) z
end
theorem walk_ofG {l : PySem.W.OpenLaw} {n k : Nat} {q : Program} {loose : List Str} {XP : (Str → Option Value) → Heap → Prop} {YP : World → Heap → Prop} {d : DefRec} {K : Params → PySem.W.Frag} {sp : World → Sp} {x : Str}
    (hn : l.most = some n) (hn2 : n ≤ sizeLine) (hdf : d.params.defaults = []) (hr : Room k callerA) (hY : ∀ (w : World) (h : Heap), YP w h → (K w.params).In h)
    (F : ∀ (w : World) (mg : Str → Option Value) (fa : Addr) (h : Heap), (K w.params).In h → h.Ns mainGlobals mg → mg d.name = some (.ref fa) →
      ∃ fd : FuncData, (∀ (s : Shared) (u : Value), BindsTo s fd ⟨[u], []⟩ [(x, u)]) ∧ ∀ base : Heap, (K w.params).In base → base.Ns mainGlobals mg → FnG l.prog w (K w.params) mg base k fa fd [x] (sp w))
    (hsp : ∀ (w : World) (H : Hp) (a : Addr) (ns : List Int), ns.length ≤ n → Only H → SqL (K w.params) H a (ns.map V.int) → sp w [.ref a] H (fun v _ => v = .bl true) fun _ _ _ => False) :
    PySem.W.WalkO q loose XP YP l.row.toRowW d [] (fun f vs => PySem.call f vs) := by
  refine Att.attach_call hn hdf fun w s₀ s₁ mg mb fa o pm cd doc a vs ns G Y ho hd hcd hmg hobj hints hlen hg => ?_
  obtain ⟨fd, bnd, hF⟩ := F w mg fa _ (hY w _ Y) G.T.g hmg
  exact lawG_call (hY w _ Y) G.T.g G.T.b G.T.builtins G.T.nolimit hg hobj hints (Nat.le_trans hlen hn2) hr hF bnd fun H hO hS => hsp w H a ns hlen hO hS
end My
set_option Elab.async false
set_option linter.all false
set_option maxRecDepth 100000
set_option maxHeartbeats 4000000
/-! B3: data that stand in the heap apart from one object (the box). -/
namespace My
open PySem PySem.Spec PyProof.Rows L2
/-- the things that may change -/
abbrev Av := Addr → Prop
def BtS (S : Av) (H H' : Hp) : Prop := ∀ b o, ¬ S b → H b = some o → H' b = some o
theorem BtS.refl {S : Av} {H : Hp} : BtS S H H := fun _ _ _ h => h
theorem BtS.trans {S : Av} {H H1 H2 : Hp} (a : BtS S H H1) (b : BtS S H1 H2) : BtS S H H2 := fun c o n h => b c o n (a c o n h)
theorem BtS.mono {S S' : Av} {H H1 : Hp} (a : BtS S H H1) (h : ∀ b, S b → S' b) : BtS S' H H1 := fun c o n k => a c o (fun z => n (h c z)) k
theorem BtS.new {S : Av} {H : Hp} {p : Addr} {o : HO} (h : H p = none) : BtS S H (upd H p o) := fun c u _ e => by
  rw [upd_ne (ne_of_none e h)]
  exact e
theorem BtS.upd {S : Av} {H : Hp} {p : Addr} {o : HO} (h : S p) : BtS S H (upd H p o) := fun c u n e => by
  rw [upd_ne (fun z => n (by rw [z]; exact h))]
  exact e
/-- the box alone -/
abbrev O1 (p : Addr) : Av := fun b => b = p
abbrev O2 (p D : Addr) : Av := fun b => b = p ∨ b = D
theorem Bt.s {p : Addr} {H H' : Hp} (h : Bt p H H') : BtS (O1 p) H H' := h
theorem Bt.s2 {p D : Addr} {H H' : Hp} (h : Bt p H H') : BtS (O2 p D) H H' := fun b o n e => h b o (fun z => n (.inl z)) e
mutual
inductive At (p : Av) (H : Hp) : V → PyData → Prop
  | non : At p H .non .none
  | bl (b : Bool) : At p H (.bl b) (.bool b)
  | int (i : Int) : At p H (.int i) (.int i)
  | str (x : Str) : At p H (.str x) (.str x)
  | lst {a : Addr} {xs : List V} {ds : List PyData} : ¬ p a → H a = some (.lst xs) → AtAll p H xs ds → At p H (.ref a) (.list ds)
  | tup {a : Addr} {xs : List V} {ds : List PyData} : ¬ p a → H a = some (.tup xs) → AtAll p H xs ds → At p H (.ref a) (.tuple ds)
inductive AtAll (p : Av) (H : Hp) : List V → List PyData → Prop
  | nil : AtAll p H [] []
  | cons {v : V} {vs : List V} {d : PyData} {ds : List PyData} : At p H v d → AtAll p H vs ds → AtAll p H (v :: vs) (d :: ds)
end
mutual
theorem At.bt {p : Av} {H H' : Hp} (B : BtS p H H') : ∀ (d : PyData) (v : V), At p H v d → At p H' v d
  | .none, _, h => by cases h; exact .non
  | .bool _, _, h => by cases h; exact .bl _
  | .int _, _, h => by cases h; exact .int _
  | .str _, _, h => by cases h; exact .str _
  | .list ds, _, h => by
    cases h with
    | lst n e k => exact .lst n (B _ _ n e) (AtAll.bt B ds _ k)
  | .tuple ds, _, h => by
    cases h with
    | tup n e k => exact .tup n (B _ _ n e) (AtAll.bt B ds _ k)
  | .dict _, _, h => by cases h
theorem AtAll.bt {p : Av} {H H' : Hp} (B : BtS p H H') : ∀ (ds : List PyData) (vs : List V), AtAll p H vs ds → AtAll p H' vs ds
  | [], _, h => by cases h; exact .nil
  | d :: ds, _, h => by
    cases h with
    | cons h1 h2 => exact .cons (At.bt B d _ h1) (AtAll.bt B ds _ h2)
end
mutual
theorem At.dp {p : Av} {H : Hp} {K : PySem.W.Frag} : ∀ (d : PyData) (v : V), At p H v d → Dp K H v d
  | .none, _, h => by cases h; exact .non
  | .bool _, _, h => by cases h; exact .bl _
  | .int _, _, h => by cases h; exact .int _
  | .str _, _, h => by cases h; exact .str _
  | .list ds, _, h => by
    cases h with
    | lst n e k => exact .lst (.inl (.inl e)) (AtAll.dp ds _ k)
  | .tuple ds, _, h => by
    cases h with
    | tup n e k => exact .tup (.inl (.inl e)) (AtAll.dp ds _ k)
  | .dict _, _, h => by cases h
theorem AtAll.dp {p : Av} {H : Hp} {K : PySem.W.Frag} : ∀ (ds : List PyData) (vs : List V), AtAll p H vs ds → DpAll K H vs ds
  | [], _, h => by cases h; exact .nil
  | d :: ds, _, h => by
    cases h with
    | cons h1 h2 => exact .cons (At.dp d _ h1) (AtAll.dp ds _ h2)
end
theorem AtAll.len {p : Av} {H : Hp} : ∀ {ds : List PyData} {vs : List V}, AtAll p H vs ds → vs.length = ds.length
  | [], _, h => by cases h; rfl
  | d :: ds, _, h => by
    cases h with
    | cons h1 h2 =>
      rw [List.length_cons, List.length_cons, AtAll.len h2]
theorem AtAll.get {p : Av} {H : Hp} : ∀ {ds : List PyData} {vs : List V} {i : Nat} {v : V}, AtAll p H vs ds → vs[i]? = some v → ∃ d, ds[i]? = some d ∧ At p H v d
  | [], _, i, v, h, e => by
    cases h
    simp at e
  | d :: ds, _, i, v, h, e => by
    cases h with
    | cons h1 h2 =>
      cases i with
      | zero =>
        cases (Option.some.inj e)
        exact ⟨d, rfl, h1⟩
      | succ i => exact AtAll.get (i := i) h2 e
theorem AtAll.app {p : Av} {H : Hp} : ∀ {ds es : List PyData} {vs us : List V}, AtAll p H vs ds → AtAll p H us es → AtAll p H (vs ++ us) (ds ++ es)
  | [], _, _, _, h, k => by
    cases h
    exact k
  | d :: ds, _, _, _, h, k => by
    cases h with
    | cons h1 h2 => exact .cons h1 (AtAll.app h2 k)
theorem AtAll.ints {p : Av} {H : Hp} : ∀ ns : List Int, AtAll p H (ns.map V.int) (ns.map PyData.int)
  | [] => .nil
  | n :: r => .cons (.int n) (AtAll.ints r)
theorem AtAll.strs {p : Av} {H : Hp} : ∀ ns : List (List Nat), AtAll p H (ns.map fun l => .str (SX.S l)) (ns.map fun l => .str (SX.S l))
  | [] => .nil
  | n :: r => .cons (.str _) (AtAll.strs r)
theorem AtAll.rep {p : Av} {H : Hp} {v : V} {d : PyData} (h : At p H v d) : ∀ n : Nat, AtAll p H (List.replicate n v) (List.replicate n d)
  | 0 => .nil
  | n + 1 => .cons h (AtAll.rep h n)
mutual
theorem At.weak {p q : Av} {H : Hp} (W : ∀ b, q b → p b) : ∀ (d : PyData) (v : V), At p H v d → At q H v d
  | .none, _, h => by cases h; exact .non
  | .bool _, _, h => by cases h; exact .bl _
  | .int _, _, h => by cases h; exact .int _
  | .str _, _, h => by cases h; exact .str _
  | .list ds, _, h => by
    cases h with
    | lst n e k => exact .lst (fun z => n (W _ z)) e (AtAll.weak W ds _ k)
  | .tuple ds, _, h => by
    cases h with
    | tup n e k => exact .tup (fun z => n (W _ z)) e (AtAll.weak W ds _ k)
  | .dict _, _, h => by cases h
theorem AtAll.weak {p q : Av} {H : Hp} (W : ∀ b, q b → p b) : ∀ (ds : List PyData) (vs : List V), AtAll p H vs ds → AtAll q H vs ds
  | [], _, h => by cases h; exact .nil
  | d :: ds, _, h => by
    cases h with
    | cons h1 h2 => exact .cons (At.weak W d _ h1) (AtAll.weak W ds _ h2)
end
/-- a row of whole numbers -/
def rowD (ns : List Int) : PyData := .list (ns.map .int)
end My
namespace My
open PySem PySem.Spec PyProof.Rows L2
/-- a comprehension that draws: its new list at D holds xs so far -/
structure LcD (p : Addr) (n : Nat) (H : Hp) (D : Addr) (xs : List V) (H' : Hp) : Prop where
  at_ : H' D = some (.lst xs)
  dr : Dr p n H H'
  ne : D ≠ p
  fr : H D = none
theorem LcD.start {p : Addr} {n : Nat} {H : Hp} {D : Addr} (h : Box n H p) (hD : H D = none) : LcD p n H D [] (upd H D (.lst [])) := ⟨upd_same, (Dr.refl h).new hD, (h.ne hD).symm, hD⟩
theorem LcD.keep {p : Addr} {n m : Nat} {H H1 H2 : Hp} {D : Addr} {xs : List V} (l : LcD p n H D xs H1) (d : Dr p m H1 H2) : LcD p m H D xs H2 := ⟨d.bt _ _ l.ne l.at_, l.dr.trans d, l.ne, l.fr⟩
theorem LcD.step {p : Addr} {n : Nat} {H H1 : Hp} {D : Addr} {xs : List V} (l : LcD p n H D xs H1) (y : V) : LcD p n H D (xs ++ [y]) (upd H1 D (.lst (xs ++ [y]))) := by
  refine ⟨upd_same, ⟨?_, fun b o hb ho => ?_⟩, l.ne, l.fr⟩
  · obtain ⟨i, j, k, e, r⟩ := l.dr.box
    exact ⟨i, j, k, by rw [upd_ne l.ne.symm]; exact e, r⟩
  · rw [upd_ne (ne_of_none ho l.fr)]
    exact l.dr.bt b o hb ho
theorem LcD.mono {p : Addr} {n m : Nat} {H H' : Hp} {D : Addr} {xs : List V} (l : LcD p n H D xs H') (h : n ≤ m) : LcD p m H D xs H' := ⟨l.at_, l.dr.mono h, l.ne, l.fr⟩
/-- the heap may have grown ahead of a comprehension -/
theorem LcD.from {p : Addr} {n m : Nat} {H0 H H' : Hp} {D : Addr} {xs : List V} (l : LcD p n H D xs H') (d : Dr p m H0 H) : Dr p n H0 H' := d.trans l.dr
theorem sz1000 {n : Nat} (h : n ≤ 1000) : n < sizeLine := Nat.lt_of_le_of_lt h (by decide)
/-- an item of a written list of whole numbers -/
theorem ix_int {ns : List Int} {i : Int} (h0 : 0 ≤ i) (h1 : i < ns.length) : ∃ z, atI (ns.map V.int) i = some (.int z) ∧ z ∈ ns := by
  obtain ⟨v, hv, hm⟩ := ix_some (ns.map V.int) h0 (by rw [List.length_map]; exact h1)
  obtain ⟨z, hz, rfl⟩ := List.mem_map.mp hm
  exact ⟨z, hv, hz⟩
section
variable {X : Cx}
/-- xs[::e], e one or less one -/
def tStepL (K : PySem.W.Frag) (te : TE) (ts : TO) : TE := fun σ H Q => te σ H fun x H1 => ts σ H1 fun o H2 => ∃ (a : Addr) (xs : List V) (z : Int), o = some z ∧ x = .ref a ∧ SqL K H2 a xs ∧ (z = 1 ∨ z = -1) ∧ ∀ p, H2 p = none → Q (.ref p) (upd H2 p (.lst (if z = 1 then xs else xs.reverse)))
theorem pick_one (its : Array Value) : slicePick its none none (some 1) = slicePick its none none none := rfl
theorem pe_stepL {e st : Expr} {te : TE} {ts : TO} {p2 pos : Pos} (he : PE X e te) (hs : PO X (some st) ts) : PE X (.Subscript e (.Slice none none (some st) p2) pos) (tStepL X.K te ts) := by
  refine ⟨fun pins s σ H Q I h => ?_⟩
  refine Subscript_ (thn (he.run pins s σ H _ I h) fun v s1 ⟨x, H1, I1, r1, q1⟩ => ?_)
  refine wpAny_Slice (thn (po_none.run pins s1 σ H1 (fun o H2 => o = none ∧ H2 = H1) I1 ⟨rfl, rfl⟩) fun vl s2 ⟨lo, H2, I2, pl, elo, e2⟩ => ?_)
  subst elo e2
  refine thn (po_none.run pins s2 σ H2 (fun o H3 => o = none ∧ H3 = H2) I2 ⟨rfl, rfl⟩) fun vu s3 ⟨hi, H3, I3, pu, ehi, e3⟩ => ?_
  subst ehi e3
  refine thn (hs.run pins s3 σ H3 _ I3 q1) fun vs s4 ⟨o, H4, I4, ps, a, xs, z, eo, ex, hx, hz, q⟩ => ?_
  subst eo ex
  cases r1
  have J : Inv X pins σ H4 { s4 with heap := s4.heap.push { cls := .type "slice", data := .fields #[vl, vu, vs] } } := I4.kept (t' := s4.toks) fun b ob k => Heap.get?_push_of_some _ k
  obtain ⟨its, r, ht, sz⟩ := J.list hx
  have hlen := r.length
  show wpAny (model X.prog X.w) X.A (subscriptTail e (.Slice none none (some st) p2) (.ref a) (.ref s4.heap.objs.size)) (EP X pins σ Q) X.xe { s4 with heap := s4.heap.push { cls := .type "slice", data := .fields #[vl, vu, vs] } }
  refine tail_any (ops := [.ref a, .ref s4.heap.objs.size]) ht.isList.typeIs (PySem.slot_list_getitem.lookup) ?_ (by with_unfolding_all rfl)
  refine wpAny_getItem_list_slice ht.isList (Heap.IsSliceOf.new _ vl vu vs) pl pu ps (by rcases hz with rfl | rfl <;> decide) ?_ (by rw [List.size_toArray]; omega)
  have fin : ∀ (ys : List V) (us : List Value), Vals ys us → ys.length = xs.length → (if z = 1 then xs else xs.reverse) = ys → slicePick its.toArray none none (some z) = us.toArray → EP X pins σ Q (.ref (s4.heap.push { cls := .type "slice", data := .fields #[vl, vu, vs] }).objs.size)
      { s4 with heap := (s4.heap.push { cls := .type "slice", data := .fields #[vl, vu, vs] }).push { cls := .type "list", data := .seq (slicePick its.toArray none none (some z)) } } := fun ys us rv el ey es => by
    rw [ey] at q
    rw [es]
    refine ⟨.ref _, _, J.laid (t' := s4.toks) (o := .lst ys) (fun b ob k => Heap.get?_push_of_some _ k) (Nat.le_refl _) ?_, rfl, q _ (J.hok.fresh (Nat.le_refl _))⟩
    exact ⟨by rw [el]; exact sz, _, 0, rv, Heap.get?_push_size _ rfl⟩
  rcases hz with rfl | rfl
  · refine fin xs its r rfl (if_pos rfl) ?_
    rw [pick_one, slicePick_cut]
    show ((its.drop (HT.sIx its.length 0 none)).take (HT.sIx its.length its.length none - HT.sIx its.length 0 none)).toArray = its.toArray
    rw [HT.sIx_none, HT.sIx_none, List.drop_zero, Nat.sub_zero, List.take_length]
  · refine fin xs.reverse its.reverse r.reverse (List.length_reverse ..) (if_neg (by decide)) ?_
    rw [PySem.W.krv_pick]
end
end My
namespace My
open PySem PySem.Spec PyProof.Rows L2
/-! ### rules whose reading names the written part: in a comprehension's block it is the def's -/
section
variable {X : Cx} {K : PySem.W.Frag}
theorem ix_listK (h : X.K = K) : IxR X (rIxL K) := h ▸ ix_list
theorem ix_tupK (h : X.K = K) : IxR X (rIxT K) := h ▸ ix_tup
theorem op_in_seqK (h : X.K = K) : OpR X (compareOp .In) (rIn K false) := h ▸ op_in_seq
theorem op_notIn_seqK (h : X.K = K) : OpR X (compareOp .NotIn) (rIn K true) := h ▸ op_notIn_seq
theorem op_eqDK (h : X.K = K) (hu : X.A.units + 64 < cLine) : OpR X (compareOp .Eq) (rEqD K) := h ▸ op_eqD hu
theorem op_neDK (h : X.K = K) (hu : X.A.units + 64 < cLine) : OpR X (compareOp .NotEq) (rNeD K) := h ▸ op_neD hu
theorem sl_listK (h : X.K = K) : SlR X (rSlL K) := h ▸ sl_list
theorem call_lenK (h : X.K = K) : CallR X (.builtin "len") (fun xs H Q => ∃ x n, xs = [x] ∧ LenV K x H n ∧ Q (.int n) H) := h ▸ call_len
theorem call_isbK (h : X.K = K) : CallR X (.builtin "isinstance") (fun xs H Q => rIsi K xs H Q ∨ ∃ (a C : Addr) (fs : List (Str × V)) (c : V) (u : Value) (b : Bool), xs = [.ref a, c] ∧ Exn H a C fs ∧ ExI K C ∧ ClsV c u ∧ PySem.W.kitOne K (.ref C) u = some b ∧ Q (.bl b) H) := h ▸ call_isb
theorem cr_sumK (h : X.K = K) (hc : X.calm = true) : CallR X (.builtin "sum") (rSum K) := h ▸ cr_sum hc
theorem cr_allK (h : X.K = K) (hc : X.calm = true) : CallR X (.builtin "all") (rAll K) := h ▸ cr_all hc
theorem call_list_ofK (h : X.K = K) : CallR X (.type "list") (fun xs H Q => ∃ p ys, xs = [.ref p] ∧ (SqL K H p ys ∨ SqT K H p ys) ∧ ∀ l, H l = none → Q (.ref l) (upd H l (.lst ys))) := h ▸ call_list_of
theorem call_tuple_ofK (h : X.K = K) : CallR X (.type "tuple") (fun xs H Q => ∃ p ys, xs = [.ref p] ∧ ((SqL K H p ys ∧ ∀ l, H l = none → Q (.ref l) (upd H l (.tup ys))) ∨ (SqT K H p ys ∧ Q (.ref p) H))) := h ▸ call_tuple_of
theorem pe_stepLK {e st : Expr} {te : TE} {ts : TO} {p2 pos : Pos} (h : X.K = K) (he : PE X e te) (hs : PO X (some st) ts) : PE X (.Subscript e (.Slice none none (some st) p2) pos) (tStepL K te ts) := h ▸ pe_stepL he hs
end
end My
namespace My
open PySem PySem.Spec PyProof.Rows L2
theorem upd_old {H : Hp} {p a : Addr} {o x : HO} (h : H p = none) (e : H a = some x) : upd H p o a = some x := same_new h _ _ e
abbrev Plus (S : Av) (D : Addr) : Av := fun b => S b ∨ b = D
/-- a comprehension whose items are data -/
structure LcA (S : Av) (p : Addr) (n : Nat) (H : Hp) (D : Addr) (xs : List V) (ds : List PyData) (H' : Hp) : Prop where
  l : LcD p n H D xs H'
  a : AtAll (Plus S D) H' xs ds
theorem LcA.start {S : Av} {p : Addr} {n : Nat} {H : Hp} {D : Addr} (h : Box n H p) (hD : H D = none) : LcA S p n H D [] [] (upd H D (.lst [])) := ⟨LcD.start h hD, .nil⟩
theorem LcA.step {S : Av} {p : Addr} {n m : Nat} {H H1 H2 : Hp} {D : Addr} {xs : List V} {ds : List PyData} {y : V} {d : PyData} (c : LcA S p n H D xs ds H1) (hS : S p) (k : Dr p m H1 H2) (hy : At (Plus S D) H2 y d) :
    LcA S p m H D (xs ++ [y]) (ds ++ [d]) (upd H2 D (.lst (xs ++ [y]))) := by
  have W : BtS (Plus S D) H1 H2 := k.bt.s.mono fun b z => .inl (z ▸ hS)
  have U : BtS (Plus S D) H2 (upd H2 D (.lst (xs ++ [y]))) := BtS.upd (.inr rfl)
  exact ⟨(c.l.keep k).step y, AtAll.bt U _ _ ((AtAll.bt W _ _ c.a).app (.cons hy .nil))⟩
theorem LcA.done {S : Av} {p : Addr} {n : Nat} {H H' : Hp} {D : Addr} {xs : List V} {ds : List PyData} (c : LcA S p n H D xs ds H') (hD : ¬ S D) : At S H' (.ref D) (.list ds) := .lst hD c.l.at_ (AtAll.weak (fun _ z => .inl z) _ _ c.a)
theorem LcA.mono {S : Av} {p : Addr} {n m : Nat} {H H' : Hp} {D : Addr} {xs : List V} {ds : List PyData} (c : LcA S p n H D xs ds H') (h : n ≤ m) : LcA S p m H D xs ds H' := ⟨c.l.mono h, c.a⟩
theorem LcA.len {S : Av} {p : Addr} {n : Nat} {H H' : Hp} {D : Addr} {xs : List V} {ds : List PyData} (c : LcA S p n H D xs ds H') : xs.length = ds.length := c.a.len
theorem At.ofrow {S : Av} {H : Hp} {a : Addr} {ns : List Int} (h : ¬ S a) (e : H a = some (.lst (ns.map V.int))) : At S H (.ref a) (rowD ns) := .lst h e (AtAll.ints ns)
end My
set_option Elab.async false
set_option linter.all false
set_option maxRecDepth 100000
set_option maxHeartbeats 4000000
/-! B4: enumerate(xs, start=k) over a list or a tuple; the sum of a tuple of whole numbers. -/
namespace My
open PySem PySem.Spec PyProof.Rows L2
/-- a list (false) or a tuple (true) -/
def Sq (K : PySem.W.Frag) (H : Hp) : Bool → Addr → List V → Prop
  | false, a, xs => SqL K H a xs
  | true, a, xs => SqT K H a xs
/-- enumerate from c over what stands at a -/
def IteC (K : PySem.W.Frag) (b : Bool) (a : Addr) (c : Int) : It :=
  ⟨fun i H => ∃ (xs : List V) (x : V), Sq K H b a xs ∧ xs[i]? = some x, fun i H v H' => ∃ T x, v = .ref T ∧ H T = none ∧ H' = upd H T (.tup [.int (c + (i : Int)), x]) ∧ ∀ xs, Sq K H b a xs → xs[i]? = some x, fun i H => ∃ xs : List V, Sq K H b a xs ∧ xs.length = i⟩
/-- its iterator stands at turn i -/
def SqIt (h : Heap) : Bool → Addr → Addr → Nat → Prop
  | false, it, a, i => h.IsListIter it a i
  | true, it, a, i => h.IsTupleIter it a i
def SqIs (h : Heap) : Bool → Addr → Array Value → Prop
  | false, a, its => h.IsList a its
  | true, a, its => h.IsTuple a its
section
variable {prog : Program} {w : World} {A : Around} {X : Cx} {pins : List (Addr × Obj)} {σ : L2.St} {H : Hp} {s : Shared}
theorem sq_draws (hh : A.handled = none) {b : Bool} {it a : Addr} (hne : a ≠ it) (its : Array Value) : Draws prog w A it [it, a] its.size (fun i v => its[i]? = some v) (fun i h => SqIt h b it a i ∧ SqIs h b a its) :=
  match b with
  | false => Draws.list hh it a hne its
  | true => Draws.tuple hh it a hne its
theorem sq_read {b : Bool} {a : Addr} {xs : List V} (I : Inv X pins σ H s) (h : Sq X.K H b a xs) : ∃ its : List Value, Vals xs its ∧ SqIs s.heap b a its.toArray := by
  cases b with
  | false =>
    obtain ⟨its, rv, p, hz⟩ := I.list h
    exact ⟨its, rv, p.isList⟩
  | true =>
    obtain ⟨its, rv, p, hz⟩ := I.tuple h
    exact ⟨its, rv, p⟩
theorem sq_inj {b : Bool} {a : Addr} {xs ys : List V} (I : Inv X pins σ H s) (h : Sq X.K H b a xs) (k : Sq X.K H b a ys) : xs = ys := by
  cases b with
  | false => exact I.list_inj h k
  | true => exact I.tuple_inj h k
theorem sqit_obj {h : Heap} {b : Bool} {it a : Addr} {i : Nat} (st : SqIt h b it a i) : ∃ o, h.get? it = some o ∧ (∀ v, o.data ≠ .cell v) ∧ ∀ its, SqIs h b a its → a ≠ it := by
  cases b with
  | false =>
    obtain ⟨o, ho, hc, hd⟩ := st
    refine ⟨o, ho, (fun v q => by rw [hd] at q; cases q), fun its hi e => ?_⟩
    obtain ⟨o2, h2, c2, _⟩ := hi
    rw [e, ho] at h2
    cases h2
    rw [hc] at c2
    exact absurd (Value.type.inj c2) (by decide)
  | true =>
    obtain ⟨o, ho, hc, hd⟩ := st
    refine ⟨o, ho, (fun v q => by rw [hd] at q; cases q), fun its hi e => ?_⟩
    obtain ⟨o2, h2, c2, _⟩ := hi
    rw [e, ho] at h2
    cases h2
    rw [hc] at c2
    exact absurd (Value.type.inj c2) (by decide)
theorem sqis_ne {h : Heap} {b : Bool} {a e it : Addr} {its : Array Value} {c : Int} {old : Value} (hi : SqIs h b a its) (he : IsEnum h e it c old) : e ≠ a := by
  intro z
  cases b with
  | false =>
    obtain ⟨o2, h2, c2, _⟩ := hi
    have he' := he
    rw [z] at he'
    have q := Option.some.inj (h2.symm.trans he')
    rw [q] at c2
    exact absurd (Value.type.inj c2) (by decide)
  | true =>
    obtain ⟨o2, h2, c2, _⟩ := hi
    have he' := he
    rw [z] at he'
    have q := Option.some.inj (h2.symm.trans he')
    rw [q] at c2
    exact absurd (Value.type.inj c2) (by decide)
theorem sqit_keep {h h' : Heap} {b : Bool} {it a : Addr} {i : Nat} (st : SqIt h b it a i) (k : ∀ o, h.get? it = some o → h'.get? it = some o) : SqIt h' b it a i := by
  cases b with
  | false => exact st.at k
  | true => exact st.at k
end
theorem turn_enumC {P : Program} {w : World} {K : PySem.W.Frag} {elts : List Expr} {kk : Nat} {tpos : Pos} (b : Bool) (c : Int) (a e it : Addr) :
    Turn P w K (.Tuple elts kk tpos) (IteC K b a c) [e, it] e (fun i h => (∃ old, IsEnum h e it (c + (i : Int)) old) ∧ SqIt h b it a i ∧ e ≠ it) where
  mem := by simp
  obj := fun i h st y hy => by
    obtain ⟨⟨old, he⟩, hs, _⟩ := st
    obtain ⟨o, ho, hc, _⟩ := sqit_obj hs
    rcases (show y = e ∨ y = it by simpa using hy) with z | z
    · rw [z]
      exact ⟨_, he, fun v q => nomatch q⟩
    · rw [z]
      exact ⟨o, ho, hc⟩
  keep := fun i h h' st k => let ⟨⟨old, he⟩, hi, hne⟩ := st; ⟨⟨old, k e (by simp) _ he⟩, sqit_keep hi fun o q => k it (by simp) o q, hne⟩
  item := by
    intro X hP hw hK hcalm i pins s σ H E I hf st hg
    subst hP hw hK
    obtain ⟨⟨old, he⟩, hit, hne⟩ := st
    obtain ⟨xs, x, hq, hx⟩ := hg
    obtain ⟨its, rv, p⟩ := sq_read I hq
    obtain ⟨u, hu, ru⟩ := rv.get hx
    obtain ⟨oi, hoi, _, hapart⟩ := sqit_obj hit
    have nai := hapart _ p
    have nea := sqis_ne p he
    have hlt : i < its.toArray.size := by
      rw [List.size_toArray]
      exact (List.getElem?_eq_some_iff.mp hu).1
    have hel : e < s.heap.objs.size := Heap.lt_size he
    have hil : it < s.heap.objs.size := Heap.lt_size hoi
    have hh : X.A.in1.handled = none := I.ok.hd hcalm
    refine wpAny_pyNext_enum_itemC (sq_draws hh nai its.toArray) he ⟨hit, p⟩ hlt hne (by simp [hne, nea]) fun u' h' tk hP ho hst hT hsz hk => ?_
    obtain ⟨hit', p'⟩ := hst
    have eu : u' = u := by
      have q1 : its[i]? = some u' := by simpa using hP
      exact Option.some.inj (q1.symm.trans hu)
    subst eu
    refine ⟨_, rfl, wpAny_letOwnedTupleGo_enum (s := { s with heap := h', toks := tk + 1 }) ho fun h'' he' sb => ?_⟩
    have hT2 : h''.get? s.heap.objs.size = some { cls := .type "tuple", data := .seq #[.int (c + (i : Int)) tk, u'] } := (sb.2 _ (Nat.ne_of_gt hel)).trans hT
    have new : ObjOk X.prog X.w (upd H s.heap.objs.size (.tup [.int (c + (i : Int)), x])) h'' s.heap.objs.size (.tup [.int (c + (i : Int)), x]) :=
      ⟨(by show 2 ≤ sizeLine; decide), [.int (c + (i : Int)) tk, u'], .cons ⟨_, rfl⟩ (.cons ru .nil), ⟨_, hT2, rfl, _, rfl⟩⟩
    have I1 : Inv X pins σ (upd H s.heap.objs.size (.tup [.int (c + (i : Int)), x])) { s with heap := h'', toks := tk + 1 } :=
      I.turnedNew (ch := [e, it]) (fun y ob hy q => (sb.2 y (fun z => hy (by simp [z]))).trans (hk y ob (fun z => hy (by simp [z])) (fun z => hy (by simp [z])) q)) hf (Nat.le_refl _) new
    refine ⟨.ref s.heap.objs.size, _, I1, rfl, ⟨_, x, rfl, I.hok.fresh (Nat.le_refl _), rfl, fun ys hy => by rw [sq_inj I hy hq]; exact hx⟩, ⟨⟨u', ?_⟩, sqit_keep hit' fun o q => (sb.2 it (Ne.symm hne)).trans q, hne⟩, fun y hy => ?_⟩
    · rw [show c + ((i + 1 : Nat) : Int) = c + (i : Int) + 1 by omega]
      exact he'
    · have hb' : y < s.heap.objs.size := by
        rcases (show y = e ∨ y = it by simpa using hy) with z | z
        · rw [z]
          exact hel
        · rw [z]
          exact hil
      rw [upd_ne (Nat.ne_of_lt hb')]
      exact (hf y hy).1
  done := by
    intro X hP hw hK hcalm i pins s σ H E I hf st hg
    subst hP hw hK
    obtain ⟨⟨old, he⟩, hit, hne⟩ := st
    obtain ⟨xs, hq, hx⟩ := hg
    obtain ⟨its, rv, p⟩ := sq_read I hq
    obtain ⟨oi, hoi, _, hapart⟩ := sqit_obj hit
    obtain ⟨f0, f1, f2, f3, f4, f5⟩ := hf it (by simp)
    have hl := rv.length
    have hh : X.A.in1.handled = none := I.ok.hd hcalm
    have e1 : i = its.toArray.size := by
      rw [List.size_toArray]
      omega
    subst e1
    exact wpAny_pyNext_enum_endD (sq_draws hh (hapart _ p) its.toArray) he ⟨hit, p⟩ fun h' eb => ⟨rfl, I.turned (t' := s.toks) (fun y o hy q => eb y o hy q) f0 f1 f3 f4 f5⟩
  self := fun A i s Q E st h => let ⟨⟨_, he⟩, _⟩ := st; wpAny_pyIter_enum he h
section
variable {M : Model} {A : Around} {E : Value → Shared → Prop} {s : Shared} {env : Env}
theorem callWith_typeKw {pos : Pos} {T : String} {e : Expr} {rest : List Expr} {kws : List Keyword} {Q : Value → Shared → Prop}
    (h : wpAny M A (spliced (backTo pos (starEach (e :: rest) env))) (fun vs s₁ => wpAny M A (evalAll ((backToKw pos (keywordEach kws env)).map (·.2))) (fun ws s₂ => wpAny M A (call (.type T) vs (((backToKw pos (keywordEach kws env)).filterMap (·.1)).zip ws)) Q E s₂) E s₁) E s)
    (he : backTo pos (starEach (e :: rest) env) = (false, eval e env) :: backTo pos (starEach rest env)) (hp : (backTo pos (starEach (e :: rest) env)).any (·.1) = false) (ha : (backToKw pos (keywordEach kws env)).all (·.1.isSome) = true) (hk : (backToKw pos (keywordEach kws env)).any (·.1.isNone) = false) :
    wpAny M A (callWith pos (.type T) [] (backTo pos (starEach (e :: rest) env)) (backToKw pos (keywordEach kws env))) Q E s := by
  have h1 : wpAny M A (evalArgs (.type T) true (backTo pos (starEach (e :: rest) env)) (backToKw pos (keywordEach kws env))) (fun a s₁ => wpAny M A (call (.type T) ([] ++ a.pos) a.kw) Q E s₁) E s := by
    rw [he] at h ⊢
    exact evalArgs_kwB ha h
  unfold callWith
  refine wpAny_bind (wpAny_holding (wpAny_mono h1 (fun a s1 k1 => wpAny_bind (wpAny_standAt ?_)) fun _ _ x => x))
  simp only [hp, hk, Bool.or_false]
  exact wpAny_bind (wpAny_pure (wpAny_bind (wpAny_mono k1 (fun r s2 k2 => wpAny_bind (wpAny_holding (wpAny_point (wpAny_pure k2)))) fun _ _ x => x)))
end
/-- what begins at a list, at a tuple -/
def sqBegin (b : Bool) (a : Addr) : Obj := match b with
  | false => { cls := .type "list_iterator", data := .fields #[.ref a, .int 0 0] }
  | true => { cls := .type "tuple_iterator", data := .fields #[.ref a, .int 0 0] }
theorem sq_begins (b : Bool) (a : Addr) (its : Array Value) : Begins (.ref a) (sqBegin b a) fun h => SqIs h b a its := match b with
  | false => begins_list a its
  | true => begins_tuple a its
def iEnumC (K : PySem.W.Frag) (b : Bool) (ta tk : TA) : TI := fun σ H R => ta σ H fun vs H1 => ∃ a, vs = [.ref a] ∧ tk σ H1 fun ws H2 => ∃ (c : Int) (xs : List V), ws = [.int c] ∧ -(2 ^ 63) ≤ c ∧ c < 2 ^ 63 ∧ Sq K H2 b a xs ∧ R (IteC K b a c) H2
theorem pi_enumC (b : Bool) {X : Cx} {e k : Expr} {ta tk : TA} {p pos tpos kp : Pos} {elts : List Expr} {kk : Nat} (hg : Gl X "enumerate") (hm : X.mg "enumerate" = none) (ha : PA X [e] ta) (hk : PK X [⟨some "start", k, kp⟩] tk)
    (he : backTo pos (starEach [e] X.env) = (false, eval e X.env) :: backTo pos (starEach [] X.env) := by rfl) (hpl : (backTo pos (starEach [e] X.env)).any (·.1) = false := by rfl)
    (hall : (backToKw pos (keywordEach [⟨some "start", k, kp⟩] X.env)).all (·.1.isSome) = true := by rfl) (hnone : (backToKw pos (keywordEach [⟨some "start", k, kp⟩] X.env)).any (·.1.isNone) = false := by rfl) (hks : (backToKw pos (keywordEach [⟨some "start", k, kp⟩] X.env)).filterMap (·.1) = (["start"] : List Str) := by rfl) :
    PI X (.Tuple elts kk tpos) (.Call (.Name "enumerate" p) [e] [⟨some "start", k, kp⟩] pos) (iEnumC X.K b ta tk) := by
  refine ⟨fun pins s σ H R I h => ?_⟩
  refine wpAny_Call_Name_kw (ld_blt I hg hm boot_enumerate ?_)
  refine callWith_typeKw (thn (ha.run pos pins s σ H _ I h) fun us s1 ⟨vs, H1, I1, r1, a, ev, q1⟩ => thn (hk.run pos pins s1 σ H1 _ I1 q1) fun ws s2 ⟨zs, H2, I2, r2, c, xs, ez, c0, c1, hq, q⟩ => ?_) he hpl hall hnone
  rw [hks]
  subst ev ez
  cases r1 with
  | cons ra rr =>
    cases rr
    cases ra
    cases r2 with
    | cons rc rr =>
      cases rr
      obtain ⟨tk', rfl⟩ := rc
      obtain ⟨its, rv, p'⟩ := sq_read I2 hq
      refine enum_begins_start (sq_begins b a its.toArray) p' c0 c1 fun h' hE hB hsz hkeep => wpAny_pyIter_enum hE ?_
      have I3 : Inv X pins σ H2 { s2 with heap := h' } := I2.kept (t' := s2.toks) hkeep
      have st0 : SqIt h' b s2.heap.objs.size a 0 := by
        cases b with
        | false => exact ⟨_, hB, rfl, rfl⟩
        | true => exact ⟨_, hB, rfl, rfl⟩
      refine ⟨s2.heap.objs.size + 1, [s2.heap.objs.size + 1, s2.heap.objs.size], _, _, H2, rfl, I3, turn_enumC b c a (s2.heap.objs.size + 1) s2.heap.objs.size, ⟨⟨.none, by rw [show c + ((0 : Nat) : Int) = c by omega]; exact hE⟩, st0, Nat.succ_ne_self _⟩, fun y hy => ?_, q⟩
      have hle : s2.heap.objs.size ≤ y := by
        rcases (show y = s2.heap.objs.size + 1 ∨ y = s2.heap.objs.size by simpa using hy) with z | z
        · rw [z]
          exact Nat.le_add_right _ _
        · rw [z]
          exact Nat.le_refl _
      exact I2.fpOk hle (I2.hok.fresh hle)
theorem walk_enumC {K : PySem.W.Frag} {b : Bool} {a : Addr} {c : Int} {xs : List V} : Walk (IteC K b a c) xs.length (fun H => Sq K H b a xs) (YPair (fun i => some (.int (c + (i : Int)))) (fun i => xs[i]?)) := by
  refine ⟨fun i H hi q => ⟨xs, xs[i], q, by simp [hi]⟩, fun H q => ⟨xs, q, rfl⟩, fun i H v H' _ q y => ?_⟩
  obtain ⟨T, x, h1, h2, h3, h4⟩ := y
  exact ⟨T, _, x, h1, h2, h3, rfl, h4 xs q⟩
section
variable {X : Cx}
/-- sum(t), t a tuple of whole numbers -/
def rSumT (K : PySem.W.Frag) : List V → Hp → VK → Prop := fun vs H Q => ∃ (a : Addr) (ns : List Int), vs = [V.ref a] ∧ SqT K H a (ns.map V.int) ∧ Q (.int ns.sum) H
theorem cr_sumT (hc : X.calm = true) : CallR X (.builtin "sum") (rSumT X.K) := by
  intro pins s σ H vs us Q I r h
  obtain ⟨a, ns, rfl, ht, q⟩ := h
  obtain ⟨u, rfl, r1⟩ := vals1 r
  cases (show u = Value.ref a from r1)
  obtain ⟨its, rv, p, hz⟩ := I.tuple ht
  have hi := intsAre_of rv
  obtain ⟨xs, hx⟩ := hi.allInts.items
  have hn : numsOf its.toArray.toList = ns := by rw [show its.toArray.toList = its from rfl, hi.numsOf]
  have p' : s.heap.IsTuple a its.toArray := p
  rw [hx] at p' hn
  rw [nums_intItems] at hn
  refine PySem.W.ktm_sumG (I.ok.hd hc) p' fun h' tk t' hk => ?_
  have e : preSum (numAt xs) xs.size = ns.sum := by
    rw [preSum_eq, List.take_of_length_le (by simp), hn]
  rw [e]
  exact ⟨.int ns.sum, H, I.kept hk, ⟨_, rfl⟩, q⟩
end
end My
set_option Elab.async false
set_option linter.all false
set_option maxRecDepth 100000
set_option maxHeartbeats 4000000
/-! B5: rows that are lists or tuples; things that are asked about, instances among them. -/
namespace My
open PySem PySem.Spec PyProof.Rows L2
abbrev Occ (S : Av) (H : Hp) : Prop := ∀ b, S b → H b ≠ none
theorem Occ.same {S : Av} {H H' : Hp} (h : Occ S H) (s : Same H H') : Occ S H' := fun b z e => by
  cases q : H b with
  | none => exact h b z q
  | some o =>
    have := s b o q
    rw [e] at this
    cases this
theorem Occ.free {S : Av} {H : Hp} {q : Addr} (h : Occ S H) (e : H q = none) : ¬ S q := fun z => h q z e
theorem Same.btS {S : Av} {H H' : Hp} (s : Same H H') : BtS S H H' := fun b o _ e => s b o e
/-- xs stand at a, a list or a tuple -/
def Rw (H : Hp) (a : Addr) (xs : List V) : Prop := H a = some (.lst xs) ∨ H a = some (.tup xs)
theorem Rw.sq {K : PySem.W.Frag} {H : Hp} {a : Addr} {xs : List V} (h : Rw H a xs) : ∃ b, Sq K H b a xs := h.elim (fun e => ⟨false, .inl (.inl e)⟩) fun e => ⟨true, .inl (.inl e)⟩
theorem Rw.same {H H' : Hp} {a : Addr} {xs : List V} (h : Rw H a xs) (s : Same H H') : Rw H' a xs := h.elim (fun e => .inl (s _ _ e)) fun e => .inr (s _ _ e)
theorem Sq.same {K : PySem.W.Frag} {H H' : Hp} {b : Bool} {a : Addr} {xs : List V} (h : Sq K H b a xs) (s : Same H H') : Sq K H' b a xs := by
  cases b with
  | false => exact s.seq h
  | true =>
    rcases h with (h | ⟨o, h⟩) | h
    · exact .inl (.inl (s _ _ h))
    · exact .inl (.inr ⟨o, s _ _ h⟩)
    · exact .inr h
/-- a row of data, a list or a tuple -/
def RwA (S : Av) (H : Hp) (v : V) (xs : List V) (ds : List PyData) : Prop := ∃ a, v = .ref a ∧ ¬ S a ∧ Rw H a xs ∧ AtAll S H xs ds
theorem RwA.same {S : Av} {H H' : Hp} {v : V} {xs : List V} {ds : List PyData} (h : RwA S H v xs ds) (s : Same H H') : RwA S H' v xs ds := by
  obtain ⟨a, e, n, r, k⟩ := h
  exact ⟨a, e, n, r.same s, AtAll.bt (Same.btS s) _ _ k⟩
theorem At.same {S : Av} {H H' : Hp} {v : V} {d : PyData} (h : At S H v d) (s : Same H H') : At S H' v d := At.bt (Same.btS s) _ _ h
theorem AtAll.same {S : Av} {H H' : Hp} {v : List V} {d : List PyData} (h : AtAll S H v d) (s : Same H H') : AtAll S H' v d := AtAll.bt (Same.btS s) _ _ h
def Itb (K : PySem.W.Frag) (b : Bool) (a : Addr) : It := match b with
  | false => Itl K a
  | true => Itt K a
theorem walk_row {K : PySem.W.Frag} {b : Bool} {a : Addr} {xs : List V} : Walk (Itb K b a) xs.length (fun H => Sq K H b a xs) (YAt xs) := match b with
  | false => walk_list
  | true => walk_tup
def iRow (K : PySem.W.Frag) (te : TE) : TI := fun σ H R => te σ H fun x H1 => ∃ (a : Addr) (b : Bool) (xs : List V), x = .ref a ∧ Sq K H1 b a xs ∧ R (Itb K b a) H1
section
variable {X : Cx}
theorem pi_row {tg l : Expr} {tl : TE} (hl : PE X l tl) : PI X tg l (iRow X.K tl) := by
  refine ⟨fun pins s σ H R I h => thn (hl.run pins s σ H _ I h) fun v s1 ⟨x, H1, I1, r1, a, b, xs, e, hq, q⟩ => ?_⟩
  subst e
  cases r1
  have fin : ∀ y ∈ [s1.heap.objs.size], FpOk X pins H1 y := fun y hy => by
    rw [List.mem_singleton.mp hy]
    exact I1.fpOk (Nat.le_refl _) (I1.hok.fresh (Nat.le_refl _))
  cases b with
  | false =>
    obtain ⟨its, rv, p, hz⟩ := I1.list hq
    exact wpAny_pyIter_list p.isList ⟨s1.heap.objs.size, [s1.heap.objs.size], _, _, H1, rfl, I1.kept (t' := s1.toks) fun b o k => Heap.get?_push_of_some _ k, turn_list a _, ⟨_, Heap.get?_push_size _ rfl, rfl, rfl⟩, fin, q⟩
  | true =>
    obtain ⟨its, rv, p, hz⟩ := I1.tuple hq
    exact wpAny_pyIter_tuple (show s1.heap.IsTuple a its.toArray from p) ⟨s1.heap.objs.size, [s1.heap.objs.size], _, _, H1, rfl, I1.kept (t' := s1.toks) fun b o k => Heap.get?_push_of_some _ k, turn_tuple a _, ⟨_, Heap.get?_push_size _ rfl, rfl, rfl⟩, fin, q⟩
end
/-- the length of a row, by len -/
theorem Sq.lenV {K : PySem.W.Frag} {H : Hp} {b : Bool} {a : Addr} {xs : List V} (h : Sq K H b a xs) : LenV K (.ref a) H xs.length := match b, h with
  | false, h => .inl ⟨xs, h, rfl⟩
  | true, h => .inr ⟨xs, h, rfl⟩
/-- isinstance of a row, (list, tuple) -/
theorem row_kit {K : PySem.W.Frag} {H : Hp} {a : Addr} {xs : List V} (h : Rw H a xs) : ∃ t, TyX K H (.ref a) t ∧ PySem.W.kitAny K t [.type "list", .type "tuple"] = some true := by
  rcases h with h | h
  · exact ⟨.type "list", .base (.lst h), kitAny_cons (kit_ty (b := "list") (r := true) (by decide +kernel)) (fun z => nomatch z) (fun _ => rfl)⟩
  · exact ⟨.type "tuple", .base (.tup h), kitAny_cons (kit_ty (b := "list") (r := false) (by decide +kernel)) (fun _ => kitAny_cons (kit_ty (b := "tuple") (r := true) (by decide +kernel)) (fun z => nomatch z) (fun _ => rfl)) (fun z => nomatch z)⟩
theorem two_ty : Paired ClsV [.ty "list", .ty "tuple"] [.type "list", .type "tuple"] := .cons (.ty _) (.cons (.ty _) .nil)
/-- tuple(x) of a row: a tuple of the same items, the row itself or a new one -/
theorem row_tuple {K : PySem.W.Frag} {S : Av} {H : Hp} {a : Addr} {xs : List V} {ds : List PyData} (o : Occ S H) (n : ¬ S a) (h : Rw H a xs) (k : AtAll S H xs ds) {Q : VK} (q : ∀ v H', Same H H' → At S H' v (.tuple ds) → Q v H') :
    ∃ p ys, [V.ref a] = [.ref p] ∧ ((SqL K H p ys ∧ ∀ l, H l = none → Q (.ref l) (upd H l (.tup ys))) ∨ (SqT K H p ys ∧ Q (.ref p) H)) := by
  rcases h with h | h
  · exact ⟨a, xs, rfl, .inl ⟨.inl (.inl h), fun l hl => q _ _ (same_new hl) (.tup (o.free hl) upd_same (AtAll.same k (same_new hl)))⟩⟩
  · exact ⟨a, xs, rfl, .inr ⟨.inl (.inl h), q _ _ (Same.refl H) (.tup n h k)⟩⟩
end My
set_option Elab.async false
set_option linter.all false
set_option maxRecDepth 100000
set_option maxHeartbeats 4000000
/-! B6: things that are asked about; whole numbers and names among them. -/
namespace My
open PySem PySem.Spec PyProof.Rows L2
/-- an own class whose things can be asked about -/
structure OwnK (K : PySem.W.Frag) (C : Addr) : Prop where
  cl : Cls K C
  ha : PySem.W.findIn K (.ref C) "__class__" = some (some (.builtin "object.__class__"))
  hn : PySem.W.specialIn K (.builtin "object.__class__") "__get__" = some (some (.builtin "getset_descriptor.__get__"))
  htk : PySem.W.takesIn K (.builtin "object.__class__") = some true
  hm : PySem.W.mroIn K C (.type "object") = some true
  nI : PySem.W.kitOne K (.ref C) (.type "int") = some false
  nB : PySem.W.kitOne K (.ref C) (.type "bool") = some false
  nS : PySem.W.kitOne K (.ref C) (.type "str") = some false
/-- a thing that is asked about, as it stands in the heap -/
inductive Th (K : PySem.W.Frag) (H : Hp) : V → Prop where
  | non : Th K H .non
  | bl (b : Bool) : Th K H (.bl b)
  | int (i : Int) : Th K H (.int i)
  | str (l : List Nat) (h : l.length ≤ 1000) (a : ∀ c ∈ l, c < 128) : Th K H (.str (SX.S l))
  | lst {a : Addr} {xs : List V} (e : H a = some (.lst xs)) : Th K H (.ref a)
  | tup {a : Addr} {xs : List V} (e : H a = some (.tup xs)) : Th K H (.ref a)
  | dct {a : Addr} {xs : List (Key × V)} (e : H a = some (.dK xs)) : Th K H (.ref a)
  | exc {a C : Addr} {fs : List (Str × V)} (e : Exn H a C fs) (i : ExI K C) (n1 : PySem.W.kitOne K (.ref C) (.type "int") = some false) (n2 : PySem.W.kitOne K (.ref C) (.type "bool") = some false) (n3 : PySem.W.kitOne K (.ref C) (.type "str") = some false) : Th K H (.ref a)
  | ins {a C dx : Addr} {fs : List (Str × V)} (e : H a = some (.ins C dx fs)) (k : OwnK K C) : Th K H (.ref a)
theorem Th.same {K : PySem.W.Frag} {H H' : Hp} {x : V} (h : Th K H x) (s : Same H H') : Th K H' x := by
  cases h with
  | non => exact .non
  | bl b => exact .bl b
  | int i => exact .int i
  | str l h a => exact .str l h a
  | lst e => exact .lst (s _ _ e)
  | tup e => exact .tup (s _ _ e)
  | dct e => exact .dct (s _ _ e)
  | exc e i a b c => exact .exc (e.same s) i a b c
  | ins e k => exact .ins (s _ _ e) k
def vInt : V → Bool
  | .int _ => true
  | .bl _ => true
  | _ => false
def vBl : V → Bool
  | .bl _ => true
  | _ => false
def vStr : V → Bool
  | .str _ => true
  | _ => false
def RB (K : PySem.W.Frag) : List V → Hp → VK → Prop := fun xs H Q => rIsi K xs H Q ∨ ∃ (a C : Addr) (fs : List (Str × V)) (c : V) (u : Value) (b : Bool), xs = [.ref a, c] ∧ Exn H a C fs ∧ ExI K C ∧ ClsV c u ∧ PySem.W.kitOne K (.ref C) u = some b ∧ Q (.bl b) H
theorem isi_b {K : PySem.W.Frag} {H : Hp} {x : V} {T t : String} {b : Bool} (h : TyOf K H x (.type t)) (e : kitB t T = some b) {Q : VK} (q : Q (.bl b) H) : RB K [x, .ty T] H Q :=
  .inl ⟨x, .ty T, _, _, b, rfl, .ty T, .base h, kit_ty e, q⟩
theorem Th.int? {K : PySem.W.Frag} {H : Hp} {x : V} (h : Th K H x) {Q : VK} (q : Q (.bl (vInt x)) H) : RB K [x, .ty "int"] H Q := by
  cases h with
  | non => exact isi_b (b := false) .non (by decide +kernel) q
  | bl b => exact isi_b (b := true) (.bl b) (by decide +kernel) q
  | int i => exact isi_b (b := true) (.int i) (by decide +kernel) q
  | str l h a => exact isi_b (b := false) (.str _) (by decide +kernel) q
  | lst e => exact isi_b (b := false) (.lst e) (by decide +kernel) q
  | tup e => exact isi_b (b := false) (.tup e) (by decide +kernel) q
  | dct e => exact isi_b (b := false) (.dK e) (by decide +kernel) q
  | exc e i a b c => exact .inr ⟨_, _, _, _, _, _, rfl, e, i, .ty _, a, q⟩
  | ins e k => exact .inl ⟨_, _, _, _, false, rfl, .ty _, .base (.ins e k.cl k.ha k.hn k.htk k.hm), k.nI, q⟩
theorem Th.bl? {K : PySem.W.Frag} {H : Hp} {x : V} (h : Th K H x) {Q : VK} (q : Q (.bl (vBl x)) H) : RB K [x, .ty "bool"] H Q := by
  cases h with
  | non => exact isi_b (b := false) .non (by decide +kernel) q
  | bl b => exact isi_b (b := true) (.bl b) (by decide +kernel) q
  | int i => exact isi_b (b := false) (.int i) (by decide +kernel) q
  | str l h a => exact isi_b (b := false) (.str _) (by decide +kernel) q
  | lst e => exact isi_b (b := false) (.lst e) (by decide +kernel) q
  | tup e => exact isi_b (b := false) (.tup e) (by decide +kernel) q
  | dct e => exact isi_b (b := false) (.dK e) (by decide +kernel) q
  | exc e i a b c => exact .inr ⟨_, _, _, _, _, _, rfl, e, i, .ty _, b, q⟩
  | ins e k => exact .inl ⟨_, _, _, _, false, rfl, .ty _, .base (.ins e k.cl k.ha k.hn k.htk k.hm), k.nB, q⟩
theorem Th.str? {K : PySem.W.Frag} {H : Hp} {x : V} (h : Th K H x) {Q : VK} (q : Q (.bl (vStr x)) H) : RB K [x, .ty "str"] H Q := by
  cases h with
  | non => exact isi_b (b := false) .non (by decide +kernel) q
  | bl b => exact isi_b (b := false) (.bl b) (by decide +kernel) q
  | int i => exact isi_b (b := false) (.int i) (by decide +kernel) q
  | str l h a => exact isi_b (b := true) (.str _) (by decide +kernel) q
  | lst e => exact isi_b (b := false) (.lst e) (by decide +kernel) q
  | tup e => exact isi_b (b := false) (.tup e) (by decide +kernel) q
  | dct e => exact isi_b (b := false) (.dK e) (by decide +kernel) q
  | exc e i a b c => exact .inr ⟨_, _, _, _, _, _, rfl, e, i, .ty _, c, q⟩
  | ins e k => exact .inl ⟨_, _, _, _, false, rfl, .ty _, .base (.ins e k.cl k.ha k.hn k.htk k.hm), k.nS, q⟩
def letters26 : List Nat := (Str.cps "abcdefghijklmnopqrstuvwxyz").toList
def whole (x : V) (lo hi : Int) : Bool := match x with
  | .int i => decide (lo ≤ i) && decide (i ≤ hi)
  | _ => false

def nameL (l : List Nat) : Bool := decide (1 ≤ l.length) && decide (l.length ≤ 6) && l.all fun c => decide (c ∈ letters26)
def nameV : V → Bool
  | .str z => nameL z.cps.toList
  | _ => false
def sp_whole (K : PySem.W.Frag) : Sp := fun vs H Q _ => ∃ (x : V) (lo hi : Int), vs = [x, .int lo, .int hi] ∧ Th K H x ∧ Q (.bl (whole x lo hi)) H
def sp_name (K : PySem.W.Frag) : Sp := fun vs H Q _ => ∃ x : V, vs = [x] ∧ Th K H x ∧ ∀ H', Same H H' → Q (.bl (nameV x)) H'
def sp_made (K : PySem.W.Frag) : Sp := fun vs H Q _ => ∃ x : V, vs = [x, .str "abcdefghijklmnopqrstuvwxyz", .int 6] ∧ Th K H x ∧ ∀ H', Same H H' → Q (.bl (nameV x)) H'
theorem same_new2 {H : Hp} {p : Addr} {o u : HO} (h : H p = none) : Same H (upd (upd H p o) p u) := fun b x e => by
  have n := ne_of_none e h
  rw [upd_ne n, upd_ne n]
  exact e
section
variable {K : PySem.W.Frag}
theorem Th.str_of {H : Hp} {x : V} (h : Th K H x) (e : vStr x = true) : ∃ l : List Nat, x = .str (SX.S l) ∧ l.length ≤ 1000 ∧ ∀ c ∈ l, c < 128 := by
  cases h with
  | str l h a => exact ⟨l, rfl, h, a⟩
  | _ => exact absurd e Bool.false_ne_true
theorem nameV_no {x : V} (e : ¬ vStr x = true) : nameV x = false := by
  cases x with
  | str z => exact absurd rfl e
  | _ => rfl
theorem nameV_S (l : List Nat) : nameV (.str (SX.S l)) = nameL l := rfl
end
end My
set_option Elab.async false
set_option linter.all false
set_option maxRecDepth 100000
set_option maxHeartbeats 4000000
/-! B7: new lists of data that are made without any draw; rows of rows. -/
namespace My
open PySem PySem.Spec PyProof.Rows L2
theorem Occ.plus {S : Av} {H : Hp} {D : Addr} {o : HO} (h : Occ S H) (e : H D = some o) : Occ (Plus S D) H := fun b z => z.elim (h b) fun q => by
  rw [q, e]
  exact fun z => nomatch z
theorem Same.fresh {H H' : Hp} {D : Addr} (s : Same H H') (h : H' D = none) : H D = none := by
  cases e : H D with
  | none => rfl
  | some o =>
    have := s D o e
    rw [h] at this
    cases this
/-- a new list at D holds the data ds so far -/
structure LcS (S : Av) (H : Hp) (D : Addr) (xs : List V) (ds : List PyData) (H' : Hp) : Prop where
  fr : H D = none
  s : Same H H'
  at_ : H' D = some (.lst xs)
  a : AtAll (Plus S D) H' xs ds
theorem LcS.start {S : Av} {H : Hp} {D : Addr} (hD : H D = none) : LcS S H D [] [] (upd H D (.lst [])) := ⟨hD, same_new hD, upd_same, .nil⟩
theorem LcS.keep {S : Av} {H H1 H2 : Hp} {D : Addr} {xs : List V} {ds : List PyData} (c : LcS S H D xs ds H1) (k : Same H1 H2) : LcS S H D xs ds H2 := ⟨c.fr, c.s.trans k, k _ _ c.at_, AtAll.same c.a k⟩
theorem LcS.step {S : Av} {H H1 : Hp} {D : Addr} {xs : List V} {ds : List PyData} {y : V} {d : PyData} (c : LcS S H D xs ds H1) (hy : At (Plus S D) H1 y d) : LcS S H D (xs ++ [y]) (ds ++ [d]) (upd H1 D (.lst (xs ++ [y]))) := by
  have U : BtS (Plus S D) H1 (upd H1 D (.lst (xs ++ [y]))) := BtS.upd (.inr rfl)
  refine ⟨c.fr, fun b o e => ?_, upd_same, AtAll.bt U _ _ (c.a.app (.cons hy .nil))⟩
  rw [upd_ne (ne_of_none e c.fr)]
  exact c.s b o e
theorem LcS.occ {S : Av} {H H1 : Hp} {D : Addr} {xs : List V} {ds : List PyData} (c : LcS S H D xs ds H1) (o : Occ S H) : Occ (Plus S D) H1 := (o.same c.s).plus c.at_
theorem LcS.done {S : Av} {H H1 : Hp} {D : Addr} {xs : List V} {ds : List PyData} (c : LcS S H D xs ds H1) : AtAll S H1 xs ds := AtAll.weak (fun _ z => .inl z) _ _ c.a
theorem LcS.len {S : Av} {H H1 : Hp} {D : Addr} {xs : List V} {ds : List PyData} (c : LcS S H D xs ds H1) : xs.length = ds.length := c.a.len
/-- a chapter handed in: a row of whole numbers -/
def ChIn (S : Av) (H : Hp) (v : V) (c : List Int) : Prop := ∃ a, v = .ref a ∧ ¬ S a ∧ Rw H a (c.map V.int)
theorem ChIn.same {S : Av} {H H' : Hp} {v : V} {c : List Int} (h : ChIn S H v c) (s : Same H H') : ChIn S H' v c := by
  obtain ⟨a, e, n, r⟩ := h
  exact ⟨a, e, n, r.same s⟩
theorem ChIn.plus {S : Av} {H : Hp} {v : V} {c : List Int} {D : Addr} (h : ChIn S H v c) (f : ∀ xs, H D ≠ some (.lst xs) ∨ True) (g : H D = none) : ChIn (Plus S D) H v c := by
  obtain ⟨a, e, n, r⟩ := h
  refine ⟨a, e, fun z => z.elim n fun q => ?_, r⟩
  rcases r with r | r
  · rw [q, g] at r
    cases r
  · rw [q, g] at r
    cases r
/-- all chapters of a book handed in -/
def ChsIn (S : Av) (H : Hp) (xs : List V) (C : List (List Int)) : Prop := xs.length = C.length ∧ ∀ (i : Nat) (x : V) (c : List Int), xs[i]? = some x → C[i]? = some c → ChIn S H x c
theorem ChsIn.same {S : Av} {H H' : Hp} {xs : List V} {C : List (List Int)} (h : ChsIn S H xs C) (s : Same H H') : ChsIn S H' xs C := ⟨h.1, fun i x c e f => (h.2 i x c e f).same s⟩
/-- a book handed in -/
def BkIn (S : Av) (H : Hp) (v : V) (nm : List Nat) (C : List (List Int)) : Prop := ∃ a c xs, v = .ref a ∧ H a = some (.tup [.str (SX.S nm), .ref c]) ∧ Rw H c xs ∧ ChsIn S H xs C
theorem BkIn.same {S : Av} {H H' : Hp} {v : V} {nm : List Nat} {C : List (List Int)} (h : BkIn S H v nm C) (s : Same H H') : BkIn S H' v nm C := by
  obtain ⟨a, c, xs, e, f, r, k⟩ := h
  exact ⟨a, c, xs, e, s _ _ f, r.same s, k.same s⟩
def chD (c : List Int) : PyData := .tuple (c.map .int)
def chsD (C : List (List Int)) : PyData := .tuple (C.map chD)
def bkD (b : List Nat × List (List Int)) : PyData := .tuple [.str (SX.S b.1), chsD b.2]
def bksD (B : List (List Nat × List (List Int))) : PyData := .tuple (B.map bkD)
theorem ChIn.plusN {S : Av} {H : Hp} {v : V} {c : List Int} {D : Addr} (h : ChIn S H v c) (g : H D = none) : ChIn (Plus S D) H v c := h.plus (fun _ => .inr trivial) g
theorem ChsIn.plusN {S : Av} {H : Hp} {xs : List V} {C : List (List Int)} {D : Addr} (h : ChsIn S H xs C) (g : H D = none) : ChsIn (Plus S D) H xs C := ⟨h.1, fun i x c e f => (h.2 i x c e f).plusN g⟩
theorem BkIn.plusN {S : Av} {H : Hp} {v : V} {nm : List Nat} {C : List (List Int)} {D : Addr} (h : BkIn S H v nm C) (g : H D = none) : BkIn (Plus S D) H v nm C := by
  obtain ⟨a, c, xs, e, f, r, k⟩ := h
  exact ⟨a, c, xs, e, f, r, k.plusN g⟩
end My
namespace My
open PySem PySem.Spec PyProof.Rows L2
theorem AtAll.ints_inv {S : Av} {H : Hp} : ∀ (ns : List Int) (vs : List V), AtAll S H vs (ns.map .int) → vs = ns.map .int
  | [], _, h => by
    cases h
    rfl
  | n :: r, _, h => by
    cases h with
    | cons h1 h2 =>
      cases h1
      rw [AtAll.ints_inv r _ h2]
      rfl
theorem At.ch {S : Av} {H : Hp} {v : V} {c : List Int} (h : At S H v (chD c)) : ∃ a, v = .ref a ∧ ¬ S a ∧ H a = some (.tup (c.map V.int)) := by
  cases h with
  | tup n e k => exact ⟨_, rfl, n, by rw [e, AtAll.ints_inv _ _ k]⟩
theorem At.bk {S : Av} {H : Hp} {v : V} {b : List Nat × List (List Int)} (h : At S H v (bkD b)) : ∃ a c zs, v = .ref a ∧ ¬ S a ∧ H a = some (.tup [.str (SX.S b.1), .ref c]) ∧ ¬ S c ∧ H c = some (.tup zs) ∧ AtAll S H zs (b.2.map chD) := by
  cases h with
  | tup n e k =>
    cases k with
    | cons h1 k2 =>
      cases k2 with
      | cons h2 k3 =>
        cases k3
        cases h1
        cases h2 with
        | tup n2 e2 k4 => exact ⟨_, _, _, rfl, n, e, n2, e2, k4⟩
/-- the i-th of data that is told by a map -/
theorem AtAll.at_ {α : Type} {S : Av} {H : Hp} {xs : List V} {B : List α} {f : α → PyData} (h : AtAll S H xs (B.map f)) {i : Nat} {x : V} (e : xs[i]? = some x) : ∃ b, B[i]? = some b ∧ At S H x (f b) := by
  obtain ⟨d, h1, h2⟩ := AtAll.get h e
  rw [List.getElem?_map] at h1
  cases q : B[i]? with
  | none =>
    rw [q] at h1
    cases h1
  | some b =>
    rw [q] at h1
    cases h1
    exact ⟨b, rfl, h2⟩
end My
namespace My
open PySem PySem.Spec PyProof.Rows L2
theorem LcS.put {S : Av} {H H1 : Hp} {D : Addr} {xs ys : List V} {ds es : List PyData} (c : LcS S H D xs ds H1) (hy : AtAll (Plus S D) H1 ys es) : LcS S H D ys es (upd H1 D (.lst ys)) := by
  have U : BtS (Plus S D) H1 (upd H1 D (.lst ys)) := BtS.upd (.inr rfl)
  refine ⟨c.fr, fun b o e => ?_, upd_same, AtAll.bt U _ _ hy⟩
  rw [upd_ne (ne_of_none e c.fr)]
  exact c.s b o e
end My
set_option Elab.async false
set_option linter.all false
set_option maxRecDepth 100000
set_option maxHeartbeats 4000000
/-! B8: a comprehension of two for. -/
namespace My
open PySem PySem.Spec PyProof.Rows L2
/-- the inner walk of one turn of the outer one -/
def Turn1 (J1 : It) (g1 : TG) (tt1 : TT) (te : TE) (σ2 : L2.St) (vs1 : List Nat) (D : Addr) (Nx : Hp → Prop) (H4 : Hp) : Prop := ∃ W1 : Nat → Nat → Hp → Prop, (∃ m, W1 0 m H4) ∧ ∀ j k H, W1 j k H →
  (J1.stop j H ∧ Nx H) ∨ (J1.go j H ∧ ∃ Nx1 : Hp → Prop, (∀ H', Nx1 H' → ∃ k', k' < k ∧ W1 (j + 1) k' H') ∧ ∀ x H', J1.yld j H x H' → g1 x (wipe σ2 vs1) H' fun σ3 H5 => wipe σ3 vs1 = wipe σ2 vs1 ∧ tt1 σ3 H5 fun b H6 =>
    if b = true then te σ3 H6 fun y H7 => ∃ acc, H7 D = some (.lst acc) ∧ acc.length < sizeLine ∧ Nx1 (upd H7 D (.lst (acc ++ [y]))) else Nx1 H6)
theorem turn1_it {J1 : It} {n : Nat} {G : Hp → Prop} {Y : Nat → Hp → V → Hp → Prop} (w : Walk J1 n G Y) {g1 : TG} {tt1 : TT} {te : TE} {σ2 : L2.St} {vs1 : List Nat} {D : Addr} {Nx : Hp → Prop} {H4 : Hp} (Pi : Nat → Hp → Prop) (h0 : Pi 0 H4) (hG : ∀ i H, i ≤ n → Pi i H → G H)
    (hs : ∀ j x H H', j < n → Pi j H → Y j H x H' → g1 x (wipe σ2 vs1) H' fun σ3 H5 => wipe σ3 vs1 = wipe σ2 vs1 ∧ tt1 σ3 H5 fun b H6 =>
      if b = true then te σ3 H6 fun y H7 => ∃ acc, H7 D = some (.lst acc) ∧ acc.length < sizeLine ∧ Pi (j + 1) (upd H7 D (.lst (acc ++ [y]))) else Pi (j + 1) H6) (hd : ∀ H, Pi n H → Nx H) : Turn1 J1 g1 tt1 te σ2 vs1 D Nx H4 := by
  refine ⟨fun i m H => m = n - i ∧ i ≤ n ∧ Pi i H, ⟨n, by simp, Nat.zero_le _, h0⟩, ?_⟩
  rintro i m H ⟨rfl, hi, p⟩
  have q := hG i H hi p
  by_cases hlt : i < n
  · exact .inr ⟨w.goes i H hlt q, Pi (i + 1), fun H' p' => ⟨n - (i + 1), by omega, rfl, hlt, p'⟩, fun x H' y => hs i x H H' hlt p (w.yields i H x H' hlt q y)⟩
  · have e : i = n := by omega
    subst e
    exact .inl ⟨w.stops H q, hd H p⟩
theorem lc2_it {J : It} {n : Nat} {G : Hp → Prop} {Y : Nat → Hp → V → Hp → Prop} (w : Walk J n G Y) {wi1 : TI} {g g1 : TG} {tt tt1 : TT} {te : TE} {vs vs1 : List Nat} {σ : L2.St} {H1 : Hp} {D : Addr} {Qd : Hp → Prop} (Pv : Nat → Hp → Prop) (h0 : Pv 0 (upd H1 D (.lst []))) (hG : ∀ i H, i ≤ n → Pv i H → G H)
    (hs : ∀ i x H H', i < n → Pv i H → Y i H x H' → g x (wipe σ vs) H' fun σ2 H2 => wipe σ2 vs = wipe σ vs ∧ tt σ2 H2 fun b H3 => if b = true then wi1 σ2 H3 fun J1 H4 => Turn1 J1 g1 tt1 te σ2 vs1 D (Pv (i + 1)) H4 else Pv (i + 1) H3) (hd : ∀ H, Pv n H → Qd H) :
    ∃ W : Nat → Nat → Hp → Prop, (∃ m, W 0 m (upd H1 D (.lst []))) ∧ ∀ i m H, W i m H →
      (J.stop i H ∧ Qd H) ∨ (J.go i H ∧ ∃ Nx : Hp → Prop, (∀ H', Nx H' → ∃ m', m' < m ∧ W (i + 1) m' H') ∧ ∀ x H', J.yld i H x H' → g x (wipe σ vs) H' fun σ2 H2 => wipe σ2 vs = wipe σ vs ∧ tt σ2 H2 fun b H3 =>
        if b = true then wi1 σ2 H3 fun J1 H4 => Turn1 J1 g1 tt1 te σ2 vs1 D Nx H4 else Nx H3) := by
  refine ⟨fun i m H => m = n - i ∧ i ≤ n ∧ Pv i H, ⟨n, by simp, Nat.zero_le _, h0⟩, ?_⟩
  rintro i m H ⟨rfl, hi, p⟩
  have q := hG i H hi p
  by_cases hlt : i < n
  · exact .inr ⟨w.goes i H hlt q, Pv (i + 1), fun H' p' => ⟨n - (i + 1), by omega, rfl, hlt, p'⟩, fun x H' y => hs i x H H' hlt p (w.yields i H x H' hlt q y)⟩
  · have e : i = n := by omega
    subst e
    exact .inl ⟨w.stops H q, hd H p⟩
end My
namespace My
open PySem PySem.Spec PyProof.Rows L2
section
variable {X : Cx} {K : PySem.W.Frag}
theorem pg_tupK {es : List Expr} {k : Nat} {pos : Pos} {t : TGs} {n : Nat} (e : X.K = K) (hc : X.calm = true) (h : PGs X es t)
    (hn : (assignEach es X.env).length = n := by rfl) (hst : (assignEach es X.env).findIdx? (·.1) = none := by rfl) : PG X (.Tuple es k pos) (gTup K n t) := e ▸ pg_tup hc h hn hst
theorem cr_sumTK (h : X.K = K) (hc : X.calm = true) : CallR X (.builtin "sum") (rSumT K) := h ▸ cr_sumT hc
theorem pi_tupK {tg l : Expr} {tl : TE} (h : X.K = K) (hl : PE X l tl) : PI X tg l (iTup K tl) := h ▸ pi_tup hl
theorem pi_listK {tg l : Expr} {tl : TE} (h : X.K = K) (hl : PE X l tl) : PI X tg l (iList K tl) := h ▸ pi_list hl
end
end My
set_option Elab.async false
set_option linter.all false
set_option maxRecDepth 100000
set_option maxHeartbeats 4000000
/-! B9: dict comprehensions over any walk. -/
namespace My
open PySem PySem.Spec PyProof.Rows L2
theorem dc_it {J : It} {n : Nat} {G : Hp → Prop} {Y : Nat → Hp → V → Hp → Prop} (w : Walk J n G Y) {g : TG} {tt : TT} {tk tv : TE} {vs : List Nat} {σ : L2.St} {H1 : Hp} {D : Addr} {Qd : Hp → Prop} (Pv : Nat → Hp → Prop) (h0 : Pv 0 (upd H1 D (.dK []))) (hG : ∀ i H, i ≤ n → Pv i H → G H)
    (hs : ∀ i x H H', i < n → Pv i H → Y i H x H' → g x (wipe σ vs) H' fun σ2 H2 => wipe σ2 vs = wipe σ vs ∧ tt σ2 H2 fun b H3 =>
      if b = true then tk σ2 H3 fun y H4 => tv σ2 H4 fun z H5 => ∃ kvs k, y = kV k ∧ H5 D = some (.dK kvs) ∧ kvs.length < sizeLine ∧ Pv (i + 1) (upd H5 D (.dK (putK kvs k z))) else Pv (i + 1) H3) (hd : ∀ H, Pv n H → Qd H) :
    ∃ W : Nat → Nat → Hp → Prop, (∃ m, W 0 m (upd H1 D (.dK []))) ∧ ∀ i m H, W i m H →
      (J.stop i H ∧ Qd H) ∨ (J.go i H ∧ ∃ Nx : Hp → Prop, (∀ H', Nx H' → ∃ m', m' < m ∧ W (i + 1) m' H') ∧ ∀ x H', J.yld i H x H' → g x (wipe σ vs) H' fun σ2 H2 => wipe σ2 vs = wipe σ vs ∧ tt σ2 H2 fun b H3 =>
        if b = true then tk σ2 H3 fun y H4 => tv σ2 H4 fun z H5 => ∃ kvs k, y = kV k ∧ H5 D = some (.dK kvs) ∧ kvs.length < sizeLine ∧ Nx (upd H5 D (.dK (putK kvs k z))) else Nx H3) := by
  refine ⟨fun i m H => m = n - i ∧ i ≤ n ∧ Pv i H, ⟨n, by simp, Nat.zero_le _, h0⟩, ?_⟩
  rintro i m H ⟨rfl, hi, p⟩
  have q := hG i H hi p
  by_cases hlt : i < n
  · exact .inr ⟨w.goes i H hlt q, Pv (i + 1), fun H' p' => ⟨n - (i + 1), by omega, rfl, hlt, p'⟩, fun x H' y => hs i x H H' hlt p (w.yields i H x H' hlt q y)⟩
  · have e : i = n := by omega
    subst e
    exact .inl ⟨w.stops H q, hd H p⟩
theorem Occ.upd {S : Av} {H : Hp} {a : Addr} {o : HO} (h : Occ S H) : Occ S (upd H a o) := fun b z e => by
  by_cases q : b = a
  · rw [q, upd_same] at e
    cases e
  · rw [upd_ne q] at e
    exact h b z e
theorem val_no {κ : Type} [DecidableEq κ] {kvs : List (κ × V)} {k : κ} (h : k ∉ kvs.map (·.1)) : valV kvs k = none := by
  unfold valV
  have e : kvs.find? (fun kv => decide (kv.1 = k)) = none := by
    rw [List.find?_eq_none]
    intro kv hk hd
    exact h (List.mem_map.mpr ⟨kv, hk, of_decide_eq_true hd⟩)
  rw [e]
  rfl
theorem nodup_take_not {α : Type} {l : List α} (h : l.Nodup) {i : Nat} {x : α} (e : l[i]? = some x) : x ∉ l.take i := fun z => by
  obtain ⟨j, hj, q⟩ := List.mem_iff_getElem.mp z
  rw [List.length_take] at hj
  rw [List.getElem_take] at q
  have hi : i < l.length := (List.getElem?_eq_some_iff.mp e).1
  have h2 : l[j]? = some x := by rw [List.getElem?_eq_getElem (by omega), q]
  have := (List.getElem?_inj (i := j) (by omega) h).mp (h2.trans e.symm)
  omega
end My
namespace My
open PySem PySem.Spec PyProof.Rows L2
mutual
theorem At.more {p q : Av} {H : Hp} (W : ∀ b, H b ≠ none → q b → p b) : ∀ (d : PyData) (v : V), At p H v d → At q H v d
  | .none, _, h => by cases h; exact .non
  | .bool _, _, h => by cases h; exact .bl _
  | .int _, _, h => by cases h; exact .int _
  | .str _, _, h => by cases h; exact .str _
  | .list ds, _, h => by
    cases h with
    | lst n e k => exact .lst (fun z => n (W _ (by rw [e]; exact fun z => nomatch z) z)) e (AtAll.more W ds _ k)
  | .tuple ds, _, h => by
    cases h with
    | tup n e k => exact .tup (fun z => n (W _ (by rw [e]; exact fun z => nomatch z) z)) e (AtAll.more W ds _ k)
  | .dict _, _, h => by cases h
theorem AtAll.more {p q : Av} {H : Hp} (W : ∀ b, H b ≠ none → q b → p b) : ∀ (ds : List PyData) (vs : List V), AtAll p H vs ds → AtAll q H vs ds
  | [], _, h => by cases h; exact .nil
  | d :: ds, _, h => by
    cases h with
    | cons h1 h2 => exact .cons (At.more W d _ h1) (AtAll.more W ds _ h2)
end
theorem At.plusN {S : Av} {H : Hp} {v : V} {d : PyData} {D : Addr} (h : At S H v d) (g : H D = none) : At (Plus S D) H v d := At.more (fun b n z => z.elim id fun q => absurd (q ▸ g) n) _ _ h
theorem AtAll.plusN {S : Av} {H : Hp} {v : List V} {d : List PyData} {D : Addr} (h : AtAll S H v d) (g : H D = none) : AtAll (Plus S D) H v d := AtAll.more (fun b n z => z.elim id fun q => absurd (q ▸ g) n) _ _ h
end My
set_option Elab.async false
set_option linter.all false
set_option maxRecDepth 100000
set_option maxHeartbeats 4000000
/-! B10: a def with defaults, all arguments given. -/
namespace My
open PySem PySem.Spec PyProof.Rows L2
section
variable {P : Program} {w : World} {K : PySem.W.Frag} {mg : Str → Option Value} {base : Heap}
theorem funD_ok0 {x qual : Str} {st : Stmt} {dvs : List V} {kws : List (Str × V)} {f : Addr} {fd : FuncData} {N ps : List Str} {k : Nat} {sp : Sp} (F : FunD K x qual (defArgs st) (defBody st) (defScope st) dvs kws f fd) (S : FnScope N ps (defScope st)) (len : ∀ vs H Q E, sp vs H Q E → vs.length = ps.length)
    (hbody : ∀ (cdv : Value) (A : Around) (outer : List Env) (s : Shared) (H : Hp) (vs : List V) (Q : VK) (E : XK), Room k (A.deeper (envOfC qual (defScope st) s.heap.objs.size f cdv)) → sp vs H Q E →
      ∃ t, PSs (cxOf CX0 P w K mg base N qual (defScope st) f cdv A outer s H E).nox (defBody st) t ∧ t { nx := fun _ H' => Q .non H', rt := Q } (start N vs) H) : FnOk P w K mg base CX0 (k + 1) f fd ps sp := by
  refine F.ok S len fun cdv A outer s H vs Q E hr hsp => ?_
  obtain ⟨t, h, q⟩ := hbody cdv A outer s H vs Q E hr hsp
  exact ⟨t, h.nox, q⟩
theorem bindsD_all {fd : FuncData} {ps : List Str} {T : Addr} {o : Obj} {its : Array Value} {n : Nat} (lT : K.lookup T = some o) (oT : o.data = .seq its n)
    (h : ∀ us : List Value, us.length = ps.length → ∃ k : Option (Array Value) → Sem (List (Str × Value)), bindArgs fd ⟨us, []⟩ = seqItems? (.ref T) >>= k ∧ k (some its) = pure (ps.zip us)) : Binds K fd ps [] := by
  intro s us X hl
  rw [List.append_nil] at hl ⊢
  obtain ⟨k, e1, e2⟩ := h us hl
  refine BindsTo.of_looks fun M => ?_
  rw [e1]
  exact looks_items X lT oT (PySem.W.Looks.of_pure e2)
end
end My
namespace My
open PySem PySem.Spec PyProof.Rows L2
section
variable {X : Cx} {K : PySem.W.Frag}
theorem pe_fldK {e : Expr} {f : Str} {pos : Pos} {ta : TE} (h : X.K = K) (he : PE X e ta) (hb : attributeBase e f X.env (eval e X.env) = eval e X.env) : PE X (.Attribute e f pos) (tFld K ta f) := h ▸ pe_fld he hb
end
end My
set_option Elab.async false
set_option linter.all false
set_option maxRecDepth 100000
set_option maxHeartbeats 4000000
namespace My
open PySem PySem.Spec PyProof.Rows L2
def topS (i : Nat) : Stmt := PySem.Challenge.pw_bookplaces_k10_whole_each_part_once.main.body.getD i (.Pass ⟨0, 0, 0, 0⟩)
abbrev s_PlaceError___init__ : Stmt := inClass (topS 1) 0
abbrev N_PlaceError___init__ : List Str := ["self", "text"]
theorem sc_PlaceError___init__ : FnScope N_PlaceError___init__ ["self", "text"] (defScope s_PlaceError___init__) := ⟨rfl, rfl, rfl, by decide +kernel, rfl, by decide +kernel, by decide +kernel⟩
abbrev s_LostError___init__ : Stmt := inClass (topS 2) 0
abbrev N_LostError___init__ : List Str := ["self", "text"]
theorem sc_LostError___init__ : FnScope N_LostError___init__ ["self", "text"] (defScope s_LostError___init__) := ⟨rfl, rfl, rfl, by decide +kernel, rfl, by decide +kernel, by decide +kernel⟩
abbrev s_NoNumber___init__ : Stmt := inClass (topS 3) 0
abbrev N_NoNumber___init__ : List Str := ["self", "found"]
theorem sc_NoNumber___init__ : FnScope N_NoNumber___init__ ["self", "found"] (defScope s_NoNumber___init__) := ⟨rfl, rfl, rfl, by decide +kernel, rfl, by decide +kernel, by decide +kernel⟩
abbrev s_NoName___init__ : Stmt := inClass (topS 4) 0
abbrev N_NoName___init__ : List Str := ["self", "found"]
theorem sc_NoName___init__ : FnScope N_NoName___init__ ["self", "found"] (defScope s_NoName___init__) := ⟨rfl, rfl, rfl, by decide +kernel, rfl, by decide +kernel, by decide +kernel⟩
abbrev s_Doubled___init__ : Stmt := inClass (topS 5) 0
abbrev N_Doubled___init__ : List Str := ["self", "found"]
theorem sc_Doubled___init__ : FnScope N_Doubled___init__ ["self", "found"] (defScope s_Doubled___init__) := ⟨rfl, rfl, rfl, by decide +kernel, rfl, by decide +kernel, by decide +kernel⟩
abbrev s_NoEdition___init__ : Stmt := inClass (topS 6) 0
abbrev N_NoEdition___init__ : List Str := ["self", "found"]
theorem sc_NoEdition___init__ : FnScope N_NoEdition___init__ ["self", "found"] (defScope s_NoEdition___init__) := ⟨rfl, rfl, rfl, by decide +kernel, rfl, by decide +kernel, by decide +kernel⟩
abbrev s_TooMany___init__ : Stmt := inClass (topS 7) 0
abbrev N_TooMany___init__ : List Str := ["self", "found"]
theorem sc_TooMany___init__ : FnScope N_TooMany___init__ ["self", "found"] (defScope s_TooMany___init__) := ⟨rfl, rfl, rfl, by decide +kernel, rfl, by decide +kernel, by decide +kernel⟩
abbrev s_NoLines___init__ : Stmt := inClass (topS 8) 0
abbrev N_NoLines___init__ : List Str := ["self", "found"]
theorem sc_NoLines___init__ : FnScope N_NoLines___init__ ["self", "found"] (defScope s_NoLines___init__) := ⟨rfl, rfl, rfl, by decide +kernel, rfl, by decide +kernel, by decide +kernel⟩
abbrev s_NoSpot___init__ : Stmt := inClass (topS 9) 0
abbrev N_NoSpot___init__ : List Str := ["self", "found"]
theorem sc_NoSpot___init__ : FnScope N_NoSpot___init__ ["self", "found"] (defScope s_NoSpot___init__) := ⟨rfl, rfl, rfl, by decide +kernel, rfl, by decide +kernel, by decide +kernel⟩
abbrev s_NoBook___init__ : Stmt := inClass (topS 10) 0
abbrev N_NoBook___init__ : List Str := ["self", "found"]
theorem sc_NoBook___init__ : FnScope N_NoBook___init__ ["self", "found"] (defScope s_NoBook___init__) := ⟨rfl, rfl, rfl, by decide +kernel, rfl, by decide +kernel, by decide +kernel⟩
abbrev s_NoChapter___init__ : Stmt := inClass (topS 11) 0
abbrev N_NoChapter___init__ : List Str := ["self", "found"]
theorem sc_NoChapter___init__ : FnScope N_NoChapter___init__ ["self", "found"] (defScope s_NoChapter___init__) := ⟨rfl, rfl, rfl, by decide +kernel, rfl, by decide +kernel, by decide +kernel⟩
abbrev s_NoVerse___init__ : Stmt := inClass (topS 12) 0
abbrev N_NoVerse___init__ : List Str := ["self", "found"]
theorem sc_NoVerse___init__ : FnScope N_NoVerse___init__ ["self", "found"] (defScope s_NoVerse___init__) := ⟨rfl, rfl, rfl, by decide +kernel, rfl, by decide +kernel, by decide +kernel⟩
abbrev s_NoPart___init__ : Stmt := inClass (topS 13) 0
abbrev N_NoPart___init__ : List Str := ["self", "found"]
theorem sc_NoPart___init__ : FnScope N_NoPart___init__ ["self", "found"] (defScope s_NoPart___init__) := ⟨rfl, rfl, rfl, by decide +kernel, rfl, by decide +kernel, by decide +kernel⟩
abbrev s_is_number : Stmt := topS 17
abbrev N_is_number : List Str := ["thing"]
theorem sc_is_number : FnScope N_is_number ["thing"] (defScope s_is_number) := ⟨rfl, rfl, rfl, by decide +kernel, rfl, by decide +kernel, by decide +kernel⟩
abbrev s_is_whole : Stmt := topS 18
abbrev N_is_whole : List Str := ["thing", "low", "high"]
theorem sc_is_whole : FnScope N_is_whole ["thing", "low", "high"] (defScope s_is_whole) := ⟨rfl, rfl, rfl, by decide +kernel, rfl, by decide +kernel, by decide +kernel⟩
abbrev s_is_name : Stmt := topS 19
abbrev N_is_name : List Str := ["thing"]
theorem sc_is_name : FnScope N_is_name ["thing"] (defScope s_is_name) := ⟨rfl, rfl, rfl, by decide +kernel, rfl, by decide +kernel, by decide +kernel⟩
abbrev s_is_made_of : Stmt := topS 20
abbrev N_is_made_of : List Str := ["thing", "signs", "most", "sign"]
theorem sc_is_made_of : FnScope N_is_made_of ["thing", "signs", "most"] (defScope s_is_made_of) := ⟨rfl, rfl, rfl, by decide +kernel, rfl, by decide +kernel, by decide +kernel⟩
abbrev s_is_tuple : Stmt := topS 21
abbrev N_is_tuple : List Str := ["thing", "fewest", "most"]
theorem sc_is_tuple : FnScope N_is_tuple ["thing", "fewest", "most"] (defScope s_is_tuple) := ⟨rfl, rfl, rfl, by decide +kernel, rfl, by decide +kernel, by decide +kernel⟩
abbrev s_is_row : Stmt := topS 22
abbrev N_is_row : List Str := ["thing", "fewest", "most"]
theorem sc_is_row : FnScope N_is_row ["thing", "fewest", "most"] (defScope s_is_row) := ⟨rfl, rfl, rfl, by decide +kernel, rfl, by decide +kernel, by decide +kernel⟩
abbrev s_Edition___init__ : Stmt := inClass (topS 32) 0
abbrev N_Edition___init__ : List Str := ["self", "books", "lines", "name", "chapters", "number", "line"]
theorem sc_Edition___init__ : FnScope N_Edition___init__ ["self", "books", "lines"] (defScope s_Edition___init__) := ⟨rfl, rfl, rfl, by decide +kernel, rfl, by decide +kernel, by decide +kernel⟩
abbrev s_Edition_names : Stmt := inClass (topS 32) 1
abbrev N_Edition_names : List Str := ["self"]
theorem sc_Edition_names : FnScope N_Edition_names ["self"] (defScope s_Edition_names) := ⟨rfl, rfl, rfl, by decide +kernel, rfl, by decide +kernel, by decide +kernel⟩
abbrev s_Edition_size : Stmt := inClass (topS 32) 2
abbrev N_Edition_size : List Str := ["self"]
theorem sc_Edition_size : FnScope N_Edition_size ["self"] (defScope s_Edition_size) := ⟨rfl, rfl, rfl, by decide +kernel, rfl, by decide +kernel, by decide +kernel⟩
abbrev s_Edition_lines : Stmt := inClass (topS 32) 3
abbrev N_Edition_lines : List Str := ["self"]
theorem sc_Edition_lines : FnScope N_Edition_lines ["self"] (defScope s_Edition_lines) := ⟨rfl, rfl, rfl, by decide +kernel, rfl, by decide +kernel, by decide +kernel⟩
abbrev s_Edition_chapters : Stmt := inClass (topS 32) 4
abbrev N_Edition_chapters : List Str := ["self", "name"]
theorem sc_Edition_chapters : FnScope N_Edition_chapters ["self", "name"] (defScope s_Edition_chapters) := ⟨rfl, rfl, rfl, by decide +kernel, rfl, by decide +kernel, by decide +kernel⟩
abbrev s_Edition_verses : Stmt := inClass (topS 32) 5
abbrev N_Edition_verses : List Str := ["self", "name", "chapter"]
theorem sc_Edition_verses : FnScope N_Edition_verses ["self", "name", "chapter"] (defScope s_Edition_verses) := ⟨rfl, rfl, rfl, by decide +kernel, rfl, by decide +kernel, by decide +kernel⟩
abbrev s_Edition_parts : Stmt := inClass (topS 32) 6
abbrev N_Edition_parts : List Str := ["self", "name", "chapter", "verse", "verses"]
theorem sc_Edition_parts : FnScope N_Edition_parts ["self", "name", "chapter", "verse"] (defScope s_Edition_parts) := ⟨rfl, rfl, rfl, by decide +kernel, rfl, by decide +kernel, by decide +kernel⟩
abbrev s_Edition_line_at : Stmt := inClass (topS 32) 7
abbrev N_Edition_line_at : List Str := ["self", "number"]
theorem sc_Edition_line_at : FnScope N_Edition_line_at ["self", "number"] (defScope s_Edition_line_at) := ⟨rfl, rfl, rfl, by decide +kernel, rfl, by decide +kernel, by decide +kernel⟩
abbrev s_Edition_part_of : Stmt := inClass (topS 32) 8
abbrev N_Edition_part_of : List Str := ["self", "thing"]
theorem sc_Edition_part_of : FnScope N_Edition_part_of ["self", "thing"] (defScope s_Edition_part_of) := ⟨rfl, rfl, rfl, by decide +kernel, rfl, by decide +kernel, by decide +kernel⟩
abbrev s_Edition_told : Stmt := inClass (topS 32) 9
abbrev N_Edition_told : List Str := ["self"]
theorem sc_Edition_told : FnScope N_Edition_told ["self"] (defScope s_Edition_told) := ⟨rfl, rfl, rfl, by decide +kernel, rfl, by decide +kernel, by decide +kernel⟩
abbrev s_Edition_same : Stmt := inClass (topS 32) 10
abbrev N_Edition_same : List Str := ["self", "thing"]
theorem sc_Edition_same : FnScope N_Edition_same ["self", "thing"] (defScope s_Edition_same) := ⟨rfl, rfl, rfl, by decide +kernel, rfl, by decide +kernel, by decide +kernel⟩
abbrev s_Edition_stretch : Stmt := inClass (topS 32) 11
abbrev N_Edition_stretch : List Str := ["self", "spot"]
theorem sc_Edition_stretch : FnScope N_Edition_stretch ["self", "spot"] (defScope s_Edition_stretch) := ⟨rfl, rfl, rfl, by decide +kernel, rfl, by decide +kernel, by decide +kernel⟩
abbrev s_Edition_number : Stmt := inClass (topS 32) 12
abbrev N_Edition_number : List Str := ["self", "spot", "first", "_"]
theorem sc_Edition_number : FnScope N_Edition_number ["self", "spot"] (defScope s_Edition_number) := ⟨rfl, rfl, rfl, by decide +kernel, rfl, by decide +kernel, by decide +kernel⟩
abbrev s_Edition_place : Stmt := inClass (topS 32) 13
abbrev N_Edition_place : List Str := ["self", "number"]
theorem sc_Edition_place : FnScope N_Edition_place ["self", "number"] (defScope s_Edition_place) := ⟨rfl, rfl, rfl, by decide +kernel, rfl, by decide +kernel, by decide +kernel⟩
abbrev s_Edition_verse_of : Stmt := inClass (topS 32) 14
abbrev N_Edition_verse_of : List Str := ["self", "number"]
theorem sc_Edition_verse_of : FnScope N_Edition_verse_of ["self", "number"] (defScope s_Edition_verse_of) := ⟨rfl, rfl, rfl, by decide +kernel, rfl, by decide +kernel, by decide +kernel⟩
abbrev s_Edition_begins : Stmt := inClass (topS 32) 15
abbrev N_Edition_begins : List Str := ["self", "number", "spot"]
theorem sc_Edition_begins : FnScope N_Edition_begins ["self", "number"] (defScope s_Edition_begins) := ⟨rfl, rfl, rfl, by decide +kernel, rfl, by decide +kernel, by decide +kernel⟩
abbrev s_Edition_ends : Stmt := inClass (topS 32) 16
abbrev N_Edition_ends : List Str := ["self", "number", "spot"]
theorem sc_Edition_ends : FnScope N_Edition_ends ["self", "number"] (defScope s_Edition_ends) := ⟨rfl, rfl, rfl, by decide +kernel, rfl, by decide +kernel, by decide +kernel⟩
abbrev s_Edition__book : Stmt := inClass (topS 32) 17
abbrev N_Edition__book : List Str := ["self", "name"]
theorem sc_Edition__book : FnScope N_Edition__book ["self", "name"] (defScope s_Edition__book) := ⟨rfl, rfl, rfl, by decide +kernel, rfl, by decide +kernel, by decide +kernel⟩
abbrev s_Edition__chapter : Stmt := inClass (topS 32) 18
abbrev N_Edition__chapter : List Str := ["self", "name", "chapter", "chapters"]
theorem sc_Edition__chapter : FnScope N_Edition__chapter ["self", "name", "chapter"] (defScope s_Edition__chapter) := ⟨rfl, rfl, rfl, by decide +kernel, rfl, by decide +kernel, by decide +kernel⟩
abbrev s_Edition__spots_around : Stmt := inClass (topS 32) 19
abbrev N_Edition__spots_around : List Str := ["self", "number", "place", "many"]
theorem sc_Edition__spots_around : FnScope N_Edition__spots_around ["self", "number"] (defScope s_Edition__spots_around) := ⟨rfl, rfl, rfl, by decide +kernel, rfl, by decide +kernel, by decide +kernel⟩
abbrev s_Edition__check_number : Stmt := inClass (topS 32) 20
abbrev N_Edition__check_number : List Str := ["self", "number"]
theorem sc_Edition__check_number : FnScope N_Edition__check_number ["self", "number"] (defScope s_Edition__check_number) := ⟨rfl, rfl, rfl, by decide +kernel, rfl, by decide +kernel, by decide +kernel⟩
abbrev s_Edition__check_spot : Stmt := inClass (topS 32) 21
abbrev N_Edition__check_spot : List Str := ["self", "spot", "many"]
theorem sc_Edition__check_spot : FnScope N_Edition__check_spot ["self", "spot"] (defScope s_Edition__check_spot) := ⟨rfl, rfl, rfl, by decide +kernel, rfl, by decide +kernel, by decide +kernel⟩
abbrev s_kept_books : Stmt := topS 33
abbrev N_kept_books : List Str := ["books", "kept", "book", "names", "name", "chapters"]
theorem sc_kept_books : FnScope N_kept_books ["books"] (defScope s_kept_books) := ⟨rfl, rfl, rfl, by decide +kernel, rfl, by decide +kernel, by decide +kernel⟩
abbrev s_kept_book : Stmt := topS 34
abbrev N_kept_book : List Str := ["book", "names", "name", "chapters", "chapter"]
theorem sc_kept_book : FnScope N_kept_book ["book", "names"] (defScope s_kept_book) := ⟨rfl, rfl, rfl, by decide +kernel, rfl, by decide +kernel, by decide +kernel⟩
abbrev s_kept_chapter : Stmt := topS 35
abbrev N_kept_chapter : List Str := ["chapter", "parts"]
theorem sc_kept_chapter : FnScope N_kept_chapter ["chapter"] (defScope s_kept_chapter) := ⟨rfl, rfl, rfl, by decide +kernel, rfl, by decide +kernel, by decide +kernel⟩
abbrev s_check_counts : Stmt := topS 36
abbrev N_check_counts : List Str := ["books", "counts", "parts", "name", "chapters", "chapter"]
theorem sc_check_counts : FnScope N_check_counts ["books"] (defScope s_check_counts) := ⟨rfl, rfl, rfl, by decide +kernel, rfl, by decide +kernel, by decide +kernel⟩
abbrev s_kept_lines : Stmt := topS 37
abbrev N_kept_lines : List Str := ["lines", "size", "taken", "pair", "line"]
theorem sc_kept_lines : FnScope N_kept_lines ["lines", "size"] (defScope s_kept_lines) := ⟨rfl, rfl, rfl, by decide +kernel, rfl, by decide +kernel, by decide +kernel⟩
abbrev s_lines_of_pair : Stmt := topS 38
abbrev N_lines_of_pair : List Str := ["pair", "first", "many"]
theorem sc_lines_of_pair : FnScope N_lines_of_pair ["pair"] (defScope s_lines_of_pair) := ⟨rfl, rfl, rfl, by decide +kernel, rfl, by decide +kernel, by decide +kernel⟩
abbrev s_fewest_pairs : Stmt := topS 39
abbrev N_fewest_pairs : List Str := ["lines", "pairs", "line", "first", "many"]
theorem sc_fewest_pairs : FnScope N_fewest_pairs ["lines"] (defScope s_fewest_pairs) := ⟨rfl, rfl, rfl, by decide +kernel, rfl, by decide +kernel, by decide +kernel⟩
abbrev s_places_in : Stmt := topS 40
abbrev N_places_in : List Str := ["books", "places", "name", "chapters", "chapter", "verses", "verse", "parts", "part"]
theorem sc_places_in : FnScope N_places_in ["books"] (defScope s_places_in) := ⟨rfl, rfl, rfl, by decide +kernel, rfl, by decide +kernel, by decide +kernel⟩
abbrev s_stretches_of : Stmt := topS 41
abbrev N_stretches_of : List Str := ["places", "stretches", "number", "place", "many", "spot", "first"]
theorem sc_stretches_of : FnScope N_stretches_of ["places"] (defScope s_stretches_of) := ⟨rfl, rfl, rfl, by decide +kernel, rfl, by decide +kernel, by decide +kernel⟩
abbrev s__law_cell : Stmt := topS 43
abbrev N__law_cell : List Str := ["script", "k"]
theorem sc__law_cell : FnScope N__law_cell ["script", "k"] (defScope s__law_cell) := ⟨rfl, rfl, rfl, by decide +kernel, rfl, by decide +kernel, by decide +kernel⟩
abbrev s__law_box : Stmt := topS 44
abbrev N__law_box : List Str := ["cell"]
theorem sc__law_box : FnScope N__law_box ["cell"] (defScope s__law_box) := ⟨rfl, rfl, rfl, by decide +kernel, rfl, by decide +kernel, by decide +kernel⟩
abbrev s__law_take : Stmt := topS 45
abbrev N__law_take : List Str := ["box", "many", "digit", "number"]
theorem sc__law_take : FnScope N__law_take ["box", "many"] (defScope s__law_take) := ⟨rfl, rfl, rfl, by decide +kernel, rfl, by decide +kernel, by decide +kernel⟩
abbrev s__law_names : Stmt := topS 46
abbrev N__law_names : List Str := ["box", "many", "letters", "names", "k", "stem", "word", "at", "letter"]
theorem sc__law_names : FnScope N__law_names ["box", "many"] (defScope s__law_names) := ⟨rfl, rfl, rfl, by decide +kernel, rfl, by decide +kernel, by decide +kernel⟩
abbrev s__law_shapes : Stmt := topS 47
abbrev N__law_shapes : List Str := ["box", "way", "one", "counts", "c", "count", "v", "k"]
theorem sc__law_shapes : FnScope N__law_shapes ["box"] (defScope s__law_shapes) := ⟨rfl, rfl, rfl, by decide +kernel, rfl, by decide +kernel, by decide +kernel⟩
abbrev s__law_verses : Stmt := topS 48
abbrev N__law_verses : List Str := ["box", "v"]
theorem sc__law_verses : FnScope N__law_verses ["box"] (defScope s__law_verses) := ⟨rfl, rfl, rfl, by decide +kernel, rfl, by decide +kernel, by decide +kernel⟩
abbrev s__law_pairs : Stmt := topS 49
abbrev N__law_pairs : List Str := ["box", "size", "way", "most", "parts", "left", "at", "stretches", "many", "rise", "pairs", "first"]
theorem sc__law_pairs : FnScope N__law_pairs ["box", "size"] (defScope s__law_pairs) := ⟨rfl, rfl, rfl, by decide +kernel, rfl, by decide +kernel, by decide +kernel⟩
abbrev s__law_lines : Stmt := topS 50
abbrev N__law_lines : List Str := ["pairs", "size", "laid", "first", "many"]
theorem sc__law_lines : FnScope N__law_lines ["pairs", "size"] (defScope s__law_lines) := ⟨rfl, rfl, rfl, by decide +kernel, rfl, by decide +kernel, by decide +kernel⟩
abbrev s__law_size : Stmt := topS 51
abbrev N__law_size : List Str := ["shapes", "verses", "chapters"]
theorem sc__law_size : FnScope N__law_size ["shapes"] (defScope s__law_size) := ⟨rfl, rfl, rfl, by decide +kernel, rfl, by decide +kernel, by decide +kernel⟩
abbrev s__law_beneath : Stmt := topS 52
abbrev N__law_beneath : List Str := ["edition", "spot"]
theorem sc__law_beneath : FnScope N__law_beneath ["edition", "spot"] (defScope s__law_beneath) := ⟨rfl, rfl, rfl, by decide +kernel, rfl, by decide +kernel, by decide +kernel⟩
abbrev s__law_laid : Stmt := topS 53
abbrev N__law_laid : List Str := ["edition", "spots", "first", "last", "at", "spot", "told"]
theorem sc__law_laid : FnScope N__law_laid ["edition", "spots", "first", "last"] (defScope s__law_laid) := ⟨rfl, rfl, rfl, by decide +kernel, rfl, by decide +kernel, by decide +kernel⟩
abbrev s__law_all_spots : Stmt := topS 54
abbrev N__law_all_spots : List Str := ["edition", "level", "found", "deep", "beneath", "spot", "inner", "told", "name", "k"]
theorem sc__law_all_spots : FnScope N__law_all_spots ["edition"] (defScope s__law_all_spots) := ⟨rfl, rfl, rfl, by decide +kernel, rfl, by decide +kernel, by decide +kernel⟩
abbrev s__law_right : Stmt := topS 55
abbrev N__law_right : List Str := ["edition", "size", "spots", "begin", "end", "spot", "first", "last", "number", "again", "told", "place", "k"]
theorem sc__law_right : FnScope N__law_right ["edition", "size"] (defScope s__law_right) := ⟨rfl, rfl, rfl, by decide +kernel, rfl, by decide +kernel, by decide +kernel⟩
abbrev s_law : Stmt := topS 56
abbrev N_law : List Str := ["script", "k", "box", "shapes", "size", "books", "edition", "told", "one", "name", "chapters"]
theorem sc_law : FnScope N_law ["script"] (defScope s_law) := ⟨rfl, rfl, rfl, by decide +kernel, rfl, by decide +kernel, by decide +kernel⟩
/-- what the top leaves: names that are not its own, constants -/
structure Txt (K : PySem.W.Frag) (mg : Str → Option Value) : Prop where
  b_LookupError : mg "LookupError" = none
  b_ValueError : mg "ValueError" = none
  b_all : mg "all" = none
  b_bool : mg "bool" = none
  b_enumerate : mg "enumerate" = none
  b_int : mg "int" = none
  b_isinstance : mg "isinstance" = none
  b_len : mg "len" = none
  b_list : mg "list" = none
  b_max : mg "max" = none
  b_min : mg "min" = none
  b_range : mg "range" = none
  b_repr : mg "repr" = none
  b_str : mg "str" = none
  b_sum : mg "sum" = none
  b_tuple : mg "tuple" = none
  b_zip : mg "zip" = none
  g_LAST_LINE : ∃ u, mg "LAST_LINE" = some u ∧ RelV (.int 9999) u
  g_LONGEST_NAME : ∃ u, mg "LONGEST_NAME" = some u ∧ RelV (.int 6) u
  g_MOST_BOOKS : ∃ u, mg "MOST_BOOKS" = some u ∧ RelV (.int 6) u
  g_MOST_BOOK_CHAPTERS : ∃ u, mg "MOST_BOOK_CHAPTERS" = some u ∧ RelV (.int 12) u
  g_MOST_CHAPTERS : ∃ u, mg "MOST_CHAPTERS" = some u ∧ RelV (.int 40) u
  g_MOST_PAIRS : ∃ u, mg "MOST_PAIRS" = some u ∧ RelV (.int 400) u
  g_MOST_PARTS : ∃ u, mg "MOST_PARTS" = some u ∧ RelV (.int 400) u
  g_MOST_VERSES : ∃ u, mg "MOST_VERSES" = some u ∧ RelV (.int 30) u
  g_MOST_VERSE_PARTS : ∃ u, mg "MOST_VERSE_PARTS" = some u ∧ RelV (.int 4) u
  g_SMALL_LETTERS : ∃ u, mg "SMALL_LETTERS" = some u ∧ RelV (.str "abcdefghijklmnopqrstuvwxyz") u
end My
set_option Elab.async false
set_option linter.all false
set_option maxRecDepth 100000
set_option maxHeartbeats 4000000
namespace My
open PySem PySem.Spec PyProof.Rows L2
def isNum : V → Bool
  | .int _ => true
  | _ => false
def sp_num (K : PySem.W.Frag) : Sp := fun vs H Q _ => ∃ x : V, vs = [x] ∧ Th K H x ∧ Q (.bl (isNum x)) H
def sp_isTup : Sp := fun vs H Q _ => ∃ (a : Addr) (xs : List V) (lo hi : Int), vs = [.ref a, .int lo, .int hi] ∧ H a = some (.tup xs) ∧ Q (.bl (decide (lo ≤ (xs.length : Int)) && decide ((xs.length : Int) ≤ hi))) H
def sp_isRow : Sp := fun vs H Q _ => ∃ (a : Addr) (xs : List V) (lo hi : Int), vs = [.ref a, .int lo, .int hi] ∧ Rw H a xs ∧ ∀ H', Same H H' → Q (.bl (decide (lo ≤ (xs.length : Int)) && decide ((xs.length : Int) ≤ hi))) H'
section
variable {P : Program} {w : World} {K : PySem.W.Frag} {mg : Str → Option Value} {base : Heap}
theorem ok_isNum (T : Txt K mg) (D : Df K mg "is_number" s_is_number ["thing"]) : Cl P w K mg base 1 "is_number" ["thing"] (sp_num K) := by
  refine ok_of D sc_is_number (fun vs H Q E h => ?_) (fun f cdv A outer s H vs Q E hr h => ?_)
  · obtain ⟨x, rfl, _⟩ := h
    rfl
  · obtain ⟨x, rfl, hx, q⟩ := h
    refine ⟨_, (pss_one (ps_ret (pe_and (pe_callB call_isb (by rfl) T.b_isinstance (by decide +kernel) (pa_cons (pv 0) (pa_cons (pe_bltn (v := .ty "int") (u := .type "int") (by rfl) T.b_int (by decide +kernel) rfl) pa_nil))) (pe_one (pe_not (pe_callB call_isb (by rfl) T.b_isinstance (by decide +kernel) (pa_cons (pv 0) (pa_cons (pe_bltn (v := .ty "bool") (u := .type "bool") (by rfl) T.b_bool (by decide +kernel) rfl) pa_nil)))))))), ?_⟩
    refine ⟨x, rfl, hx.int? ⟨_, rfl, ite2 (fun e => ?_) (fun e => ?_)⟩⟩
    · refine ⟨x, rfl, hx.bl? ⟨_, rfl, ?_⟩⟩
      have e2 : isNum x = !vBl x := by
        cases x with
        | int i => rfl
        | bl b => rfl
        | _ => exact absurd e Bool.false_ne_true
      exact e2 ▸ q
    · have e2 : isNum x = false := by
        cases x with
        | int i => exact absurd rfl e
        | _ => rfl
      exact e2 ▸ q
theorem ok_whole (T : Txt K mg) (c_is_number : Cl P w K mg base 1 "is_number" ["thing"] (sp_num K)) (D : Df K mg "is_whole" s_is_whole ["thing", "low", "high"]) : Cl P w K mg base 2 "is_whole" ["thing", "low", "high"] (sp_whole K) := by
  refine ok_of D sc_is_whole (fun vs H Q E h => ?_) (fun f cdv A outer s H vs Q E hr h => ?_)
  · obtain ⟨p, n, z, rfl, _⟩ := h
    rfl
  · obtain ⟨x, lo, hi, rfl, hx, q⟩ := h
    refine ⟨_, (pss_one (ps_ret (pe_and (pe_cl c_is_number hr (by decide) (by rfl) (pa_cons (pv 0) pa_nil)) (pe_one (pe_chain op_le op_le (pv 1) (pv 0) (pv 2)))))), ?_⟩
    have qf : whole x lo hi = false → Q (.bl false) H := fun e => e ▸ q
    refine ⟨x, rfl, x, rfl, hx, _, rfl, ite2 (fun e => ?_) (fun e => ?_)⟩
    · cases x with
      | int i =>
        refine ⟨.int lo, rfl, .int i, rfl, lo, i, rfl, rfl, _, rfl, ite2 (fun e3 => ?_) (fun e3 => ?_)⟩
        · refine ⟨.int hi, rfl, i, hi, rfl, rfl, ?_⟩
          have e4 : whole (.int i) lo hi = decide (i ≤ hi) := by
            show (decide (lo ≤ i) && decide (i ≤ hi)) = _
            rw [e3, Bool.true_and]
          show Q (.bl (decide (i ≤ hi))) H
          rw [← e4]
          exact q
        · refine qf ?_
          show (decide (lo ≤ i) && decide (i ≤ hi)) = _
          rw [Bool.eq_false_iff.mpr e3, Bool.false_and]
      | _ => exact absurd e Bool.false_ne_true
    · refine qf ?_
      cases x with
      | int i => exact absurd rfl e
      | _ => rfl
theorem ok_made (T : Txt K mg) (D : Df K mg "is_made_of" s_is_made_of ["thing", "signs", "most"]) : Cl P w K mg base 2 "is_made_of" ["thing", "signs", "most"] (sp_made K) := by
  refine ok_of D sc_is_made_of (fun vs H Q E h => ?_) (fun f cdv A outer s H vs Q E hr h => ?_)
  · obtain ⟨x, rfl, _⟩ := h
    rfl
  · obtain ⟨x, rfl, hx, q⟩ := h
    refine ⟨_, (pss_one (ps_ret (pe_and (pe_callB call_isb (by rfl) T.b_isinstance (by decide +kernel) (pa_cons (pv 0) (pa_cons (pe_bltn (v := .ty "str") (u := .type "str") (by rfl) T.b_str (by decide +kernel) rfl) pa_nil))) (pe_and (pe_chain op_le op_le pe_int (pe_callB call_len (by rfl) T.b_len (by decide +kernel) (pa_cons (pv 0) pa_nil)) (pv 2)) (pe_one (pe_callB (cr_all rfl) (by rfl) T.b_all (by decide +kernel) (pa_cons (pe_lc (own := [("sign", 3)]) rfl sc_is_made_of.nd (pi_str (pv 0)) (blkOk_by (own := [("sign", 3)]) (N := N_is_made_of) (sc := defScope s_is_made_of) (by decide +kernel)) (fun _ _ _ _ _ => (pg_name (i := 3) sc_is_made_of.nd rfl (.inl rfl))) (fun _ _ _ _ _ => pts_nil) (fun _ _ _ _ _ => (pe_cmpR op_in_sign (pv 3) (pv 1) rfl))) pa_nil))))))), ?_⟩
    have qf : ∀ H', Same H H' → nameV x = false → Q (.bl false) H' := fun H' s e => e ▸ q H' s
    refine ⟨x, rfl, hx.str? ⟨_, rfl, ite2 (fun e => ?_) (fun e => ?_)⟩⟩
    · obtain ⟨l, rfl, hl, ha⟩ := hx.str_of e
      refine ⟨.str (SX.S l), rfl, _, _, rfl, ⟨S_le hl, rfl⟩, 1, _, rfl, rfl, _, rfl, ite2 (fun e2 => ?_) (fun e2 => ?_)⟩
      · have f2 := of_decide_eq_true e2
        rw [SX.S_len] at f2
        refine ⟨.int 6, rfl, _, 6, rfl, rfl, _, rfl, ite2 (fun e3 => ?_) (fun e3 => ?_)⟩
        · have f3 := of_decide_eq_true e3
          rw [SX.S_len] at f3
          refine ⟨.str (SX.S l), rfl, _, rfl, fun Dl hDl => ?_⟩
          refine lc_it walk_str (fun i H' => Same H H' ∧ H' Dl = some (.lst ((l.take i).map fun c => .bl (decide (c ∈ letters26))))) ⟨same_new hDl, upd_same⟩ (fun _ _ _ _ => trivial) ?_ ?_
          · rintro i x H1 H2 hi ⟨hs, hD⟩ ⟨rfl, c, hc, rfl⟩
            refine ⟨rfl, .str ⟨#[c]⟩, rfl, .str "abcdefghijklmnopqrstuvwxyz", rfl, c, _, rfl, rfl, _, hD, ?_, ?_, ?_⟩
            · rw [List.length_map, List.length_take]
              exact Evl.sz_lt (by omega)
            · exact fun b o e => by
                rw [upd_ne (ne_of_none e hDl)]
                exact hs b o e
            · have hc' : l[i]? = some c := by
                rw [← hc]
                simp
              rw [upd_same, List.take_add_one, hc', List.map_append]
              rfl
          · rintro H1 ⟨hs, hD⟩
            have hsz : (SX.S l).cps.size = l.length := SX.S_len l
            rw [hsz, List.take_length] at hD
            refine ⟨Dl, l.map fun c => decide (c ∈ letters26), rfl, .inl (.inl (by rw [hD, List.map_map]; rfl)), ?_⟩
            have e5 : nameV (.str (SX.S l)) = (l.map fun c => decide (c ∈ letters26)).all id := by
              rw [nameV_S]
              unfold nameL
              rw [decide_eq_true (by omega), decide_eq_true (by omega), List.all_map]
              rfl
            exact e5 ▸ q H1 hs
        · refine qf H (Same.refl H) ?_
          rw [nameV_S]
          unfold nameL
          have f3 : ¬ l.length ≤ 6 := fun z => e3 (decide_eq_true (by rw [SX.S_len]; omega))
          rw [decide_eq_false f3, Bool.and_false, Bool.false_and]
      · refine ⟨_, rfl, ite2 (fun z => absurd z (by decide)) fun _ => qf H (Same.refl H) ?_⟩
        rw [nameV_S]
        unfold nameL
        have f3 : ¬ 1 ≤ l.length := fun z => e2 (decide_eq_true (by rw [SX.S_len]; omega))
        rw [decide_eq_false f3, Bool.false_and, Bool.false_and]
    · exact qf H (Same.refl H) (nameV_no e)
theorem ok_name (T : Txt K mg) (c_is_made_of : Cl P w K mg base 2 "is_made_of" ["thing", "signs", "most"] (sp_made K)) (D : Df K mg "is_name" s_is_name ["thing"]) : Cl P w K mg base 3 "is_name" ["thing"] (sp_name K) := by
  refine ok_of D sc_is_name (fun vs H Q E h => ?_) (fun f cdv A outer s H vs Q E hr h => ?_)
  · obtain ⟨x, rfl, _⟩ := h
    rfl
  · obtain ⟨x, rfl, hx, q⟩ := h
    refine ⟨_, (pss_one (ps_ret (pe_cl c_is_made_of hr (by decide) (by rfl) (pa_cons (pv 0) (pa_cons (C8.pe_gc (by rfl) T.g_SMALL_LETTERS) (pa_cons (C8.pe_gc (by rfl) T.g_LONGEST_NAME) pa_nil)))))), ?_⟩
    exact ⟨x, rfl, x, rfl, hx, q⟩
theorem ok_isTup (T : Txt K mg) (D : Df K mg "is_tuple" s_is_tuple ["thing", "fewest", "most"]) : Cl P w K mg base 2 "is_tuple" ["thing", "fewest", "most"] sp_isTup := by
  refine ok_of D sc_is_tuple (fun vs H Q E h => ?_) (fun f cdv A outer s H vs Q E hr h => ?_)
  · obtain ⟨a, xs, lo, hi, rfl, _⟩ := h
    rfl
  · obtain ⟨a, xs, lo, hi, rfl, ha, q⟩ := h
    refine ⟨_, (pss_one (ps_ret (pe_and (pe_callB call_isb (by rfl) T.b_isinstance (by decide +kernel) (pa_cons (pv 0) (pa_cons (pe_bltn (v := .ty "tuple") (u := .type "tuple") (by rfl) T.b_tuple (by decide +kernel) rfl) pa_nil))) (pe_one (pe_chain op_le op_le (pv 1) (pe_callB call_len (by rfl) T.b_len (by decide +kernel) (pa_cons (pv 0) pa_nil)) (pv 2)))))), ?_⟩
    refine ⟨.ref a, rfl, isi_b (b := true) (.tup ha) (by decide +kernel) ⟨_, rfl, ite2 (fun _ => ?_) (fun z => absurd rfl z)⟩⟩
    refine ⟨.int lo, rfl, .ref a, rfl, _, _, rfl, .inr ⟨_, .inl (.inl ha), rfl⟩, lo, _, rfl, rfl, _, rfl, ite2 (fun e => ?_) (fun e => ?_)⟩
    · refine ⟨.int hi, rfl, _, _, rfl, rfl, ?_⟩
      rw [e, Bool.true_and] at q
      exact q
    · rw [Bool.eq_false_iff.mpr e, Bool.false_and] at q
      exact q
theorem ok_isRow (T : Txt K mg) (D : Df K mg "is_row" s_is_row ["thing", "fewest", "most"]) : Cl P w K mg base 2 "is_row" ["thing", "fewest", "most"] sp_isRow := by
  refine ok_of D sc_is_row (fun vs H Q E h => ?_) (fun f cdv A outer s H vs Q E hr h => ?_)
  · obtain ⟨a, xs, lo, hi, rfl, _⟩ := h
    rfl
  · obtain ⟨a, xs, lo, hi, rfl, ha, q⟩ := h
    refine ⟨_, (pss_one (ps_ret (pe_and (pe_callB call_isiT (by rfl) T.b_isinstance (by decide +kernel) (pa_cons (pv 0) (pa_cons (pe_tup (pa_cons (pe_bltn (v := .ty "list") (u := .type "list") (by rfl) T.b_list (by decide +kernel) rfl) (pa_cons (pe_bltn (v := .ty "tuple") (u := .type "tuple") (by rfl) T.b_tuple (by decide +kernel) rfl) pa_nil))) pa_nil))) (pe_one (pe_chain op_le op_le (pv 1) (pe_callB call_len (by rfl) T.b_len (by decide +kernel) (pa_cons (pv 0) pa_nil)) (pv 2)))))), ?_⟩
    refine ⟨.ref a, rfl, by show 2 ≤ sizeLine; decide, fun t ht => ?_⟩
    have S1 := same_new (o := .tup [.ty "list", .ty "tuple"]) ht
    obtain ⟨ty, h1, h2⟩ := row_kit (K := K) (ha.same S1)
    refine ⟨.ref a, t, _, ty, _, true, rfl, upd_same, two_ty, h1, h2, _, rfl, ite2 (fun _ => ?_) (fun z => absurd rfl z)⟩
    refine ⟨.int lo, rfl, .ref a, rfl, ?_⟩
    obtain ⟨b, hq⟩ := (ha.same S1).sq (K := K)
    refine ⟨_, _, rfl, hq.lenV, lo, _, rfl, rfl, _, rfl, ite2 (fun e => ?_) (fun e => ?_)⟩
    · refine ⟨.int hi, rfl, _, _, rfl, rfl, ?_⟩
      have q := q _ S1
      rw [e, Bool.true_and] at q
      exact q
    · have q := q _ S1
      rw [Bool.eq_false_iff.mpr e, Bool.false_and] at q
      exact q
end
end My
set_option Elab.async false
set_option linter.all false
set_option maxRecDepth 100000
set_option maxHeartbeats 4000000
namespace My
open PySem PySem.Spec PyProof.Rows L2
def bookD (b : List (List Int)) : PyData := .list (b.map rowD)
def shD (S : List (List (List Int))) : PyData := .list (S.map bookD)
structure okRow (c : List Int) : Prop where
  l0 : 1 ≤ c.length
  l1 : c.length ≤ 30
  x : ∀ x ∈ c, 1 ≤ x ∧ x ≤ 4
structure okSh (S : List (List (List Int))) : Prop where
  s0 : 1 ≤ S.length
  s1 : S.length ≤ 6
  b : ∀ b ∈ S, 1 ≤ b.length ∧ b.length ≤ 12 ∧ ∀ c ∈ b, okRow c
  chs : (S.map List.length).sum ≤ 40
  prs : (S.map fun b => (b.map List.sum).sum).sum ≤ 400
def sp_verses : Sp := fun vs H Q _ => ∃ (p : Addr) (n : Nat), vs = [.ref p] ∧ Box n H p ∧ n ≤ 990000 ∧ ∀ (ns : List Int) (a : Addr) H', 1 ≤ ns.length → ns.length ≤ 4 → (∀ x ∈ ns, 1 ≤ x ∧ x ≤ 4) → Dr p (n + 5) H H' → H a = none → H' a = some (.lst (ns.map V.int)) → Q (.ref a) H'
def sp_shapes : Sp := fun vs H Q _ => ∃ (p : Addr) (n : Nat), vs = [.ref p] ∧ Box n H p ∧ n ≤ 900000 ∧ ∀ (S : List (List (List Int))) (a : Addr) H', okSh S → At (O1 p) H' (.ref a) (shD S) → Dr p (n + 400) H H' → Q (.ref a) H'
section
variable {P : Program} {w : World} {K : PySem.W.Frag} {mg : Str → Option Value} {base : Heap}
theorem ok_verses (T : Txt K mg) (c__law_take : Cl P w K mg base 2 "_law_take" ["box", "many"] sp_take) (D : Df K mg "_law_verses" s__law_verses ["box"]) : Cl P w K mg base 3 "_law_verses" ["box"] sp_verses := by
  refine ok_of D sc__law_verses (fun vs H Q E h => ?_) (fun f cdv A outer s H vs Q E hr h => ?_)
  · obtain ⟨p, n, rfl, _⟩ := h
    rfl
  · obtain ⟨p, n, rfl, hb, hn, q⟩ := h
    refine ⟨_, (pss_one (ps_ret (pe_lc (own := [("v", 1)]) rfl sc__law_verses.nd (pi_range1 (by rfl) T.b_range (pa_cons (pe_op op_add pe_int (pe_cl c__law_take hr (by decide) (by rfl) (pa_cons (pv 0) (pa_cons pe_int pa_nil)))) pa_nil)) (blkOk_by (own := [("v", 1)]) (N := N__law_verses) (sc := defScope s__law_verses) (by decide +kernel)) (fun _ _ _ _ _ => (pg_name (i := 1) sc__law_verses.nd rfl (.inl rfl))) (fun _ _ _ _ _ => pts_nil) (fun _ _ _ _ _ => (pe_ix (ix_listK (K := K) rfl) (pe_lst (pa_cons pe_int (pa_cons pe_int (pa_cons pe_int (pa_cons pe_int (pa_cons pe_int (pa_cons pe_int pa_nil))))))) (pe_cl c__law_take hr (by decide) (by rfl) (pa_cons (pv 0) (pa_cons pe_int pa_nil))) (fun _ _ => rfl)))))), ?_⟩
    refine ⟨.ref p, rfl, p, n, 4, rfl, hb, by omega, by decide, by decide, fun d1 H1 d1a d1b D1 => ⟨1, d1, rfl, rfl, _, rfl, by omega, by omega, fun Dl hDl => ?_⟩⟩
    refine lc_range (lo := 0) (n := (1 + d1).toNat) (fun i H' => ∃ ns : List Int, ns.length = i ∧ (∀ x ∈ ns, 1 ≤ x ∧ x ≤ 4) ∧ LcD p (n + 1 + i) H1 Dl (ns.map V.int) H') ⟨[], rfl, (fun _ z => nomatch z), LcD.start D1.box hDl⟩ ?_ ?_
    · rintro i H2 hi ⟨ns, el, ea, L⟩
      refine ⟨rfl, by show 6 ≤ sizeLine; decide, fun l hl => ?_⟩
      refine ⟨.ref p, rfl, p, n + 1 + i, 6, rfl, (L.dr.new hl).box, by omega, by decide, by decide, fun d H3 da db D3 => ?_⟩
      obtain ⟨z, hz, mz⟩ := ix_int (ns := [1, 1, 2, 1, 3, 4]) da db
      have hz2 : 1 ≤ z ∧ z ≤ 4 := by
        simp only [List.mem_cons, List.not_mem_nil, or_false] at mz
        omega
      have D4 : Dr p (n + 1 + i + 1) H2 H3 := ((Dr.refl L.dr.box).new hl).trans D3
      have L2 := L.keep D4
      have hl2 : H3 l = some (.lst ([1, 1, 2, 1, 3, 4].map V.int)) := D3.bt l _ (L.dr.box.ne hl).symm upd_same
      refine ⟨l, _, d, .int z, rfl, rfl, .inl (.inl hl2), hz, _, L2.at_, ?_, ns ++ [z], ?_, ?_, ?_⟩
      · rw [List.length_map]
        exact sz1000 (by omega)
      · rw [List.length_append, el]
        rfl
      · intro x hx
        rcases List.mem_append.mp hx with hx | hx
        · exact ea x hx
        · rw [List.mem_singleton.mp hx]
          exact hz2
      · have := L2.step (.int z)
        rw [List.map_append]
        exact this
    · rintro H2 ⟨ns, el, ea, L⟩
      have fr : H Dl = none := by
        cases e : H Dl with
        | none => rfl
        | some o =>
          have z := D1.bt Dl o (D1.box.ne hDl).symm e
          rw [hDl] at z
          cases z
      exact q ns Dl H2 (by omega) (by omega) ea ((D1.trans L.dr).mono (by omega)) fr L.at_
end
end My
set_option Elab.async false
set_option linter.all false
set_option maxRecDepth 100000
set_option maxHeartbeats 4000000
namespace My
open PySem PySem.Spec PyProof.Rows L2
local macro_rules | `(tactic| walk_at "hp") => `(tactic| repeat (first | with_reducible exact upd_same | with_reducible assumption | refine same_new (by assumption) _ _ ?_))
local macro_rules | `(tactic| walk_at "dr") => `(tactic| repeat (first | with_reducible assumption | refine Dr.new ?_ (by assumption)))
theorem rep_int (k : Nat) (z : Int) : (List.replicate k [V.int z]).flatten = (List.replicate k z).map V.int := by
  induction k with
  | zero => rfl
  | succ k ih =>
    rw [List.replicate_succ, List.flatten_cons, ih, List.replicate_succ]
    rfl
theorem sum10a : ∀ b : List (List Int), (∀ r ∈ b, r.sum = 10) → (b.map List.sum).sum = 10 * (b.length : Int)
  | [], _ => rfl
  | r :: b, h => by
    rw [List.map_cons, List.sum_cons, sum10a b fun x hx => h x (List.mem_cons_of_mem _ hx), h r (List.mem_cons_self ..), List.length_cons]
    omega
theorem sum10 : ∀ S : List (List (List Int)), (∀ b ∈ S, ∀ r ∈ b, r.sum = 10) → (S.map fun b => (b.map List.sum).sum).sum = 10 * ((S.map List.length).sum : Nat)
  | [], _ => rfl
  | b :: S, h => by
    rw [List.map_cons, List.sum_cons, sum10 S fun x hx => h x (List.mem_cons_of_mem _ hx), sum10a b (h b (List.mem_cons_self ..)), List.map_cons, List.sum_cons]
    omega
theorem okSh_way0 {S : List (List (List Int))} {cs : List Int} (sl : S.map List.length = cs.map Int.toNat) (sr : ∀ b ∈ S, ∀ r ∈ b, okRow r ∧ r.sum = 10) (cl0 : 1 ≤ cs.length) (cl1 : cs.length ≤ 6) (csum : (cs.map Int.toNat).sum = 40) (cx : ∀ x ∈ cs, 1 ≤ x ∧ x ≤ 12) : okSh S := by
  have el : S.length = cs.length := by
    have := congrArg List.length sl
    rwa [List.length_map, List.length_map] at this
  refine ⟨by omega, by omega, fun b hb => ?_, by rw [sl, csum]; exact Nat.le_refl _, ?_⟩
  · have hm : b.length ∈ S.map List.length := List.mem_map_of_mem hb
    rw [sl] at hm
    obtain ⟨x, hx, e⟩ := List.mem_map.mp hm
    have := cx x hx
    exact ⟨by omega, by omega, fun c hc => (sr b hb c hc).1⟩
  · rw [sum10 S fun b hb r hr => (sr b hb r hr).2, sl, csum]
    decide
theorem sum_le (k : Int) : ∀ r : List Int, (∀ x ∈ r, x ≤ k) → r.sum ≤ k * r.length
  | [], _ => by simp
  | x :: r, h => by
    have h1 := h x (List.mem_cons_self ..)
    have h2 := sum_le k r fun y hy => h y (List.mem_cons_of_mem _ hy)
    rw [List.sum_cons, List.length_cons]
    have e : k * ((r.length + 1 : Nat) : Int) = k * (r.length : Int) + k := by
      rw [Int.natCast_add, Int.mul_add]
      simp
    omega
theorem okSh_small {S : List (List (List Int))} (s0 : 1 ≤ S.length) (s1 : S.length ≤ 6) (h : ∀ b ∈ S, 1 ≤ b.length ∧ b.length ≤ 3 ∧ ∀ c ∈ b, 1 ≤ c.length ∧ c.length ≤ 4 ∧ ∀ x ∈ c, 1 ≤ x ∧ x ≤ 4) : okSh S := by
  refine ⟨s0, s1, fun b hb => ⟨(h b hb).1, by have := (h b hb).2.1; omega, fun c hc => ⟨((h b hb).2.2 c hc).1, by have := ((h b hb).2.2 c hc).2.1; omega, ((h b hb).2.2 c hc).2.2⟩⟩, ?_, ?_⟩
  · have key : ∀ T : List (List (List Int)), (∀ b ∈ T, b.length ≤ 3) → (T.map List.length).sum ≤ 3 * T.length := by
      intro T
      induction T with
      | nil => intro _; simp
      | cons b T ih =>
        intro k
        have := ih fun x hx => k x (List.mem_cons_of_mem _ hx)
        have := k b (List.mem_cons_self ..)
        rw [List.map_cons, List.sum_cons, List.length_cons]
        omega
    have := key S fun b hb => (h b hb).2.1
    omega
  · have key1 : ∀ b : List (List Int), (∀ c ∈ b, c.length ≤ 4 ∧ ∀ x ∈ c, x ≤ 4) → (b.map List.sum).sum ≤ 16 * (b.length : Int) := by
      intro b
      induction b with
      | nil => intro _; simp
      | cons c b ih =>
        intro k
        have h1 := ih fun x hx => k x (List.mem_cons_of_mem _ hx)
        obtain ⟨k1, k2⟩ := k c (List.mem_cons_self ..)
        have h2 := sum_le 4 c k2
        rw [List.map_cons, List.sum_cons, List.length_cons]
        omega
    have key : ∀ T : List (List (List Int)), (∀ b ∈ T, b.length ≤ 3 ∧ ∀ c ∈ b, c.length ≤ 4 ∧ ∀ x ∈ c, x ≤ 4) → (T.map fun b => (b.map List.sum).sum).sum ≤ 48 * (T.length : Int) := by
      intro T
      induction T with
      | nil => intro _; simp
      | cons b T ih =>
        intro k
        have h1 := ih fun x hx => k x (List.mem_cons_of_mem _ hx)
        obtain ⟨k1, k2⟩ := k b (List.mem_cons_self ..)
        have h2 := key1 b k2
        rw [List.map_cons, List.sum_cons, List.length_cons]
        omega
    have := key S fun b hb => ⟨(h b hb).2.1, fun c hc => ⟨((h b hb).2.2 c hc).2.1, fun x hx => (((h b hb).2.2 c hc).2.2 x hx).2⟩⟩
    omega
section
variable {P : Program} {w : World} {K : PySem.W.Frag} {mg : Str → Option Value} {base : Heap}
theorem ok_shapes (T : Txt K mg) (c__law_take : Cl P w K mg base 2 "_law_take" ["box", "many"] sp_take) (c__law_verses : Cl P w K mg base 3 "_law_verses" ["box"] sp_verses) (D : Df K mg "_law_shapes" s__law_shapes ["box"]) : Cl P w K mg base 4 "_law_shapes" ["box"] sp_shapes := by
  refine ok_of D sc__law_shapes (fun vs H Q E h => ?_) (fun f cdv A outer s H vs Q E hr h => ?_)
  · obtain ⟨p, n, rfl, _⟩ := h
    rfl
  · obtain ⟨p, n, rfl, hb, hn, q⟩ := h
    refine ⟨_, (pss_cons (ps_set (i := 1) sc__law_shapes.nd rfl (.inl rfl) (pe_cl c__law_take hr (by decide) (by rfl) (pa_cons (pv 0) (pa_cons pe_int pa_nil))))
      (pss_cons (ps_if (pt_cmpR op_eq (pv 1) pe_int (nomark _)) (pss_cons (ps_set (i := 2) sc__law_shapes.nd rfl (.inr rfl) (pe_ix ix_list (pe_lst (pa_cons (pe_lst (pa_cons pe_int (pa_cons pe_int (pa_cons pe_int pa_nil)))) (pa_cons (pe_op op_rep (pe_lst (pa_cons pe_int pa_nil)) pe_int) (pa_cons (pe_lst (pa_cons pe_int (pa_cons pe_int (pa_cons pe_int (pa_cons pe_int pa_nil))))) (pa_cons (pe_op op_rep (pe_lst (pa_cons pe_int pa_nil)) pe_int) pa_nil))))) (pe_cl c__law_take hr (by decide) (by rfl) (pa_cons (pv 0) (pa_cons pe_int pa_nil))) (fun _ _ => rfl)))
        (pss_cons (ps_set (i := 3) sc__law_shapes.nd rfl (.inl rfl) (pe_ix ix_list (pe_lst (pa_cons (pe_lst (pa_cons pe_int (pa_cons pe_int (pa_cons pe_int (pa_cons pe_int (pa_cons pe_int (pa_cons pe_int pa_nil))))))) (pa_cons (pe_lst (pa_cons pe_int (pa_cons pe_int (pa_cons pe_int (pa_cons pe_int (pa_cons pe_int (pa_cons pe_int pa_nil))))))) (pa_cons (pe_lst (pa_cons pe_int (pa_cons pe_int (pa_cons pe_int (pa_cons pe_int pa_nil))))) (pa_cons (pe_op op_rep (pe_lst (pa_cons pe_int pa_nil)) pe_int) pa_nil))))) (pe_cl c__law_take hr (by decide) (by rfl) (pa_cons (pv 0) (pa_cons pe_int pa_nil))) (fun _ _ => rfl)))
        (pss_one (ps_ret (pe_lc (own := [("count", 5)]) rfl sc__law_shapes.nd (pi_list (pv 3)) (blkOk_by (own := [("count", 5)]) (N := N__law_shapes) (sc := defScope s__law_shapes) (by decide +kernel)) (fun _ _ _ _ _ => (pg_name (i := 5) sc__law_shapes.nd rfl (.inl rfl))) (fun _ _ _ _ _ => pts_nil) (fun _ _ _ _ _ => (pe_lc (own := [("c", 4)]) rfl sc__law_shapes.nd (pi_range1 (by rfl) T.b_range (pa_cons (pv 5) pa_nil)) (blkOk_by (own := [("c", 4)]) (N := N__law_shapes) (by kernel_rfl)) (fun _ _ _ _ _ => (pg_name (i := 4) sc__law_shapes.nd rfl (.inl rfl))) (fun _ _ _ _ _ => pts_nil) (fun _ _ _ _ _ => (pe_stepLK (K := K) rfl (pv 2) (po_some (pe_op op_sub pe_int (pe_op op_mul pe_int (pe_cl c__law_take hr (by decide) (by rfl) (pa_cons (pv 0) (pa_cons pe_int pa_nil))))))))))))))) pss_nil)
      (pss_cons (ps_if (pt_cmpR op_eq (pv 1) pe_int (nomark _)) (pss_one (ps_ret (pe_lst (pa_cons (pe_lst (pa_cons (pe_op op_rep (pe_lst (pa_cons pe_int pa_nil)) pe_int) (pa_cons (pe_op op_rep (pe_lst (pa_cons pe_int pa_nil)) pe_int) pa_nil))) (pa_cons (pe_lst (pa_cons (pe_op op_rep (pe_lst (pa_cons pe_int pa_nil)) pe_int) (pa_cons (pe_op op_rep (pe_lst (pa_cons pe_int pa_nil)) pe_int) pa_nil))) pa_nil))))) pss_nil)
      (pss_cons (ps_if (pt_cmpR op_eq (pv 1) pe_int (nomark _)) (pss_one (ps_ret (pe_lst (pa_cons (pe_lst (pa_cons (pe_lc (own := [("v", 6)]) rfl sc__law_shapes.nd (pi_range1 (by rfl) T.b_range (pa_cons pe_int pa_nil)) (blkOk_by (own := [("v", 6)]) (N := N__law_shapes) (sc := defScope s__law_shapes) (by decide +kernel)) (fun _ _ _ _ _ => (pg_name (i := 6) sc__law_shapes.nd rfl (.inl rfl))) (fun _ _ _ _ _ => pts_nil) (fun _ _ _ _ _ => (pe_op op_add pe_int (pe_cl c__law_take hr (by decide) (by rfl) (pa_cons (pv 0) (pa_cons pe_int pa_nil)))))) (pa_cons (pe_lst (pa_cons pe_int pa_nil)) pa_nil))) (pa_cons (pe_lst (pa_cons (pe_op op_rep (pe_lst (pa_cons (pe_op op_add pe_int (pe_cl c__law_take hr (by decide) (by rfl) (pa_cons (pv 0) (pa_cons pe_int pa_nil)))) pa_nil)) pe_int) pa_nil)) pa_nil))))) pss_nil)
      (pss_cons (ps_setLc (i := 3) (own := [("k", 7)]) rfl sc__law_shapes.nd rfl rfl (sw_true rfl rfl rfl (by decide +kernel)) (pi_range1 (by rfl) T.b_range (pa_cons (pe_ix ix_list (pe_lst (pa_cons (pe_op op_add pe_int (pe_cl c__law_take hr (by decide) (by rfl) (pa_cons (pv 0) (pa_cons pe_int pa_nil)))) (pa_cons pe_int pa_nil))) (pe_callTy call_int1 (by rfl) T.b_int (by decide +kernel) (pa_cons (pe_cmpR op_eq (pv 1) pe_int (nomark _)) pa_nil)) (fun _ _ => rfl)) pa_nil)) (blkOk_by (own := [("k", 7)]) (N := N__law_shapes) (sc := defScope s__law_shapes) (by decide +kernel)) (fun _ _ _ _ _ => (pg_name (i := 7) sc__law_shapes.nd rfl (.inl rfl))) (fun _ _ _ _ _ => pts_nil) (fun _ _ _ _ _ => (pe_op op_add pe_int (pe_cl c__law_take hr (by decide) (by rfl) (pa_cons (pv 0) (pa_cons pe_int pa_nil))))))
      (pss_one (ps_ret (pe_lc (own := [("count", 5)]) rfl sc__law_shapes.nd (pi_list (pv 3)) (blkOk_by (own := [("count", 5)]) (N := N__law_shapes) (sc := defScope s__law_shapes) (by decide +kernel)) (fun _ _ _ _ _ => (pg_name (i := 5) sc__law_shapes.nd rfl (.inl rfl))) (fun _ _ _ _ _ => pts_nil) (fun _ _ _ _ _ => (pe_lc (own := [("c", 4)]) rfl sc__law_shapes.nd (pi_range1 (by rfl) T.b_range (pa_cons (pv 5) pa_nil)) (blkOk_by (own := [("c", 4)]) (N := N__law_shapes) (by kernel_rfl)) (fun _ _ _ _ _ => (pg_name (i := 4) sc__law_shapes.nd rfl (.inl rfl))) (fun _ _ _ _ _ => pts_nil) (fun _ _ _ _ _ => (pe_cl c__law_verses hr (by decide) (by rfl) (pa_cons (pv 0) pa_nil))))))))))))), ?_⟩
    refine ⟨.ref p, rfl, p, n, 12, rfl, hb, by omega, by decide, by decide, fun way H1 w0 w1 D1 => ?_⟩
    refine ⟨_, rfl, rfl, _, rfl, ite2 (fun e => ?_) (fun e => ?_)⟩
    · -- one
      refine ⟨by show 3 ≤ sizeLine; decide, fun a1 h1 => ⟨by show 1 ≤ sizeLine; decide, fun b1 g1 => ⟨b1, 10, _, rfl, rfl, upd_same, by decide, by decide, by show 1 * 10 ≤ sizeLine; decide, fun a2 h2 => ⟨by show 4 ≤ sizeLine; decide, fun a3 h3 => ⟨by show 1 ≤ sizeLine; decide, fun b2 g2 => ⟨b2, 5, _, rfl, rfl, upd_same, by decide, by decide, by show 1 * 5 ≤ sizeLine; decide, fun a4 h4 => ⟨by show 4 ≤ sizeLine; decide, fun l hl => ?_⟩⟩⟩⟩⟩⟩⟩
      refine ⟨.ref p, rfl, p, n + 1, 4, rfl, Dr.box (H := H) (by walk_at "dr"), by omega, by decide, by decide, fun d2 H2 d2a d2b D2 => ?_⟩
      have DA : Dr p (n + 1 + 1) H H2 := Dr.trans (n := n + 1) (by walk_at "dr") D2
      have E1 : H2 a1 = some (.lst [.int 4, .int 4, .int 2]) := D2.bt a1 _ (Box.ne (Dr.box (H := H) (n := n + 1) (by walk_at "dr")) h1).symm (by walk_at "hp")
      have E2 : H2 a2 = some (.lst (List.replicate (10 : Int).toNat [V.int 1]).flatten) := D2.bt a2 _ (Box.ne (Dr.box (H := H) (n := n + 1) (by walk_at "dr")) h2).symm (by walk_at "hp")
      have E3 : H2 a3 = some (.lst [.int 3, .int 3, .int 3, .int 1]) := D2.bt a3 _ (Box.ne (Dr.box (H := H) (n := n + 1) (by walk_at "dr")) h3).symm (by walk_at "hp")
      have E4 : H2 a4 = some (.lst (List.replicate (5 : Int).toNat [V.int 2]).flatten) := D2.bt a4 _ (Box.ne (Dr.box (H := H) (n := n + 1) (by walk_at "dr")) h4).symm (by walk_at "hp")
      have E5 : H2 l = some (.lst [.ref a1, .ref a2, .ref a3, .ref a4]) := D2.bt l _ (Box.ne (Dr.box (H := H) (n := n + 1) (by walk_at "dr")) hl).symm (by walk_at "hp")
      obtain ⟨v, hv, hm⟩ := ix_some [V.ref a1, .ref a2, .ref a3, .ref a4] d2a d2b
      have h1v : ∃ (a : Addr) (row : List Int), v = .ref a ∧ a ≠ p ∧ H2 a = some (.lst (row.map V.int)) ∧ okRow row ∧ row.sum = 10 := by
        simp only [List.mem_cons, List.not_mem_nil, or_false] at hm
        rcases hm with rfl | rfl | rfl | rfl
        · exact ⟨_, [4, 4, 2], rfl, (Box.ne (Dr.box (H := H) (n := n + 1) (by walk_at "dr")) h1).symm, E1, ⟨by decide, by decide, by decide⟩, by decide⟩
        · exact ⟨_, List.replicate 10 1, rfl, (Box.ne (Dr.box (H := H) (n := n + 1) (by walk_at "dr")) h2).symm, E2, ⟨by decide, by decide, by decide⟩, by decide⟩
        · exact ⟨_, [3, 3, 3, 1], rfl, (Box.ne (Dr.box (H := H) (n := n + 1) (by walk_at "dr")) h3).symm, E3, ⟨by decide, by decide, by decide⟩, by decide⟩
        · exact ⟨_, List.replicate 5 2, rfl, (Box.ne (Dr.box (H := H) (n := n + 1) (by walk_at "dr")) h4).symm, E4, ⟨by decide, by decide, by decide⟩, by decide⟩
      obtain ⟨a, row, rfl, na, ea, okr, sr'⟩ := h1v
      refine ⟨l, _, d2, _, rfl, rfl, .inl (.inl E5), hv, ?_⟩
      clear E1 E2 E3 E4 E5 hv hm
      -- counts
      refine ⟨by show 6 ≤ sizeLine; decide, fun c1 k1 => ⟨by show 6 ≤ sizeLine; decide, fun c2 k2 => ⟨by show 4 ≤ sizeLine; decide, fun c3 k3 => ⟨by show 1 ≤ sizeLine; decide, fun b3 g3 => ⟨b3, 4, _, rfl, rfl, upd_same, by decide, by decide, by show 1 * 4 ≤ sizeLine; decide, fun c4 k4 => ⟨by show 4 ≤ sizeLine; decide, fun l' hl' => ?_⟩⟩⟩⟩⟩⟩
      refine ⟨.ref p, rfl, p, n + 1 + 1, 4, rfl, Dr.box (H := H) (by walk_at "dr"), by omega, by decide, by decide, fun d3 H3 d3a d3b D3 => ?_⟩
      have DB : Dr p (n + 1 + 1 + 1) H2 H3 := Dr.trans (n := n + 1 + 1) (by have := Dr.refl DA.box; walk_at "dr") D3
      have DC := DA.trans DB
      have bb : Dr p (n + 1 + 1) H2 H2 := Dr.refl DA.box
      have F1 : H3 c1 = some (.lst [.int 12, .int 12, .int 12, .int 2, .int 1, .int 1]) := D3.bt c1 _ (Box.ne (Dr.box (H := H2) (n := n + 1 + 1) (by walk_at "dr")) k1).symm (by walk_at "hp")
      have F2 : H3 c2 = some (.lst [.int 7, .int 7, .int 7, .int 7, .int 6, .int 6]) := D3.bt c2 _ (Box.ne (Dr.box (H := H2) (n := n + 1 + 1) (by walk_at "dr")) k2).symm (by walk_at "hp")
      have F3 : H3 c3 = some (.lst [.int 12, .int 4, .int 12, .int 12]) := D3.bt c3 _ (Box.ne (Dr.box (H := H2) (n := n + 1 + 1) (by walk_at "dr")) k3).symm (by walk_at "hp")
      have F4 : H3 c4 = some (.lst (List.replicate (4 : Int).toNat [V.int 10]).flatten) := D3.bt c4 _ (Box.ne (Dr.box (H := H2) (n := n + 1 + 1) (by walk_at "dr")) k4).symm (by walk_at "hp")
      have F5 : H3 l' = some (.lst [.ref c1, .ref c2, .ref c3, .ref c4]) := D3.bt l' _ (Box.ne (Dr.box (H := H2) (n := n + 1 + 1) (by walk_at "dr")) hl').symm (by walk_at "hp")
      obtain ⟨v, hv, hm⟩ := ix_some [V.ref c1, .ref c2, .ref c3, .ref c4] d3a d3b
      have h1v : ∃ (c : Addr) (cs : List Int), v = .ref c ∧ c ≠ p ∧ H3 c = some (.lst (cs.map V.int)) ∧ 1 ≤ cs.length ∧ cs.length ≤ 6 ∧ (cs.map Int.toNat).sum = 40 ∧ ∀ x ∈ cs, 1 ≤ x ∧ x ≤ 12 := by
        simp only [List.mem_cons, List.not_mem_nil, or_false] at hm
        rcases hm with rfl | rfl | rfl | rfl
        · exact ⟨_, [12, 12, 12, 2, 1, 1], rfl, (Box.ne (Dr.box (H := H2) (n := n + 1 + 1) (by walk_at "dr")) k1).symm, F1, by decide, by decide, by decide, by decide⟩
        · exact ⟨_, [7, 7, 7, 7, 6, 6], rfl, (Box.ne (Dr.box (H := H2) (n := n + 1 + 1) (by walk_at "dr")) k2).symm, F2, by decide, by decide, by decide, by decide⟩
        · exact ⟨_, [12, 4, 12, 12], rfl, (Box.ne (Dr.box (H := H2) (n := n + 1 + 1) (by walk_at "dr")) k3).symm, F3, by decide, by decide, by decide, by decide⟩
        · exact ⟨_, [10, 10, 10, 10], rfl, (Box.ne (Dr.box (H := H2) (n := n + 1 + 1) (by walk_at "dr")) k4).symm, F4, by decide, by decide, by decide, by decide⟩
      obtain ⟨c, cs, rfl, nc, ec, cl0, cl1, csum, cx⟩ := h1v
      refine ⟨l', _, d3, _, rfl, rfl, .inl (.inl F5), hv, ?_⟩
      have ea3 : H3 a = some (.lst (row.map V.int)) := DB.bt a _ na ea
      clear F1 F2 F3 F4 F5 hv hm bb DB
      -- the rows
      refine ⟨.ref c, rfl, c, rfl, ⟨_, .inl (.inl ec)⟩, fun Dl hDl => ?_⟩
      refine lc_it (walk_list (xs := cs.map V.int)) (fun i H' => ∃ (rows : List V) (S : List (List (List Int))), LcA (O1 p) p (n + 3 + 12 * i) H3 Dl rows (S.map bookD) H' ∧ S.map List.length = (cs.take i).map Int.toNat ∧ ∀ b ∈ S, ∀ r ∈ b, okRow r ∧ r.sum = 10)
        ⟨[], [], LcA.start DC.box hDl, rfl, fun _ z => nomatch z⟩ (fun i H' _ ⟨rows, S, L, _⟩ => .inl (.inl (L.l.dr.bt _ _ nc ec))) ?_ ?_
      · rintro i x H4 H4' hi ⟨rows, S, L, sl, sr⟩ ⟨rfl, hx⟩
        rw [List.length_map] at hi
        have hci : cs[i]? = some cs[i] := List.getElem?_eq_getElem hi
        rw [List.getElem?_map, hci] at hx
        cases hx
        have cb := cx cs[i] (List.getElem_mem hi)
        refine ⟨rfl, _, rfl, _, rfl, by omega, by omega, fun D2 hD2 => ?_⟩
        have nD2 : ¬ Plus (O1 p) Dl D2 := fun z => z.elim (fun z => (L.l.dr.box.ne hD2) z.symm) fun z => ne_of_none L.l.at_ hD2 z.symm
        refine lc_range (lo := 0) (n := cs[i].toNat) (fun j H' => ∃ (rs : List V) (B : List (List Int)), LcA (Plus (O1 p) Dl) p (n + 3 + 12 * i + j) H4' D2 rs (B.map rowD) H' ∧ B.length = j ∧ ∀ r ∈ B, okRow r ∧ r.sum = 10)
          ⟨[], [], LcA.start L.l.dr.box hD2, rfl, fun _ z => nomatch z⟩ ?_ ?_
        · rintro j H5 hj ⟨rs, B, L5, bl, br⟩
          refine ⟨rfl, .ref a, rfl, .ref p, rfl, p, n + 3 + 12 * i + j, 2, rfl, L5.l.dr.box, by omega, by decide, by decide, fun d H6 da db D6 => ?_⟩
          have ea6 : H6 a = some (.lst (row.map V.int)) := D6.bt a _ na (L5.l.dr.bt a _ na (L.l.dr.bt a _ na ea3))
          refine ⟨2, d, rfl, rfl, .inl (by decide), 1, _, rfl, rfl, _, rfl, a, _, _, rfl, rfl, .inl (.inl ea6), by omega, fun q2 hq2 => ?_⟩
          have e7 : ∃ row', (if 1 - 2 * d = 1 then row.map V.int else (row.map V.int).reverse) = row'.map V.int ∧ okRow row' ∧ row'.sum = 10 := by
            split
            · exact ⟨row, rfl, okr, sr'⟩
            · refine ⟨row.reverse, (List.map_reverse ..).symm, ⟨by rw [List.length_reverse]; exact okr.l0, by rw [List.length_reverse]; exact okr.l1, fun x hx => okr.x x (List.mem_reverse.mp hx)⟩, ?_⟩
              rw [List.sum_reverse]
              exact sr'
          obtain ⟨row', er, ok', sr7⟩ := e7
          rw [er]
          have L6 := L5.l.keep D6
          have D7 : Dr p (n + 3 + 12 * i + j + 1) H5 (upd H6 q2 (.lst (row'.map V.int))) := D6.new hq2
          have nq : ¬ Plus (Plus (O1 p) Dl) D2 q2 := fun z => z.elim (fun z => z.elim (fun z => D6.box.ne hq2 z.symm) fun z => ne_of_none (D6.bt _ _ L.l.ne (L5.l.dr.bt _ _ L.l.ne L.l.at_)) hq2 z.symm) fun z => ne_of_none L6.at_ hq2 z.symm
          refine ⟨rs, upd_old hq2 L6.at_, ?_, rs ++ [.ref q2], B ++ [row'], ?_, ?_, ?_⟩
          · rw [L5.len, List.length_map]
            exact sz1000 (by omega)
          · rw [List.map_append]
            exact (L5.step (.inl rfl) D7 (At.ofrow nq upd_same)).mono (by omega)
          · rw [List.length_append, bl]
            rfl
          · intro r hr'
            rcases List.mem_append.mp hr' with hr' | hr'
            · exact br r hr'
            · rw [List.mem_singleton.mp hr']
              exact ⟨ok', sr7⟩
        · rintro H5 ⟨rs, B, L5, bl, br⟩
          have L6 := L.l.keep L5.l.dr
          refine ⟨rows, L6.at_, ?_, rows ++ [.ref D2], S ++ [B], ?_, ?_, ?_⟩
          · rw [L.len, List.length_map]
            have := congrArg List.length sl
            rw [List.length_map, List.length_map, List.length_take] at this
            exact sz1000 (by omega)
          · rw [List.map_append]
            exact (L.step rfl L5.l.dr (L5.done nD2)).mono (by omega)
          · rw [List.map_append, sl, List.take_add_one, hci, List.map_append]
            show _ ++ [B.length] = _ ++ [cs[i].toNat]
            rw [bl]
          · intro b hb'
            rcases List.mem_append.mp hb' with hb' | hb'
            · exact sr b hb'
            · rw [List.mem_singleton.mp hb']
              exact br
      · rintro H4 ⟨rows, S, L, sl, sr⟩
        rw [List.length_map, List.take_length] at sl
        rw [List.length_map] at L
        exact q S Dl H4 (okSh_way0 sl sr cl0 cl1 csum cx) (L.done (fun z => L.l.ne z)) ((DC.trans L.l.dr).mono (by omega))
    · refine ⟨_, rfl, rfl, _, rfl, ite2 (fun e2 => ?_) (fun e2 => ?_)⟩
      · -- way 1
        refine ⟨by show 1 ≤ sizeLine; decide, fun b1 g1 => ⟨b1, 30, _, rfl, rfl, upd_same, by decide, by decide, by show 1 * 30 ≤ sizeLine; decide, fun x1 k1 => ⟨by show 1 ≤ sizeLine; decide, fun b2 g2 => ⟨b2, 30, _, rfl, rfl, upd_same, by decide, by decide, by show 1 * 30 ≤ sizeLine; decide, fun x2 k2 => ⟨by show 2 ≤ sizeLine; decide, fun y1 m1 => ?_⟩⟩⟩⟩⟩
        refine ⟨by show 1 ≤ sizeLine; decide, fun b3 g3 => ⟨b3, 30, _, rfl, rfl, upd_same, by decide, by decide, by show 1 * 30 ≤ sizeLine; decide, fun x3 k3 => ⟨by show 1 ≤ sizeLine; decide, fun b4 g4 => ⟨b4, 10, _, rfl, rfl, upd_same, by decide, by decide, by show 1 * 10 ≤ sizeLine; decide, fun x4 k4 => ⟨by show 2 ≤ sizeLine; decide, fun y2 m2 => ⟨by show 2 ≤ sizeLine; decide, fun z mz => ?_⟩⟩⟩⟩⟩⟩
        refine q [[List.replicate 30 4, List.replicate 30 4], [List.replicate 30 4, List.replicate 10 4]] z _ ⟨by decide, by decide, ?_, by decide, by decide⟩ ?_ (Dr.mono (n := n + 1) (by walk_at "dr") (by omega))
        · have r30 : okRow (List.replicate 30 4) := ⟨by decide, by decide, by decide⟩
          have r10 : okRow (List.replicate 10 4) := ⟨by decide, by decide, by decide⟩
          intro b hb'
          simp only [List.mem_cons, List.not_mem_nil, or_false] at hb'
          rcases hb' with rfl | rfl
          · refine ⟨by decide, by decide, fun c hc => ?_⟩
            simp only [List.mem_cons, List.not_mem_nil, or_false] at hc
            rcases hc with rfl | rfl <;> exact r30
          · refine ⟨by decide, by decide, fun c hc => ?_⟩
            simp only [List.mem_cons, List.not_mem_nil, or_false] at hc
            rcases hc with rfl | rfl
            · exact r30
            · exact r10
        · have n1 : x1 ≠ p := (Box.ne (Dr.box (H := H) (n := n + 1) (by walk_at "dr")) k1).symm
          have n2 : x2 ≠ p := (Box.ne (Dr.box (H := H) (n := n + 1) (by walk_at "dr")) k2).symm
          have n3 : x3 ≠ p := (Box.ne (Dr.box (H := H) (n := n + 1) (by walk_at "dr")) k3).symm
          have n4 : x4 ≠ p := (Box.ne (Dr.box (H := H) (n := n + 1) (by walk_at "dr")) k4).symm
          have n5 : y1 ≠ p := (Box.ne (Dr.box (H := H) (n := n + 1) (by walk_at "dr")) m1).symm
          have n6 : y2 ≠ p := (Box.ne (Dr.box (H := H) (n := n + 1) (by walk_at "dr")) m2).symm
          have n7 : z ≠ p := (Box.ne (Dr.box (H := H) (n := n + 1) (by walk_at "dr")) mz).symm
          refine .lst n7 (xs := [.ref y1, .ref y2]) (by walk_at "hp") (.cons ?_ (.cons ?_ .nil))
          · refine .lst n5 (xs := [.ref x1, .ref x2]) (by walk_at "hp") (.cons (At.ofrow (ns := List.replicate 30 4) n1 ?_) (.cons (At.ofrow (ns := List.replicate 30 4) n2 ?_) .nil))
            · show _ = some (HO.lst (List.replicate (30 : Int).toNat [V.int 4]).flatten)
              walk_at "hp"
            · show _ = some (HO.lst (List.replicate (30 : Int).toNat [V.int 4]).flatten)
              walk_at "hp"
          · refine .lst n6 (xs := [.ref x3, .ref x4]) (by walk_at "hp") (.cons (At.ofrow (ns := List.replicate 30 4) n3 ?_) (.cons (At.ofrow (ns := List.replicate 10 4) n4 ?_) .nil))
            · show _ = some (HO.lst (List.replicate (30 : Int).toNat [V.int 4]).flatten)
              walk_at "hp"
            · show _ = some (HO.lst (List.replicate (10 : Int).toNat [V.int 4]).flatten)
              walk_at "hp"
      · refine ⟨_, rfl, rfl, _, rfl, ite2 (fun e3 => ?_) (fun e3 => ?_)⟩
        · -- way 2
          refine ⟨_, rfl, by decide, by decide, fun Dl hDl => ?_⟩
          refine lc_range (lo := 0) (n := (30 : Int).toNat) (fun i H' => ∃ ns : List Int, ns.length = i ∧ (∀ x ∈ ns, 1 ≤ x ∧ x ≤ 4) ∧ LcD p (n + 1 + i) H1 Dl (ns.map V.int) H') ⟨[], rfl, (fun _ z => nomatch z), LcD.start D1.box hDl⟩ ?_ ?_
          · rintro i H2 hi ⟨ns, el, ea, L⟩
            have hi30 : i < 30 := hi
            refine ⟨rfl, .ref p, rfl, p, n + 1 + i, 4, rfl, L.dr.box, by omega, by decide, by decide, fun d H3 da db D3 => ?_⟩
            have L2 := L.keep D3
            refine ⟨1, d, rfl, rfl, _, L2.at_, ?_, ns ++ [1 + d], ?_, ?_, ?_⟩
            · rw [List.length_map]
              exact sz1000 (by omega)
            · rw [List.length_append, el]
              rfl
            · intro x hx
              rcases List.mem_append.mp hx with hx | hx
              · exact ea x hx
              · rw [List.mem_singleton.mp hx]
                omega
            · rw [List.map_append]
              exact L2.step (.int (1 + d))
          · rintro H2 ⟨ns, el, ea, L⟩
            have el : ns.length = 30 := el
            have DA : Dr p (n + 31) H H2 := D1.trans (L.dr.mono (by show n + 1 + 30 ≤ n + 31; omega))
            have DB : Dr p (n + 31) H2 H2 := Dr.refl DA.box
            have eL := L.at_
            refine ⟨by show 1 ≤ sizeLine; decide, fun a2 h2 => ⟨by show 2 ≤ sizeLine; decide, fun y1 m1 => ?_⟩⟩
            refine ⟨.ref p, rfl, p, n + 31, 2, rfl, Dr.box (H := H2) (by walk_at "dr"), by omega, by decide, by decide, fun d H3 da db D3 => ⟨1, d, rfl, rfl, by show 1 ≤ sizeLine; decide, fun b g => ⟨b, 30, _, rfl, rfl, upd_same, by decide, by decide, by show 1 * 30 ≤ sizeLine; decide, fun x3 k3 => ⟨by show 1 ≤ sizeLine; decide, fun y2 m2 => ⟨by show 2 ≤ sizeLine; decide, fun z mz => ?_⟩⟩⟩⟩⟩
            have na2 : a2 ≠ p := (Box.ne (Dr.box (H := H2) (n := n + 31) (by walk_at "dr")) h2).symm
            have ny1 : y1 ≠ p := (Box.ne (Dr.box (H := H2) (n := n + 31) (by walk_at "dr")) m1).symm
            have eL3 : H3 Dl = some (.lst (ns.map V.int)) := D3.bt Dl _ L.ne (by walk_at "hp")
            have ea2 : H3 a2 = some (.lst [.int 1]) := D3.bt a2 _ na2 (by walk_at "hp")
            have ey1 : H3 y1 = some (.lst [.ref Dl, .ref a2]) := D3.bt y1 _ ny1 (by walk_at "hp")
            have DC : Dr p (n + 31 + 1) H H3 := DA.trans (Dr.trans (n := n + 31) (by walk_at "dr") D3)
            have r30 : okRow (List.replicate 30 (1 + d)) := ⟨by rw [List.length_replicate]; decide, by rw [List.length_replicate]; decide, fun x hx => by rw [List.eq_of_mem_replicate hx]; omega⟩
            refine q [[ns, [1]], [List.replicate 30 (1 + d)]] z _ ⟨(by show 1 ≤ 2; decide), (by show 2 ≤ 6; decide), ?_, ?_, ?_⟩ ?_ (Dr.mono (n := n + 31 + 1) (by walk_at "dr") (by omega))
            · intro b hb'
              simp only [List.mem_cons, List.not_mem_nil, or_false] at hb'
              rcases hb' with rfl | rfl
              · refine ⟨(by show 1 ≤ 2; decide), (by show 2 ≤ 12; decide), fun c hc => ?_⟩
                simp only [List.mem_cons, List.not_mem_nil, or_false] at hc
                rcases hc with rfl | rfl
                · exact ⟨by omega, by omega, ea⟩
                · exact ⟨by decide, by decide, by decide⟩
              · refine ⟨(by show 1 ≤ 1; decide), (by show 1 ≤ 12; decide), fun c hc => ?_⟩
                rw [List.mem_singleton.mp hc]
                exact r30
            · show 2 + (1 + 0) ≤ 40
              decide
            · have s1 := sum_le 4 ns fun x hx => (ea x hx).2
              have s2 := sum_le 2 (List.replicate 30 (1 + d)) fun x hx => by rw [List.eq_of_mem_replicate hx]; omega
              rw [List.length_replicate] at s2
              rw [el] at s1
              show (ns.sum + (1 + 0 + 0)) + ((List.replicate 30 (1 + d)).sum + 0 + 0) ≤ 400
              omega
            · have n3 : x3 ≠ p := (Box.ne (Dr.box (H := H) (n := n + 31 + 1) (by walk_at "dr")) k3).symm
              have n4 : y2 ≠ p := (Box.ne (Dr.box (H := H) (n := n + 31 + 1) (by walk_at "dr")) m2).symm
              have n5 : z ≠ p := (Box.ne (Dr.box (H := H) (n := n + 31 + 1) (by walk_at "dr")) mz).symm
              refine .lst n5 (xs := [.ref y1, .ref y2]) (by walk_at "hp") (.cons ?_ (.cons ?_ .nil))
              · refine .lst ny1 (xs := [.ref Dl, .ref a2]) (by walk_at "hp") (.cons (At.ofrow (ns := ns) L.ne (by walk_at "hp")) (.cons (At.ofrow (ns := [1]) na2 ?_) .nil))
                show _ = some (HO.lst [V.int 1])
                walk_at "hp"
              · refine .lst n4 (xs := [.ref x3]) (by walk_at "hp") (.cons (At.ofrow (ns := List.replicate 30 (1 + d)) n3 ?_) .nil)
                show _ = some (HO.lst (List.replicate (30 : Int).toNat [V.int (1 + d)]).flatten)
                walk_at "hp"
        · -- counts
          refine ⟨.ref p, rfl, p, n + 1, 3, rfl, D1.box, by omega, by decide, by decide, fun d2 H2 da db D2 => ⟨1, d2, rfl, rfl, by show 2 ≤ sizeLine; decide, fun l hl => ?_⟩⟩
          obtain ⟨m, hm, m0, m1⟩ : ∃ m : Int, atI [V.int (1 + d2), .int 6] (if decide (V.int way = V.int 3) = true then 1 else 0) = some (.int m) ∧ 1 ≤ m ∧ m ≤ 6 := by
            split
            · exact ⟨6, atI_nat (j := 1) rfl, by decide, by decide⟩
            · exact ⟨1 + d2, atI_nat (j := 0) rfl, by omega, by omega⟩
          refine ⟨_, rfl, rfl, .inr ⟨_, rfl, l, _, _, _, rfl, rfl, .inl (.inl upd_same), hm, _, rfl, by omega, by omega, fun Dc hDc => ?_⟩⟩
          have DA : Dr p (n + 1 + 1) H (upd H2 l (.lst [.int (1 + d2), .int 6])) := (D1.trans D2).new hl
          refine lc_range (lo := 0) (n := m.toNat) (fun i H' => ∃ ns : List Int, ns.length = i ∧ (∀ x ∈ ns, 1 ≤ x ∧ x ≤ 3) ∧ LcD p (n + 1 + 1 + i) (upd H2 l (.lst [.int (1 + d2), .int 6])) Dc (ns.map V.int) H') ⟨[], rfl, (fun _ z => nomatch z), LcD.start DA.box hDc⟩ ?_ ?_
          · rintro i H3 hi ⟨ns, el, ea, L⟩
            refine ⟨rfl, .ref p, rfl, p, n + 1 + 1 + i, 3, rfl, L.dr.box, by omega, by decide, by decide, fun d H4 da db D4 => ?_⟩
            have L2 := L.keep D4
            refine ⟨1, d, rfl, rfl, _, L2.at_, ?_, ns ++ [1 + d], ?_, ?_, ?_⟩
            · rw [List.length_map]
              exact sz1000 (by omega)
            · rw [List.length_append, el]
              rfl
            · intro x hx
              rcases List.mem_append.mp hx with hx | hx
              · exact ea x hx
              · rw [List.mem_singleton.mp hx]
                omega
            · rw [List.map_append]
              exact L2.step (.int (1 + d))
          · rintro H3 ⟨cs, el, ea, L0⟩
            have DC := DA.trans L0.dr
            -- the rows
            refine ⟨.ref Dc, rfl, Dc, rfl, ⟨_, .inl (.inl L0.at_)⟩, fun Dl hDl => ?_⟩
            refine lc_it (walk_list (xs := cs.map V.int)) (fun i H' => ∃ (rows : List V) (S : List (List (List Int))), LcA (O1 p) p (n + 8 + 15 * i) H3 Dl rows (S.map bookD) H' ∧ S.length = i ∧ ∀ b ∈ S, 1 ≤ b.length ∧ b.length ≤ 3 ∧ ∀ c ∈ b, 1 ≤ c.length ∧ c.length ≤ 4 ∧ ∀ x ∈ c, 1 ≤ x ∧ x ≤ 4)
              ⟨[], [], (LcA.start DC.box hDl).mono (by omega), rfl, fun _ z => nomatch z⟩ (fun i H' _ ⟨rows, S, L, _⟩ => .inl (.inl (L.l.dr.bt _ _ L0.ne L0.at_))) ?_ ?_
            · rintro i x H4 H4' hi ⟨rows, S, L, sl, sr⟩ ⟨rfl, hx⟩
              rw [List.length_map] at hi
              have hci : cs[i]? = some cs[i] := List.getElem?_eq_getElem hi
              rw [List.getElem?_map, hci] at hx
              cases hx
              have cb := ea cs[i] (List.getElem_mem hi)
              refine ⟨rfl, _, rfl, _, rfl, by omega, by omega, fun D2' hD2 => ?_⟩
              have nD2 : ¬ Plus (O1 p) Dl D2' := fun z => z.elim (fun z => (L.l.dr.box.ne hD2) z.symm) fun z => ne_of_none L.l.at_ hD2 z.symm
              refine lc_range (lo := 0) (n := cs[i].toNat) (fun j H' => ∃ (rs : List V) (B : List (List Int)), LcA (Plus (O1 p) Dl) p (n + 8 + 15 * i + 5 * j) H4' D2' rs (B.map rowD) H' ∧ B.length = j ∧ ∀ c ∈ B, 1 ≤ c.length ∧ c.length ≤ 4 ∧ ∀ x ∈ c, 1 ≤ x ∧ x ≤ 4)
                ⟨[], [], LcA.start L.l.dr.box hD2, rfl, fun _ z => nomatch z⟩ ?_ ?_
              · rintro j H5 hj ⟨rs, B, L5, bl, br⟩
                refine ⟨rfl, .ref p, rfl, p, n + 8 + 15 * i + 5 * j, rfl, L5.l.dr.box, by omega, fun ns q2 H6 l0 l1 la D6 hq2 eq2 => ?_⟩
                have L6 := L5.l.keep D6
                have nq : ¬ Plus (Plus (O1 p) Dl) D2' q2 := fun z => z.elim (fun z => z.elim (fun z => L5.l.dr.box.ne hq2 z.symm) fun z => ne_of_none (L5.l.dr.bt _ _ L.l.ne L.l.at_) hq2 z.symm) fun z => ne_of_none L5.l.at_ hq2 z.symm
                refine ⟨rs, L6.at_, ?_, rs ++ [.ref q2], B ++ [ns], ?_, ?_, ?_⟩
                · rw [L5.len, List.length_map]
                  exact sz1000 (by omega)
                · rw [List.map_append]
                  exact (L5.step (.inl rfl) D6 (At.ofrow nq eq2)).mono (by omega)
                · rw [List.length_append, bl]
                  rfl
                · intro r hr'
                  rcases List.mem_append.mp hr' with hr' | hr'
                  · exact br r hr'
                  · rw [List.mem_singleton.mp hr']
                    exact ⟨l0, l1, la⟩
              · rintro H5 ⟨rs, B, L5, bl, br⟩
                have L6 := L.l.keep L5.l.dr
                refine ⟨rows, L6.at_, ?_, rows ++ [.ref D2'], S ++ [B], ?_, ?_, ?_⟩
                · rw [L.len, List.length_map]
                  exact sz1000 (by omega)
                · rw [List.map_append]
                  exact (L.step rfl L5.l.dr (L5.done nD2)).mono (by omega)
                · rw [List.length_append, sl]
                  rfl
                · intro b hb'
                  rcases List.mem_append.mp hb' with hb' | hb'
                  · exact sr b hb'
                  · rw [List.mem_singleton.mp hb']
                    exact ⟨by omega, by omega, br⟩
            · rintro H4 ⟨rows, S, L, sl, sr⟩
              rw [List.length_map] at sl L
              exact q S Dl H4 (okSh_small (by omega) (by omega) sr) (L.done (fun z => L.l.ne z)) ((DC.trans L.l.dr).mono (by omega))
end
end My
set_option Elab.async false
set_option linter.all false
set_option maxRecDepth 100000
set_option maxHeartbeats 4000000
namespace My
open PySem PySem.Spec PyProof.Rows L2
/-! ### names -/
def nmV (ws : List (List Nat)) : List V := ws.map fun l => .str (SX.S l)
def nmD (ws : List (List Nat)) : List PyData := ws.map fun l => .str (SX.S l)
structure okName (w : List Nat) : Prop where
  l0 : 1 ≤ w.length
  l1 : w.length ≤ 6
  a : ∀ c ∈ w, c ∈ letters26
structure okNames (ws : List (List Nat)) : Prop where
  nd : ws.Nodup
  ok : ∀ w ∈ ws, okName w
theorem let128 : ∀ c ∈ letters26, c < 128 := by decide +kernel
theorem dpall_nm {K : PySem.W.Frag} {H : Hp} : ∀ ws : List (List Nat), DpAll K H (nmV ws) (nmD ws)
  | [] => .nil
  | _ :: r => .cons (.str _) (dpall_nm r)
theorem lay_nm : ∀ ws : List (List Nat), (∀ w ∈ ws, ∀ c ∈ w, c < 128) → PyData.canLayAll0 (nmD ws) = true
  | [], _ => rfl
  | w :: r, h => by
    show (PyData.strOk (SX.S w) && PyData.canLayAll0 (nmD r)) = true
    rw [lay_nm r fun d hd => h d (List.mem_cons_of_mem _ hd), Bool.and_true]
    show (w.toArray.all fun c => decide (c < 0x110000)) = true
    rw [← Array.all_toList, List.all_eq_true]
    intro c hc
    have := h w (List.mem_cons_self ..) c hc
    exact decide_eq_true (by omega)
theorem dep_nm : ∀ ws : List (List Nat), PyData.depthAll (nmD ws) = 0
  | [] => rfl
  | c :: r => by
    show max 0 (PyData.depthAll (nmD r)) = 0
    rw [dep_nm r]
    rfl
theorem shaped_nm {ws : List (List Nat)} (h : ∀ w ∈ ws, ∀ c ∈ w, c < 128) : SeqAt.shaped (.list (nmD ws)) = true := by
  unfold SeqAt.shaped
  rw [Bool.and_eq_true]
  refine ⟨lay_nm ws h, decide_eq_true ?_⟩
  show PyData.depthAll _ + 1 ≤ 64
  rw [dep_nm]
  decide
theorem inV_nm (w : List Nat) : ∀ ws : List (List Nat), inV (.str (SX.S w)) (nmV ws) = decide (w ∈ ws)
  | [] => rfl
  | x :: r => by
    show (eqV (.str (SX.S x)) (.str (SX.S w)) || inV (.str (SX.S w)) (nmV r)) = _
    rw [inV_nm w r]
    show ((SX.S x == SX.S w) || _) = _
    rw [SX.S_beq]
    by_cases e : x = w
    · subst e
      rw [beq_self_eq_true, Bool.true_or]
      exact (decide_eq_true (List.mem_cons_self ..)).symm
    · rw [beq_false_of_ne e, Bool.false_or]
      exact decide_eq_decide.mpr ⟨fun h => List.mem_cons_of_mem _ h, fun h => (List.mem_cons.mp h).resolve_left fun z => e z.symm⟩
theorem flat_nm : ∀ ws : List (List Nat), (nmV ws).all flatV = true
  | [] => rfl
  | _ :: r => by
    show (true && (nmV r).all flatV) = true
    rw [flat_nm r]
    rfl
theorem pigeon : ∀ (l ws : List (List Nat)), l.Nodup → (∀ x ∈ l, x ∈ ws) → l.length ≤ ws.length
  | [], _, _, _ => Nat.zero_le _
  | x :: l, ws, hn, h => by
    have hx := h x (List.mem_cons_self ..)
    rw [List.nodup_cons] at hn
    have := pigeon l (ws.erase x) hn.2 fun y hy => (List.mem_erase_of_ne fun e => hn.1 (by rw [← e]; exact hy)).mpr (h y (List.mem_cons_of_mem _ hy))
    rw [List.length_erase_of_mem hx] at this
    have p : 0 < ws.length := List.length_pos_of_mem hx
    rw [List.length_cons]
    omega
theorem nd26 : letters26.Nodup := by decide +kernel
theorem len26 : letters26.length = 26 := by decide +kernel
theorem some_free (w : List Nat) {ws : List (List Nat)} (h : ws.length ≤ 25) : ∃ c r, letters26.filter (fun c => !decide (w ++ [c] ∈ ws)) = c :: r := by
  cases e : letters26.filter (fun c => !decide (w ++ [c] ∈ ws)) with
  | cons c r => exact ⟨c, r, rfl⟩
  | nil =>
    have hall : ∀ c ∈ letters26, w ++ [c] ∈ ws := by
      intro c hc
      rw [List.filter_eq_nil_iff] at e
      have := e c hc
      simpa using this
    have hnd : ((letters26.map fun c => w ++ [c]) : List (List Nat)).Nodup := by
      refine List.Pairwise.map _ (fun a b (hab : a ≠ b) => ?_) nd26
      intro z
      exact hab (by simpa using z)
    have := pigeon _ ws hnd fun x hx => by
      obtain ⟨c, hc, rfl⟩ := List.mem_map.mp hx
      exact hall c hc
    rw [List.length_map, len26] at this
    omega
def sp_names : Sp := fun vs H Q _ => ∃ (p : Addr) (n : Nat) (m : Int), vs = [.ref p, .int m] ∧ Box n H p ∧ n ≤ 900000 ∧ 1 ≤ m ∧ m ≤ 6 ∧ ∀ (ws : List (List Nat)) (a : Addr) H', okNames ws → (ws.length : Int) = m → H a = none → a ≠ p → H' a = some (.lst (nmV ws)) → Dr p (n + 100) H H' → Q (.ref a) H'
section
variable {P : Program} {w : World} {K : PySem.W.Frag} {mg : Str → Option Value} {base : Heap}
theorem ok_names (T : Txt K mg) (c__law_take : Cl P w K mg base 2 "_law_take" ["box", "many"] sp_take) (D : Df K mg "_law_names" s__law_names ["box", "many"]) : Cl P w K mg base 3 "_law_names" ["box", "many"] sp_names := by
  refine ok_of D sc__law_names (fun vs H Q E h => ?_) (fun f cdv A outer s H vs Q E hr h => ?_)
  · obtain ⟨p, n, m, rfl, _⟩ := h
    rfl
  · obtain ⟨p, n, m, rfl, hb, hn, m0, m1, q⟩ := h
    refine ⟨_, (pss_cons (ps_set (i := 2) sc__law_names.nd rfl (.inr rfl) pe_str)
      (pss_cons (ps_set (i := 3) sc__law_names.nd rfl (.inr rfl) (pe_lst pa_nil))
      (pss_cons (ps_for PassesOwn.never rfl (pi_range1 (by rfl) T.b_range (pa_cons (pv 1) pa_nil)) (pg_name (i := 4) sc__law_names.nd rfl (.inl rfl))
        (pss_cons (ps_set (i := 5) sc__law_names.nd rfl (.inl rfl) pe_str)
        (C8.pss_cut (ps_if (PW.pt (pw_and (pt_cmpR (op_neD hr.units) (pv 3) (pe_lst pa_nil) (nomark _)) (pw_and1 (pt_cmpR op_eq (pe_cl c__law_take hr (by decide) (by rfl) (pa_cons (pv 0) (pa_cons pe_int pa_nil))) pe_int (nomark _))))) (pss_one (ps_set (i := 5) sc__law_names.nd rfl (.inl rfl) (pe_slice C8.sl_txt (pe_ix ix_list (pv 3) (pe_cl c__law_take hr (by decide) (by rfl) (pa_cons (pv 0) (pa_cons (pe_callB call_len (by rfl) T.b_len (by decide +kernel) (pa_cons (pv 3) pa_nil)) pa_nil))) (fun _ _ => rfl)) po_none (po_some (pe_cl c__law_take hr (by decide) (by rfl) (pa_cons (pv 0) (pa_cons pe_int pa_nil))))))) pss_nil)
        (pss_cons (ps_set (i := 6) sc__law_names.nd rfl (.inr rfl) (pe_op op_add_str (pv 5) (pe_join pe_str (pe_lc (own := [("at", 7)]) rfl sc__law_names.nd (pi_range1 (by rfl) T.b_range (pa_cons (pe_op op_add pe_int (pe_cl c__law_take hr (by decide) (by rfl) (pa_cons (pv 0) (pa_cons pe_int pa_nil)))) pa_nil)) (blkOk_by (own := [("at", 7)]) (N := N__law_names) (sc := defScope s__law_names) (by decide +kernel)) (fun _ _ _ _ _ => (pg_name (i := 7) sc__law_names.nd rfl (.inl rfl))) (fun _ _ _ _ _ => pts_nil) (fun _ _ _ _ _ => (pe_ix ix_str (pv 2) (pe_cl c__law_take hr (by decide) (by rfl) (pa_cons (pv 0) (pa_cons pe_int pa_nil))) (fun _ _ => rfl)))))))
        (pss_cons (ps_set (i := 6) sc__law_names.nd rfl (.inr rfl) (pe_slice C8.sl_txt (pv 6) po_none (po_some pe_int)))
        (C8.pss_cut (ps_if (pt_cmpR op_in_seq (pv 6) (pv 3) rfl) (pss_one (ps_set (i := 6) sc__law_names.nd rfl (.inr rfl) (pe_ix ix_list (pe_lc (own := [("letter", 8)]) rfl sc__law_names.nd (pi_str (pv 2)) (blkOk_by (own := [("letter", 8)]) (N := N__law_names) (sc := defScope s__law_names) (by decide +kernel)) (fun _ _ _ _ _ => (pg_name (i := 8) sc__law_names.nd rfl (.inl rfl))) (fun _ _ _ _ _ => (pts_one (pt_cmpR (op_notIn_seqK (K := K) rfl) (pe_op op_add_str (pe_slice C8.sl_txt (pv 6) po_none (po_some pe_int)) (pv 8)) (pv 3) rfl))) (fun _ _ _ _ _ => (pe_op op_add_str (pe_slice C8.sl_txt (pv 6) po_none (po_some pe_int)) (pv 8)))) pe_int (fun _ _ => rfl)))) pss_nil)
        (pss_one (ps_expr (pe_bm PySem.F.plainAttrs_list PySem.F.slot_list_append PySem.F.type_list_append mt_append (pv 3) (pa_cons (pv 6) pa_nil))))))))))
      (pss_one (ps_ret (pv 3)))))), ?_⟩
    refine ⟨Nat.zero_le _, fun na hna => ?_⟩
    refine ⟨_, rfl, _, rfl, by omega, by omega, for_range (lo := 0) (n := m.toNat) (fun i σ H' => ∃ (ws : List (List Nat)) (t4 t5 t6 t7 t8 : Option V), σ = [some (.ref p), some (.int m), some (.str "abcdefghijklmnopqrstuvwxyz"), some (.ref na), t4, t5, t6, t7, t8] ∧ ws.length = i ∧ okNames ws ∧ LcD p (n + 12 * i) H na (nmV ws) H')
      ⟨[], _, _, _, _, _, rfl, rfl, ⟨List.nodup_nil, fun _ z => nomatch z⟩, LcD.start hb hna⟩ ?_ ?_⟩
    · rintro i σ H1 hi ⟨ws, t4, t5, t6, t7, t8, rfl, wl, ok, L⟩
      -- stem
      refine ⟨fun σ' H' => ∃ (st : List Nat) (t7 t8 : Option V), σ' = [some (.ref p), some (.int m), some (.str "abcdefghijklmnopqrstuvwxyz"), some (.ref na), some (.int (0 + (i : Int))), some (.str (SX.S st)), t6, t7, t8] ∧ st.length ≤ 6 ∧ (∀ c ∈ st, c ∈ letters26) ∧ LcD p (n + 12 * i + 3) H na (nmV ws) H', ?_, ?_⟩
      · refine ⟨.ref na, rfl, Nat.zero_le _, fun e he => ?_⟩
        have L1 : LcD p (n + 12 * i) H na (nmV ws) (upd H1 e (.lst [])) := L.keep ((Dr.refl L.dr.box).new he)
        have h128 : ∀ w ∈ ws, ∀ c ∈ w, c < 128 := fun w hw c hc => let128 c ((ok.ok w hw).a c hc)
        refine ⟨_, _, .lst (.inl (.inl L1.at_)) (dpall_nm ws), .lst (.inl (.inl upd_same)) .nil, shaped_nm h128, by decide +kernel, _, rfl, ?_⟩
        rw [eqv_nil]
        refine ite2 (fun z => ?_) (fun z => ⟨[], _, _, rfl, Nat.zero_le _, (fun _ z => nomatch z), L1.mono (by omega)⟩)
        have hne : ws ≠ [] := fun e => by
          subst e
          exact absurd z (by decide)
        have hpos : 0 < ws.length := List.length_pos_iff.mpr hne
        refine ⟨.ref p, rfl, p, n + 12 * i, 3, rfl, L1.dr.box, by omega, by decide, by decide, fun d1 H2 d1a d1b D1 => ⟨rfl, _, rfl, ite2 (fun z2 => ?_) (fun z2 => ⟨[], _, _, rfl, Nat.zero_le _, (fun _ z => nomatch z), (L1.keep D1).mono (by omega)⟩)⟩⟩
        have L2 := L1.keep D1
        refine ⟨.ref na, rfl, .ref p, rfl, .ref na, rfl, _, _, rfl, .inl ⟨_, .inl (.inl L2.at_), rfl⟩, p, n + 12 * i + 1, _, rfl, L2.dr.box, by omega, ?_, ?_, fun d2 H3 d2a d2b D2 => ?_⟩
        · unfold nmV
          rw [List.length_map]
          omega
        · unfold nmV
          rw [List.length_map]
          omega
        have L3 := L2.keep D2
        obtain ⟨v, hv, hm⟩ := ix_some (nmV ws) d2a d2b
        obtain ⟨w1, hw1, rfl⟩ := List.mem_map.mp hm
        have ow := ok.ok w1 hw1
        refine ⟨na, _, d2, _, rfl, rfl, .inl (.inl L3.at_), hv, .ref p, rfl, p, n + 12 * i + 1 + 1, 6, rfl, L3.dr.box, by omega, by decide, by decide, fun d3 H4 d3a d3b D3 => ⟨d3, rfl, SX.S w1, rfl, S_le (by have := ow.l1; omega), ?_⟩⟩
        rw [SX.slice_to d3a]
        refine ⟨w1.take d3.toNat, _, _, rfl, ?_, fun c hc => ow.a c (List.mem_of_mem_take hc), (L3.keep D3).mono (by omega)⟩
        rw [List.length_take]
        have := ow.l1
        omega
      · rintro σ' H2 ⟨st, t7, t8, rfl, sl, sa, L2⟩
        -- word
        refine ⟨_, rfl, ⟨_, rfl⟩, .ref p, rfl, p, n + 12 * i + 3, 6, rfl, L2.dr.box, by omega, by decide, by decide, fun d1 H3 d1a d1b D1 => ⟨1, d1, rfl, rfl, _, rfl, by omega, by omega, fun Dl hDl => ?_⟩⟩
        have L3 := L2.keep D1
        refine lc_range (lo := 0) (n := (1 + d1).toNat) (fun j H' => ∃ cs : List Nat, cs.length = j ∧ (∀ c ∈ cs, c ∈ letters26) ∧ LcD p (n + 12 * i + 4 + j) H3 Dl (cs.map fun c => .str ⟨#[c]⟩) H') ⟨[], rfl, (fun _ z => nomatch z), LcD.start L3.dr.box hDl⟩ ?_ ?_
        · rintro j H4 hj ⟨cs, el, ea, L4⟩
          refine ⟨rfl, _, rfl, .ref p, rfl, p, n + 12 * i + 4 + j, 26, rfl, L4.dr.box, by omega, by decide, by decide, fun d H5 da db D5 => ?_⟩
          obtain ⟨c, hc, mc⟩ := ix_some letters26 da (by rw [len26]; exact db)
          have L5 := L4.keep D5
          refine ⟨_, d, c, rfl, rfl, by decide +kernel, hc, _, L5.at_, ?_, cs ++ [c], ?_, ?_, ?_⟩
          · rw [List.length_map]
            exact sz1000 (by omega)
          · rw [List.length_append, el]
            rfl
          · intro x hx
            rcases List.mem_append.mp hx with hx | hx
            · exact ea x hx
            · rw [List.mem_singleton.mp hx]
              exact mc
          · rw [List.map_append]
            exact L5.step (.str ⟨#[c]⟩)
        · rintro H4 ⟨cs, el, ea, L4⟩
          have L5 := L3.keep L4.dr
          refine ⟨_, Dl, cs.map fun c => (⟨#[c]⟩ : Str), rfl, rfl, .inl (.inl (.inl (by rw [L4.at_, List.map_map]; rfl))), ?_, ?_⟩
          · rw [lens1]
            show cs.length + _ * 0 ≤ 16777216
            omega
          rw [join_signs]
          refine ⟨_, _, rfl, rfl, ?_, ?_⟩
          · rw [SX.S_len, SX.S_len]
            exact Evl.sz_of (by omega)
          -- word = word[:6]
          refine ⟨_, rfl, _, rfl, _, rfl, ?_, ?_⟩
          · rw [SX.S_cat]
            exact S_le (by rw [List.length_append]; omega)
          rw [SX.S_cat, SX.slice_to (by decide)]
          have hw0 : 1 ≤ ((st ++ cs).take (6 : Int).toNat).length ∧ ((st ++ cs).take (6 : Int).toNat).length ≤ 6 ∧ ∀ c ∈ (st ++ cs).take (6 : Int).toNat, c ∈ letters26 := by
            refine ⟨?_, ?_, fun c hc => (List.mem_append.mp (List.mem_of_mem_take hc)).elim (sa c) (ea c)⟩
            · rw [List.length_take, List.length_append]
              show 1 ≤ min 6 _
              omega
            · rw [List.length_take]
              exact Nat.min_le_left _ _
          generalize (st ++ cs).take (6 : Int).toNat = w0 at hw0 ⊢
          have wl5 : ws.length ≤ 5 := by omega
          refine ⟨fun σ' H' => ∃ (wd : List Nat) (t7 t8 : Option V), σ' = [some (.ref p), some (.int m), some (.str "abcdefghijklmnopqrstuvwxyz"), some (.ref na), some (.int (0 + (i : Int))), some (.str (SX.S st)), some (.str (SX.S wd)), t7, t8] ∧ okName wd ∧ wd ∉ ws ∧ LcD p (n + 12 * i + 12) H na (nmV ws) H', ?_, ?_⟩
          · refine ⟨_, rfl, .ref na, rfl, na, _, rfl, .inl (.inl (.inl L5.at_)), rfl, flat_nm ws, _, rfl, ?_⟩
            rw [if_neg Bool.false_ne_true, inV_nm]
            refine ite2 (fun z => ?_) (fun z => ⟨w0, _, _, rfl, ⟨hw0.1, hw0.2.1, hw0.2.2⟩, fun y => z (decide_eq_true y), L5.mono (by omega)⟩)
            -- another last letter
            refine ⟨_, rfl, _, rfl, fun De hDe => ?_⟩
            refine lc_it walk_str (fun j H' => LcD p (n + 12 * i + 12) H4 De (((letters26.take j).filter fun c => !decide (w0.take 5 ++ [c] ∈ ws)).map fun c => .str (SX.S (w0.take 5 ++ [c]))) H') ((LcD.start L5.dr.box hDe).mono (by omega)) (fun _ _ _ _ => trivial) ?_ ?_
            · rintro j x H5 H5' hj L6 ⟨rfl, c, hc, rfl⟩
              have hc' : letters26[j]? = some c := by
                rw [← hc]
                simp [letters26]
              have L7 := L5.keep L6.dr
              have hz5 : (SX.S (w0.take 5)).length + (⟨#[c]⟩ : Str).length ≤ sizeLine := by
                rw [SX.S_len, List.length_take]
                refine Evl.sz_of ?_
                show min 5 _ + 1 ≤ 100000
                omega
              refine ⟨rfl, _, rfl, _, rfl, SX.S w0, rfl, S_le (by omega), ?_⟩
              rw [SX.slice_to (by decide)]
              refine ⟨_, rfl, _, _, rfl, rfl, hz5, .ref na, rfl, na, _, rfl, .inl (.inl (.inl L7.at_)), rfl, flat_nm ws, _, rfl, ?_⟩
              rw [show (⟨#[c]⟩ : Str) = SX.S [c] from rfl, SX.S_cat, if_pos rfl, inV_nm]
              refine ite2 (fun z => ?_) (fun z => ?_)
              · have z : (!decide (w0.take 5 ++ [c] ∈ ws)) = true := z
                refine ⟨_, rfl, _, rfl, SX.S w0, rfl, S_le (by omega), ?_⟩
                rw [SX.slice_to (by decide)]
                refine ⟨_, rfl, _, _, rfl, rfl, hz5, _, L6.at_, ?_, ?_⟩
                · rw [List.length_map]
                  refine sz1000 (Nat.le_trans (List.length_filter_le _ _) ?_)
                  rw [List.length_take, len26]
                  omega
                · rw [SX.S_cat]
                  have e7 : ((letters26.take (j + 1)).filter fun c => !decide (w0.take 5 ++ [c] ∈ ws)).map (fun c => V.str (SX.S (w0.take 5 ++ [c]))) = (((letters26.take j).filter fun c => !decide (w0.take 5 ++ [c] ∈ ws)).map fun c => .str (SX.S (w0.take 5 ++ [c]))) ++ [.str (SX.S (w0.take 5 ++ [c]))] := by
                    rw [List.take_add_one (l := letters26), hc', List.filter_append, List.map_append]
                    congr 1
                    show List.map _ (List.filter _ [c]) = _
                    rw [List.filter_cons, if_pos z]
                    rfl
                  rw [e7]
                  exact L6.step _
              · have z : ¬ (!decide (w0.take 5 ++ [c] ∈ ws)) = true := z
                have e7 : ((letters26.take (j + 1)).filter fun c => !decide (w0.take 5 ++ [c] ∈ ws)) = ((letters26.take j).filter fun c => !decide (w0.take 5 ++ [c] ∈ ws)) := by
                  rw [List.take_add_one (l := letters26), hc', List.filter_append]
                  show _ ++ List.filter _ [c] = _
                  rw [List.filter_cons, if_neg z]
                  exact List.append_nil _
                rw [e7]
                exact L6
            · intro H5 L6
              have hsz : (Str.cps "abcdefghijklmnopqrstuvwxyz").size = letters26.length := by decide +kernel
              rw [hsz, List.take_length] at L6
              obtain ⟨c0, r0, e0⟩ := some_free (w0.take 5) (ws := ws) (by omega)
              rw [e0] at L6
              have m0' : c0 ∈ letters26.filter (fun c => !decide (w0.take 5 ++ [c] ∈ ws)) := by
                rw [e0]
                exact List.mem_cons_self ..
              obtain ⟨m1', m2'⟩ := List.mem_filter.mp m0'
              refine ⟨De, _, 0, _, rfl, rfl, .inl (.inl L6.at_), atI_nat (j := 0) rfl, w0.take 5 ++ [c0], _, _, rfl, ⟨?_, ?_, fun x hx => ?_⟩, (by simpa using m2'), (L5.keep L6.dr).mono (by omega)⟩
              · rw [List.length_append]
                exact Nat.le_add_left _ _
              · rw [List.length_append, List.length_take]
                show min 5 _ + 1 ≤ 6
                omega
              · rcases List.mem_append.mp hx with hx | hx
                · exact hw0.2.2 x (List.mem_of_mem_take hx)
                · rw [List.mem_singleton.mp hx]
                  exact m1'
          · rintro σ' H5 ⟨wd, t7, t8, rfl, okw, nw, L6⟩
            refine ⟨.ref na, rfl, .inl ⟨rfl, _, .inl (.inl L6.at_)⟩, _, rfl, na, _, _, rfl, rfl, L6.at_, ?_, ws ++ [wd], _, _, _, _, _, rfl, ?_, ⟨?_, fun x hx => ?_⟩, ?_⟩
            · unfold nmV
              rw [List.length_map]
              exact sz1000 (by omega)
            · rw [List.length_append, wl]
              rfl
            · rw [List.nodup_append]
              refine ⟨ok.nd, List.pairwise_singleton _ _, fun a ha b hb => ?_⟩
              rw [List.mem_singleton.mp hb]
              exact fun e => nw (e ▸ ha)
            · rcases List.mem_append.mp hx with hx | hx
              · exact ok.ok x hx
              · rw [List.mem_singleton.mp hx]
                exact okw
            · have e8 : nmV (ws ++ [wd]) = nmV ws ++ [.str (SX.S wd)] := List.map_append
              rw [e8]
              exact (L6.step _).mono (by omega)
    · rintro σ H1 ⟨ws, t4, t5, t6, t7, t8, rfl, wl, ok, L⟩
      exact ⟨_, rfl, q ws na H1 ok (by omega) L.fr L.ne L.at_ (L.dr.mono (by omega))⟩
end
end My
set_option Elab.async false
set_option linter.all false
set_option maxRecDepth 100000
set_option maxHeartbeats 4000000
namespace My
open PySem PySem.Spec PyProof.Rows L2
/-! ### pairs of lines -/
def prD (s : Int × Int) : PyData := .tuple [.int s.1, .int s.2]
theorem AtAll.take {p : Av} {H : Hp} : ∀ {ds : List PyData} {vs : List V} (n : Nat), AtAll p H vs ds → AtAll p H (vs.take n) (ds.take n)
  | [], _, n, h => by
    cases h
    rw [List.take_nil, List.take_nil]
    exact .nil
  | d :: ds, _, 0, h => .nil
  | d :: ds, _, n + 1, h => by
    cases h with
    | cons h1 h2 => exact .cons h1 (AtAll.take n h2)
theorem AtAll.drop {p : Av} {H : Hp} : ∀ {ds : List PyData} {vs : List V} (n : Nat), AtAll p H vs ds → AtAll p H (vs.drop n) (ds.drop n)
  | [], _, n, h => by
    cases h
    rw [List.drop_nil, List.drop_nil]
    exact .nil
  | d :: ds, _, 0, h => h
  | d :: ds, _, n + 1, h => by
    cases h with
    | cons h1 h2 => exact AtAll.drop n h2
theorem LcA.put {S : Av} {p : Addr} {n m : Nat} {H H1 H2 : Hp} {D : Addr} {xs ys : List V} {ds es : List PyData} (c : LcA S p n H D xs ds H1) (k : Dr p m H1 H2) (hy : AtAll (Plus S D) H2 ys es) : LcA S p m H D ys es (upd H2 D (.lst ys)) := by
  have L := c.l.keep k
  refine ⟨⟨upd_same, ⟨?_, fun b o hb ho => ?_⟩, L.ne, L.fr⟩, AtAll.bt (BtS.upd (.inr rfl)) _ _ hy⟩
  · obtain ⟨i, j, k, e, r⟩ := L.dr.box
    exact ⟨i, j, k, by rw [upd_ne L.ne.symm]; exact e, r⟩
  · rw [upd_ne (ne_of_none ho L.fr)]
    exact L.dr.bt b o hb ho
theorem LcA.all {S : Av} {p : Addr} {n m : Nat} {H H1 H2 : Hp} {D : Addr} {xs : List V} {ds : List PyData} (c : LcA S p n H D xs ds H1) (hS : S p) (k : Dr p m H1 H2) : AtAll (Plus S D) H2 xs ds := AtAll.bt (k.bt.s.mono fun b z => .inl (z ▸ hS)) _ _ c.a
theorem LcA.on {S : Av} {p : Addr} {n m : Nat} {H H1 H2 : Hp} {D : Addr} {xs : List V} {ds : List PyData} (c : LcA S p n H D xs ds H1) (hS : S p) (k : Dr p m H1 H2) : LcA S p m H D xs ds H2 := ⟨c.l.keep k, c.all hS k⟩
theorem At.pair {S : Av} {H : Hp} {v : V} {s : Int × Int} (h : At S H v (prD s)) : ∃ t, v = .ref t ∧ ¬ S t ∧ H t = some (.tup [.int s.1, .int s.2]) := by
  cases h with
  | tup n e k =>
    cases k with
    | cons h1 h2 =>
      cases h1
      cases h2 with
      | cons h3 h4 =>
        cases h3
        cases h4
        exact ⟨_, rfl, n, e⟩
theorem At.ofpair {S : Av} {H : Hp} {t : Addr} {a b : Int} (n : ¬ S t) (e : H t = some (.tup [.int a, .int b])) : At S H (.ref t) (prD (a, b)) := .tup n e (.cons (.int a) (.cons (.int b) .nil))
/-- stretches apart -/
def Apart (s t : Int × Int) : Prop := s.1 + s.2 ≤ t.1 ∨ t.1 + t.2 ≤ s.1
theorem Apart.symm {s t : Int × Int} (h : Apart s t) : Apart t s := h.elim .inr .inl
structure okPairs (ps : List (Int × Int)) (size : Int) : Prop where
  l0 : ps.length ≤ 400
  x : ∀ s ∈ ps, 0 ≤ s.1 ∧ 1 ≤ s.2 ∧ s.2 ≤ 400 ∧ s.1 + s.2 ≤ 10000
  sum : (ps.map (·.2)).sum = size
  ap : ps.Pairwise Apart
theorem len_sum : ∀ ms : List Int, (∀ m ∈ ms, 1 ≤ m) → (ms.length : Int) ≤ ms.sum
  | [], _ => Int.le_refl _
  | m :: r, h => by
    have := len_sum r fun x hx => h x (List.mem_cons_of_mem _ hx)
    have := h m (List.mem_cons_self ..)
    rw [List.length_cons, List.sum_cons]
    omega
theorem mem_sum : ∀ {ms : List Int}, (∀ m ∈ ms, 1 ≤ m) → ∀ {m : Int}, m ∈ ms → m ≤ ms.sum
  | x :: r, h, m, hm => by
    have h1 := len_sum r fun x hx => h x (List.mem_cons_of_mem _ hx)
    have h2 := h x (List.mem_cons_self ..)
    rw [List.sum_cons]
    rcases List.mem_cons.mp hm with rfl | hm
    · omega
    · have := mem_sum (fun x hx => h x (List.mem_cons_of_mem _ hx)) hm
      omega
theorem rise_ok (b : Bool) {a : Int} (h : 0 ≤ a) : 0 ≤ a * (if b = true then 1 else 0) ∧ a * (if b = true then 1 else 0) ≤ a := by
  cases b with
  | true =>
    rw [if_pos rfl, Int.mul_one]
    exact ⟨h, Int.le_refl _⟩
  | false =>
    rw [if_neg Bool.false_ne_true, Int.mul_zero]
    exact ⟨Int.le_refl _, h⟩
theorem perm_sum {l m : List Int} (h : l.Perm m) : l.sum = m.sum := by
  induction h with
  | nil => rfl
  | cons x _ ih => rw [List.sum_cons, List.sum_cons, ih]
  | swap x y l =>
    rw [List.sum_cons, List.sum_cons, List.sum_cons, List.sum_cons]
    omega
  | trans _ _ h1 h2 => rw [h1, h2]
theorem perm_ins (ps : List (Int × Int)) (x : Int × Int) (d : Nat) : (ps.take d ++ [x] ++ ps.drop d).Perm (ps ++ [x]) := by
  have h1 : (ps.take d ++ [x] ++ ps.drop d).Perm (x :: (ps.take d ++ ps.drop d)) := by
    rw [List.append_assoc]
    exact List.perm_middle
  rw [List.take_append_drop] at h1
  exact h1.trans (List.perm_append_singleton x ps).symm
theorem okPairs_of {ss ps : List (Int × Int)} {ms : List Int} {z ri a0 : Int} (hm : ss.map (·.2) = ms) (h1 : ∀ m ∈ ms, 1 ≤ m) (hz : ms.sum = z) (z1 : z ≤ 400) (r0 : 0 ≤ ri) (r1 : ri ≤ 10000 - a0) (hx : ∀ s ∈ ss, 0 ≤ s.1 ∧ s.1 + s.2 ≤ a0)
    (hp : ss.Pairwise fun s t => s.1 + s.2 ≤ t.1) (e : ps.Perm (ss.map fun s => (s.1 + ri, s.2))) : okPairs ps z := by
  have l1 := len_sum ms h1
  have l2 : ss.length = ms.length := by
    rw [← hm, List.length_map]
  refine ⟨?_, fun s hs => ?_, ?_, ?_⟩
  · rw [e.length_eq, List.length_map]
    omega
  · obtain ⟨t, ht, rfl⟩ := List.mem_map.mp (e.mem_iff.mp hs)
    have k1 := hx t ht
    have m2 : t.2 ∈ ms := by
      rw [← hm]
      exact List.mem_map_of_mem ht
    have k2 := h1 _ m2
    have k3 := mem_sum h1 m2
    exact ⟨by show 0 ≤ t.1 + ri; omega, k2, by show t.2 ≤ 400; omega, by show t.1 + ri + t.2 ≤ 10000; omega⟩
  · rw [perm_sum (e.map (·.2)), List.map_map]
    exact (congrArg List.sum hm).trans hz
  · refine (e.pairwise_iff fun h => h.symm).mpr ?_
    rw [List.pairwise_map]
    refine hp.imp fun {s t} h => .inl ?_
    show s.1 + ri + s.2 ≤ t.1 + ri
    omega
theorem Occ.dr {S : Av} {H H' : Hp} {p : Addr} {n : Nat} (o : Occ S H) (d : Dr p n H H') : Occ S H' := fun b z e => by
  by_cases q : b = p
  · obtain ⟨i, j, k, e2, _⟩ := d.box
    rw [q, e2] at e
    cases e
  · cases h : H b with
    | none => exact o b z h
    | some x =>
      rw [d.bt b x q h] at e
      cases e
def sp_pairs : Sp := fun vs H Q _ => ∃ (S : Av) (p : Addr) (n : Nat) (z : Int), vs = [.ref p, .int z] ∧ Occ S H ∧ S p ∧ Box n H p ∧ n ≤ 800000 ∧ 1 ≤ z ∧ z ≤ 400 ∧ (∀ H', Dr p (n + 2000) H H' → Q .non H') ∧ ∀ (ps : List (Int × Int)) (a : Addr) H', okPairs ps z → At S H' (.ref a) (.list (ps.map prD)) → Dr p (n + 2000) H H' → Q (.ref a) H'
section
variable {P : Program} {w : World} {K : PySem.W.Frag} {mg : Str → Option Value} {base : Heap}
theorem ok_pairs (T : Txt K mg) (c__law_take : Cl P w K mg base 2 "_law_take" ["box", "many"] sp_take) (D : Df K mg "_law_pairs" s__law_pairs ["box", "size"]) : Cl P w K mg base 3 "_law_pairs" ["box", "size"] sp_pairs := by
  refine ok_of D sc__law_pairs (fun vs H Q E h => ?_) (fun f cdv A outer s H vs Q E hr h => ?_)
  · obtain ⟨S, p, n, m, rfl, _⟩ := h
    rfl
  · obtain ⟨S, p, n, z, rfl, ho, hSp, hb, hn, z0, z1, q1, q2⟩ := h
    refine ⟨_, (pss_cons (ps_set (i := 2) sc__law_pairs.nd rfl (.inl rfl) (pe_cl c__law_take hr (by decide) (by rfl) (pa_cons (pv 0) (pa_cons pe_int pa_nil))))
      (pss_cons (ps_if (pt_cmpR op_eq (pv 2) pe_int (nomark _)) (pss_one (ps_ret pe_non)) pss_nil)
      (pss_cons (ps_set (i := 3) sc__law_pairs.nd rfl (.inl rfl) (pe_ix ix_list (pe_lst (pa_cons (pv 1) (pa_cons pe_int (pa_cons pe_int pa_nil)))) (pe_op op_sub (pv 2) pe_int) (fun _ _ => rfl)))
      (pss_cons (ps_set (i := 4) sc__law_pairs.nd rfl (.inl rfl) (pe_lst pa_nil))
      (pss_cons (ps_set (i := 5) sc__law_pairs.nd rfl (.inl rfl) (pv 1))
      (pss_cons (ps_while PassesOwn.never (pt_cmpR op_gt (pv 5) pe_int (nomark _))
        (pss_cons (ps_expr (pe_bm PySem.F.plainAttrs_list PySem.F.slot_list_append PySem.F.type_list_append mt_append (pv 4) (pa_cons (pe_callB (call_min2 rfl) (by rfl) T.b_min (by decide +kernel) (pa_cons (pv 5) (pa_cons (pe_op op_add pe_int (pe_cl c__law_take hr (by decide) (by rfl) (pa_cons (pv 0) (pa_cons (pv 3) pa_nil)))) pa_nil))) pa_nil)))
        (pss_one (ps_set (i := 5) sc__law_pairs.nd rfl (.inl rfl) (pe_op op_sub (pv 5) (pe_ix ix_list (pv 4) (pe_un un_neg pe_int) (fun _ _ => rfl)))))))
      (pss_cons (ps_set (i := 6) sc__law_pairs.nd rfl (.inl rfl) (pe_ix ix_list (pe_lst (pa_cons pe_int (pa_cons (pe_cl c__law_take hr (by decide) (by rfl) (pa_cons (pv 0) (pa_cons pe_int pa_nil))) (pa_cons pe_int pa_nil)))) (pe_cl c__law_take hr (by decide) (by rfl) (pa_cons (pv 0) (pa_cons pe_int pa_nil))) (fun _ _ => rfl)))
      (pss_cons (ps_set (i := 7) sc__law_pairs.nd rfl (.inl rfl) (pe_lst pa_nil))
      (pss_cons (ps_for PassesOwn.never rfl (pi_list (pv 4)) (pg_name (i := 8) sc__law_pairs.nd rfl (.inl rfl))
        (pss_cons (ps_set (i := 6) sc__law_pairs.nd rfl (.inl rfl) (pe_op op_add (pv 6) (pe_op op_mul (pe_cl c__law_take hr (by decide) (by rfl) (pa_cons (pv 0) (pa_cons pe_int pa_nil))) (pe_cl c__law_take hr (by decide) (by rfl) (pa_cons (pv 0) (pa_cons pe_int pa_nil))))))
        (pss_cons (ps_expr (pe_bm PySem.F.plainAttrs_list PySem.F.slot_list_append PySem.F.type_list_append mt_append (pv 7) (pa_cons (pe_tup (pa_cons (pv 6) (pa_cons (pv 8) pa_nil))) pa_nil)))
        (pss_one (ps_set (i := 6) sc__law_pairs.nd rfl (.inl rfl) (pe_op op_add (pv 6) (pv 8)))))))
      (pss_cons (ps_set (i := 9) sc__law_pairs.nd rfl (.inl rfl) (pe_op op_mul (pe_op op_sub pe_int (pv 6)) (pe_callTy call_int1 (by rfl) T.b_int (by decide +kernel) (pa_cons (pe_cmpR op_eq (pe_cl c__law_take hr (by decide) (by rfl) (pa_cons (pv 0) (pa_cons pe_int pa_nil))) pe_int (nomark _)) pa_nil))))
      (pss_cons (ps_set (i := 10) sc__law_pairs.nd rfl (.inl rfl) (pe_lst pa_nil))
      (pss_cons (ps_for PassesOwn.never rfl (pi_list (pv 7)) (pg_tup rfl (pgs_cons (pg_name (i := 11) sc__law_pairs.nd rfl (.inl rfl)) (pgs_cons (pg_name (i := 8) sc__law_pairs.nd rfl (.inl rfl)) pgs_nil)))
        (pss_one (ps_expr (pe_bm PySem.F.plainAttrs_list PySem.F.slot_list_insert PySem.F.type_list_insert mt_insert (pv 10) (pa_cons (pe_cl c__law_take hr (by decide) (by rfl) (pa_cons (pv 0) (pa_cons (pe_op op_add (pe_callB call_len (by rfl) T.b_len (by decide +kernel) (pa_cons (pv 10) pa_nil)) pe_int) pa_nil))) (pa_cons (pe_tup (pa_cons (pe_op op_add (pv 11) (pv 9)) (pa_cons (pv 8) pa_nil))) pa_nil))))))
      (pss_one (ps_ret (pv 10))))))))))))))), ?_⟩
    refine ⟨.ref p, rfl, p, n, 4, rfl, hb, by omega, by decide, by decide, fun way H1 w0 w1 D1 => ⟨_, rfl, rfl, _, rfl, ite2 (fun e => q1 _ (D1.mono (by omega))) (fun e => ?_)⟩⟩
    have way1 : 1 ≤ way := by
      have : ¬ V.int way = V.int 0 := fun y => e (decide_eq_true y)
      have : ¬ way = 0 := fun y => this (by rw [y])
      omega
    -- most
    refine ⟨_, rfl, by show 3 ≤ sizeLine; decide, fun l hl => ⟨_, rfl, way, 1, rfl, rfl, ?_⟩⟩
    obtain ⟨mo, hmo, mo0, mo1⟩ : ∃ mo : Int, atI [V.int z, .int 1, .int 3] (way - 1) = some (.int mo) ∧ 1 ≤ mo ∧ mo ≤ 400 := by
      obtain ⟨y, hy, my⟩ := ix_int (ns := [z, 1, 3]) (i := way - 1) (by omega) (by show _ < ((3 : Nat) : Int); omega)
      simp only [List.mem_cons, List.not_mem_nil, or_false] at my
      exact ⟨y, hy, by omega, by omega⟩
    refine ⟨l, _, _, _, rfl, rfl, .inl (.inl upd_same), hmo, ?_⟩
    have DA : Dr p (n + 1) H (upd H1 l (.lst [.int z, .int 1, .int 3])) := D1.new hl
    generalize upd H1 l (.lst [.int z, .int 1, .int 3]) = H2 at DA ⊢
    -- parts
    refine ⟨Nat.zero_le _, fun Dp' hDp => ⟨_, rfl, ?_⟩⟩
    have L0 : LcD p (n + 1) H2 Dp' [] (upd H2 Dp' (.lst [])) := LcD.start DA.box hDp
    refine ⟨fun k σ H' => ∃ ms : List Int, k = (z - ms.sum).toNat ∧ ms.sum ≤ z ∧ (∀ m ∈ ms, 1 ≤ m) ∧ σ = [some (.ref p), some (.int z), some (.int way), some (.int mo), some (.ref Dp'), some (.int (z - ms.sum)), none, none, none, none, none, none] ∧ LcD p (n + 1 + ms.length) H2 Dp' (ms.map V.int) H', ⟨z.toNat, [], ?_, ?_, (fun _ y => nomatch y), ?_, L0⟩, ?_⟩
    · show z.toNat = (z - 0).toNat
      rw [Int.sub_zero]
    · show (0 : Int) ≤ z
      omega
    · rw [show z - ([] : List Int).sum = z from Int.sub_zero z]
      rfl
    · rintro k σ H3 ⟨ms, rfl, ms0, ms1, rfl, L⟩
      have lm := len_sum ms ms1
      refine ⟨_, rfl, _, _, rfl, rfl, _, rfl, ite2 (fun e2 => ?_) (fun e2 => ?_)⟩
      · have e2 : 0 < z - ms.sum := of_decide_eq_true e2
        refine ⟨fun σ' H' => ∃ y : Int, 1 ≤ y ∧ ms.sum + y ≤ z ∧ σ' = [some (.ref p), some (.int z), some (.int way), some (.int mo), some (.ref Dp'), some (.int (z - ms.sum - y)), none, none, none, none, none, none] ∧ LcD p (n + 1 + ms.length + 1) H2 Dp' (ms.map V.int ++ [.int y]) H', ?_, ?_⟩
        · rintro σ' H' ⟨y, y0, y1, rfl, L2⟩
          have es : (ms ++ [y]).sum = ms.sum + y := by
            rw [List.sum_append, List.sum_cons]
            show ms.sum + (y + 0) = _
            omega
          refine ⟨_, ?_, ms ++ [y], rfl, by omega, fun m hm => ?_, ?_, ?_⟩
          · rw [es]
            omega
          · rcases List.mem_append.mp hm with hm | hm
            · exact ms1 m hm
            · rw [List.mem_singleton.mp hm]
              exact y0
          · rw [es, show z - (ms.sum + y) = z - ms.sum - y by omega]
          · rw [List.map_append, List.length_append]
            exact L2
        · refine ⟨.ref Dp', rfl, .inl ⟨rfl, _, .inl (.inl L.at_)⟩, _, rfl, .ref p, rfl, _, rfl, p, n + 1 + ms.length, mo, rfl, L.dr.box, by omega, by omega, by omega, fun d H4 da db D4 => ⟨1, d, rfl, rfl, _, _, rfl, Dp', _, _, rfl, rfl, (L.keep D4).at_, ?_, ?_⟩⟩
          · rw [List.length_map]
            exact sz1000 (by omega)
          · refine ⟨_, rfl, .ref Dp', rfl, 1, rfl, Dp', _, -1, _, rfl, rfl, .inl (.inl upd_same), atI_last _ _, _, _, rfl, rfl, _, ?_, ?_, rfl, (L.keep D4).step _⟩
            · split <;> omega
            · split <;> omega
      · have ez : ms.sum = z := by
          have : ¬ 0 < z - ms.sum := fun y => e2 (decide_eq_true y)
          omega
        -- at
        have DB := DA.trans L.dr
        refine ⟨.ref p, rfl, p, n + 1 + ms.length, 1500, rfl, L.dr.box, by omega, by decide, by decide, fun d1 H4 d1a d1b D4 => ⟨by show 3 ≤ sizeLine; decide, fun l2 hl2 => ⟨.ref p, rfl, p, n + 1 + ms.length + 1, 3, rfl, (D4.new hl2).box, by omega, by decide, by decide, fun d2 H5 d2a d2b D5 => ?_⟩⟩⟩
        obtain ⟨a0, ha0, a00, a01⟩ : ∃ a0 : Int, atI [V.int 0, .int d1, .int 0] d2 = some (.int a0) ∧ 0 ≤ a0 ∧ a0 ≤ 1499 := by
          obtain ⟨y, hy, my⟩ := ix_int (ns := [0, d1, 0]) d2a d2b
          simp only [List.mem_cons, List.not_mem_nil, or_false] at my
          exact ⟨y, hy, by omega, by omega⟩
        have hl3 : H5 l2 = some (.lst [.int 0, .int d1, .int 0]) := D5.bt l2 _ (D4.box.ne hl2).symm upd_same
        refine ⟨l2, _, d2, _, rfl, rfl, .inl (.inl hl3), ha0, Nat.zero_le _, fun Ds hDs => ?_⟩
        have D45 : Dr p (n + 1 + ms.length + 1 + 1) H3 H5 := (D4.new hl2).trans D5
        have LP := L.keep D45
        have DC := DB.trans D45
        -- stretches
        refine ⟨.ref Dp', rfl, Dp', rfl, ⟨_, .inl (.inl (upd_old hDs LP.at_))⟩, for_list (K := K) (a := Dp') (xs := ms.map V.int) (fun j σ H' => ∃ (b0 : Int) (rows : List V) (ss : List (Int × Int)) (t8 : Option V), σ = [some (.ref p), some (.int z), some (.int way), some (.int mo), some (.ref Dp'), some (.int (z - ms.sum)), some (.int b0), some (.ref Ds), t8, none, none, none] ∧
          LcA S p (n + 3 + ms.length + 2 * j) H5 Ds rows (ss.map prD) H' ∧ ss.map (·.2) = ms.take j ∧ 0 ≤ b0 ∧ b0 ≤ 1499 + 20 * j + (ms.take j).sum ∧ (∀ s ∈ ss, 0 ≤ s.1 ∧ s.1 + s.2 ≤ b0) ∧ ss.Pairwise (fun s t => s.1 + s.2 ≤ t.1))
          ⟨a0, [], [], _, rfl, (LcA.start DC.box hDs).mono (by omega), rfl, a00, ?_, (fun _ y => nomatch y), List.Pairwise.nil⟩ (fun j σ H' _ ⟨b0, rows, ss, t8, _, LS, _⟩ => .inl (.inl (LS.l.dr.bt _ _ LP.ne LP.at_))) ?_ ?_⟩
        · show a0 ≤ 1499 + 20 * ((0 : Nat) : Int) + 0
          omega
        · rintro j x σ H6 hj ⟨b0, rows, ss, t8, rfl, LS, sm, b00, b01, sx, sp⟩
          have hjl : j < ms.length := by
            have := (List.getElem?_eq_some_iff.mp hj).1
            rwa [List.length_map] at this
          have hmj : ms[j]? = some ms[j] := List.getElem?_eq_getElem hjl
          rw [List.getElem?_map, hmj] at hj
          cases hj
          have mj1 := ms1 ms[j] (List.getElem_mem hjl)
          have ts : (ms.take (j + 1)).sum = (ms.take j).sum + ms[j] := sum_take hmj
          refine ⟨_, rfl, .ref p, rfl, p, n + 3 + ms.length + 2 * j, 3, rfl, LS.l.dr.box, by omega, by decide, by decide, fun d3 H7 d3a d3b D7 => ⟨.ref p, rfl, p, n + 3 + ms.length + 2 * j + 1, 11, rfl, D7.box, by omega, by decide, by decide, fun d4 H8 d4a d4b D8 => ⟨d3, d4, rfl, rfl, .inl ⟨by omega, by omega⟩, _, _, rfl, rfl, ?_⟩⟩⟩
          have dd : 0 ≤ d3 * d4 ∧ d3 * d4 ≤ 20 := by
            rcases (by omega : d3 = 0 ∨ d3 = 1 ∨ d3 = 2) with rfl | rfl | rfl <;> omega
          have D78 := D7.trans D8
          have LS2 := LS.on hSp D78
          refine ⟨.ref Ds, rfl, .inl ⟨rfl, _, .inl (.inl LS2.l.at_)⟩, _, rfl, _, rfl, by show 2 ≤ sizeLine; decide, fun t ht => ⟨Ds, _, _, rfl, rfl, upd_old ht LS2.l.at_, ?_, _, rfl, _, rfl, _, _, rfl, rfl, _, rows ++ [.ref t], ss ++ [(b0 + d3 * d4, ms[j])], _, rfl, ?_, ?_, ?_, ?_, ?_, ?_⟩⟩
          · rw [LS.len, List.length_map, ← List.length_map (·.2) (as := ss), sm]
            rw [List.length_take]
            exact sz1000 (by omega)
          · rw [List.map_append]
            have nt : ¬ Plus S Ds t := fun y => y.elim (fun y => (ho.dr ((DC.trans LS.l.dr).trans D78)).free ht y) fun y => ne_of_none LS2.l.at_ ht y.symm
            exact (LS.step hSp (D78.new ht) (At.ofpair nt upd_same)).mono (by omega)
          · rw [List.map_append, sm, List.take_add_one, hmj]
            rfl
          · omega
          · rw [ts]
            omega
          · intro s hs
            rcases List.mem_append.mp hs with hs | hs
            · have := sx s hs
              exact ⟨this.1, by omega⟩
            · rw [List.mem_singleton.mp hs]
              exact ⟨by show 0 ≤ b0 + d3 * d4; omega, by show b0 + d3 * d4 + ms[j] ≤ _; omega⟩
          · rw [List.pairwise_append]
            refine ⟨sp, List.pairwise_singleton _ _, fun s hs t' ht' => ?_⟩
            rw [List.mem_singleton.mp ht']
            have := (sx s hs).2
            show s.1 + s.2 ≤ b0 + d3 * d4
            omega
        · rintro σ H6 ⟨b0, rows, ss, t8, rfl, LS, sm, b00, b01, sx, sp⟩
          rw [List.length_map, List.take_length] at sm b01
          rw [List.length_map] at LS
          -- rise
          refine ⟨_, rfl, _, _, rfl, rfl, .ref p, rfl, p, n + 3 + ms.length + 2 * ms.length, 4, rfl, LS.l.dr.box, by omega, by decide, by decide, fun d5 H7 d5a d5b D7 => ⟨rfl, .inr ⟨_, rfl, _, _, rfl, rfl, .inl ⟨by omega, by omega⟩, ?_⟩⟩⟩
          have hri := rise_ok (decide (V.int d5 = V.int 0)) (a := 10000 - b0) (by omega)
          obtain ⟨ri, eri⟩ : ∃ ri, (10000 - b0) * (if decide (V.int d5 = V.int 0) = true then 1 else 0) = ri := ⟨_, rfl⟩
          rw [eri] at hri
          -- pairs
          refine ⟨Nat.zero_le _, fun Dq hDq => ?_⟩
          have LS2 := LS.on hSp D7
          have DD := (DC.trans LS.l.dr).trans D7
          refine ⟨.ref Ds, rfl, Ds, rfl, ⟨_, .inl (.inl (upd_old hDq LS2.l.at_))⟩, for_list (K := K) (a := Ds) (xs := rows) (fun j σ H' => ∃ (rows2 : List V) (ps : List (Int × Int)) (t8 t11 : Option V), σ = [some (.ref p), some (.int z), some (.int way), some (.int mo), some (.ref Dp'), some (.int (z - ms.sum)), some (.int b0), some (.ref Ds), t8, some (.int ri), some (.ref Dq), t11] ∧
            LcA S p (n + 4 + 3 * ms.length + j) H7 Dq rows2 (ps.map prD) H' ∧ ps.Perm ((ss.take j).map fun s => (s.1 + ri, s.2)))
            ⟨[], [], t8, none, (by rw [← eri]; rfl), (LcA.start DD.box hDq).mono (by omega), .nil⟩ (fun j σ H' _ ⟨rows2, ps, t8, t11, _, LQ, _⟩ => .inl (.inl (LQ.l.dr.bt _ _ LS2.l.ne LS2.l.at_))) ?_ ?_⟩
          · rintro j x σ H8 hj ⟨rows2, ps, t8, t11, rfl, LQ, pe⟩
            obtain ⟨dj, hdj, atj⟩ := LS2.a.get hj
            rw [List.getElem?_map] at hdj
            cases hsj : ss[j]? with
            | none =>
              rw [hsj] at hdj
              cases hdj
            | some sj =>
              rw [hsj] at hdj
              cases hdj
              obtain ⟨t, rfl, nt, et⟩ := atj.pair
              have jl : j < ss.length := (List.getElem?_eq_some_iff.mp hsj).1
              have sl : ss.length = ms.length := by
                rw [← List.length_map (·.2) (as := ss), sm]
              have pl : ps.length = j := by
                rw [pe.length_eq, List.length_map, List.length_take]
                omega
              have rl : rows2.length = j := by
                rw [LQ.len, List.length_map, pl]
              have et8 : H8 t = some (.tup [.int sj.1, .int sj.2]) := LQ.l.dr.bt _ _ (fun y => nt (.inl (y ▸ hSp))) et
              refine ⟨t, _, rfl, .inl (.inl et8), rfl, .int sj.1, [.int sj.2], rfl, .int sj.2, [], rfl, rfl, ?_⟩
              refine ⟨.ref Dq, rfl, .inl ⟨rfl, _, .inl (.inl LQ.l.at_)⟩, .ref p, rfl, .ref Dq, rfl, _, _, rfl, .inl ⟨_, .inl (.inl LQ.l.at_), rfl⟩, _, 1, rfl, rfl, p, n + 4 + 3 * ms.length + j, _, rfl, LQ.l.dr.box, by omega, by omega, by omega, fun d6 H9 d6a d6b D9 => ?_⟩
              have LQ2 := LQ.on hSp D9
              refine ⟨_, rfl, _, rfl, _, _, rfl, rfl, _, rfl, by show 2 ≤ sizeLine; decide, fun t2 ht2 => ⟨Dq, _, _, _, rfl, rfl, upd_old ht2 LQ2.l.at_, ?_, d6a, by omega, rows2.take d6.toNat ++ [.ref t2] ++ rows2.drop d6.toNat, ps.take d6.toNat ++ [(sj.1 + ri, sj.2)] ++ ps.drop d6.toNat, _, _, rfl, ?_, ?_⟩⟩
              · rw [rl]
                exact sz1000 (by omega)
              · have n2 : ¬ Plus S Dq t2 := fun y => y.elim (fun y => (ho.dr ((DD.trans LQ.l.dr).trans D9)).free ht2 y) fun y => ne_of_none LQ2.l.at_ ht2 y.symm
                rw [List.map_append, List.map_append, List.map_take, List.map_drop]
                have D9' : Dr p (n + 4 + 3 * ms.length + j + 1) H8 (upd H9 t2 (.tup [.int (sj.1 + ri), .int sj.2])) := D9.new ht2
                have A9 := LQ.all hSp D9'
                exact (LQ.put D9' (((A9.take d6.toNat).app (.cons (At.ofpair n2 upd_same) .nil)).app (A9.drop d6.toNat))).mono (by omega)
              · have e9 : (ss.take (j + 1)).map (fun s => (s.1 + ri, s.2)) = (ss.take j).map (fun s => (s.1 + ri, s.2)) ++ [(sj.1 + ri, sj.2)] := by
                  rw [List.take_add_one, hsj, List.map_append]
                  rfl
                rw [e9]
                exact (perm_ins ps _ _).trans (pe.append_right _)
          · rintro σ H8 ⟨rows2, ps, t8, t11, rfl, LQ, pe⟩
            have rl : rows.length = ss.length := by
              rw [LS.len, List.length_map]
            rw [rl, List.take_length] at pe
            have sl : ss.length = ms.length := by
              rw [← List.length_map (·.2) (as := ss), sm]
            exact ⟨_, rfl, q2 ps Dq H8 (okPairs_of sm ms1 ez z1 hri.1 hri.2 sx sp pe) (LQ.done ((ho.dr DD).free hDq)) ((DD.trans LQ.l.dr).mono (by omega))⟩
end
end My
set_option Elab.async false
set_option linter.all false
set_option maxRecDepth 100000
set_option maxHeartbeats 4000000
namespace My
open PySem PySem.Spec PyProof.Rows L2
def sp_keptCh : Sp := fun vs H Q _ => ∃ (S : Av) (v : V) (c : List Int), vs = [v] ∧ Occ S H ∧ ChIn S H v c ∧ okRow c ∧ ∀ v' H', Same H H' → At S H' v' (chD c) → Q v' H'
section
variable {P : Program} {w : World} {K : PySem.W.Frag} {mg : Str → Option Value} {base : Heap}
theorem ok_keptCh (T : Txt K mg) (c_is_whole : Cl P w K mg base 2 "is_whole" ["thing", "low", "high"] (sp_whole K)) (c_is_row : Cl P w K mg base 2 "is_row" ["thing", "fewest", "most"] sp_isRow) (D : Df K mg "kept_chapter" s_kept_chapter ["chapter"]) : Cl P w K mg base 3 "kept_chapter" ["chapter"] sp_keptCh := by
  refine ok_of D sc_kept_chapter (fun vs H Q E h => ?_) (fun f cdv A outer s H vs Q E hr h => ?_)
  · obtain ⟨S, v, c, rfl, _⟩ := h
    rfl
  · obtain ⟨S, v, c, rfl, ho, ⟨a, rfl, na, ra⟩, ok, q⟩ := h
    refine ⟨_, (pss_cons (ps_if (pt_not (pt_val (pe_cl c_is_row hr (by decide) (by rfl) (pa_cons (pv 0) (pa_cons pe_int (pa_cons (C8.pe_gc (by rfl) T.g_MOST_VERSES) pa_nil)))))) (pss_one ps_never) pss_nil)
      (pss_cons (ps_if (pt_not (pt_val (pe_callB (cr_all rfl) (by rfl) T.b_all (by decide +kernel) (pa_cons (pe_lc (own := [("parts", 1)]) rfl sc_kept_chapter.nd (pi_row (pv 0)) (blkOk_by (own := [("parts", 1)]) (N := N_kept_chapter) (sc := defScope s_kept_chapter) (by decide +kernel)) (fun _ _ _ _ _ => (pg_name (i := 1) sc_kept_chapter.nd rfl (.inl rfl))) (fun _ _ _ _ _ => pts_nil) (fun _ _ _ _ _ => (pe_cl c_is_whole hr (by decide) (by rfl) (pa_cons (pv 1) (pa_cons pe_int (pa_cons (C8.pe_gc (by rfl) T.g_MOST_VERSE_PARTS) pa_nil)))))) pa_nil)))) (pss_one ps_never) pss_nil)
      (pss_one (ps_ret (pe_callTy call_tuple_of (by rfl) T.b_tuple (by decide +kernel) (pa_cons (pv 0) pa_nil)))))), ?_⟩
    have l1 : ((c.map V.int).length : Int) ≤ 30 := by
      rw [List.length_map]
      have := ok.l1
      omega
    have l0 : (1 : Int) ≤ ((c.map V.int).length : Int) := by
      rw [List.length_map]
      have := ok.l0
      omega
    refine ⟨.ref a, rfl, a, _, 1, 30, rfl, ra, fun H1 S1 => ?_⟩
    rw [decide_eq_true l0, decide_eq_true l1]
    refine ⟨_, rfl, ite2 (fun z => absurd z (by decide)) fun _ => ?_⟩
    obtain ⟨b, hq⟩ := (ra.same S1).sq (K := K)
    refine ⟨.ref a, rfl, a, b, _, rfl, hq, fun Dl hDl => ?_⟩
    refine lc_it walk_row (fun i H' => Same H1 H' ∧ H' Dl = some (.lst ((c.take i).map fun _ => .bl true))) ⟨same_new hDl, upd_same⟩ (fun i H' _ ⟨z, _⟩ => hq.same z) ?_ ?_
    · rintro i x H2 H2' hi ⟨hs, hD⟩ ⟨rfl, hx⟩
      rw [List.length_map] at hi
      have hci : c[i]? = some c[i] := List.getElem?_eq_getElem hi
      rw [List.getElem?_map, hci] at hx
      cases hx
      have hz := ok.x c[i] (List.getElem_mem hi)
      have ew : whole (.int c[i]) 1 4 = true := by
        show (decide (1 ≤ c[i]) && decide (c[i] ≤ 4)) = true
        rw [decide_eq_true hz.1, decide_eq_true hz.2, Bool.true_and]
      refine ⟨rfl, .int c[i], rfl, .int c[i], 1, 4, rfl, .int _, ?_⟩
      rw [ew]
      refine ⟨_, hD, ?_, ?_, ?_⟩
      · rw [List.length_map, List.length_take]
        exact Evl.sz_lt (by have := ok.l1; omega)
      · exact fun b o e => by
          rw [upd_ne (ne_of_none e hDl)]
          exact hs b o e
      · rw [upd_same, List.take_add_one, hci, List.map_append]
        rfl
    · rintro H2 ⟨hs, hD⟩
      rw [List.length_map, List.take_length] at hD
      refine ⟨Dl, c.map fun _ => true, rfl, .inl (.inl (by rw [hD, List.map_map]; rfl)), ?_⟩
      have e5 : (c.map fun _ => true).all id = true := by
        rw [List.all_map]
        exact List.all_eq_true.mpr fun _ _ => rfl
      rw [e5]
      refine ⟨_, rfl, ite2 (fun z => absurd z (by decide)) fun _ => ?_⟩
      exact ⟨.ref a, rfl, row_tuple (ho.same (S1.trans hs)) na (ra.same (S1.trans hs)) (AtAll.ints c) fun v H' s' hv => q v H' ((S1.trans hs).trans s') hv⟩
theorem okName.name {w : List Nat} (h : okName w) : nameL w = true := by
  unfold nameL
  rw [decide_eq_true h.l0, decide_eq_true h.l1, Bool.true_and, Bool.true_and]
  exact List.all_eq_true.mpr fun c hc => decide_eq_true (h.a c hc)
def sp_keptBk : Sp := fun vs H Q _ => ∃ (S : Av) (v : V) (nm : List Nat) (C : List (List Int)) (n : Addr) (nms : List (List Nat)), vs = [v, .ref n] ∧ Occ S H ∧ BkIn S H v nm C ∧ H n = some (.lst (nmV nms)) ∧ okName nm ∧ nm ∉ nms ∧ 1 ≤ C.length ∧ C.length ≤ 12 ∧ (∀ c ∈ C, okRow c) ∧
  ∀ v' H', Same H H' → At S H' v' (bkD (nm, C)) → Q v' H'
theorem ok_keptBk (T : Txt K mg) (c_is_name : Cl P w K mg base 3 "is_name" ["thing"] (sp_name K)) (c_is_tuple : Cl P w K mg base 2 "is_tuple" ["thing", "fewest", "most"] sp_isTup) (c_is_row : Cl P w K mg base 2 "is_row" ["thing", "fewest", "most"] sp_isRow) (c_kept_chapter : Cl P w K mg base 3 "kept_chapter" ["chapter"] sp_keptCh) (D : Df K mg "kept_book" s_kept_book ["book", "names"]) : Cl P w K mg base 4 "kept_book" ["book", "names"] sp_keptBk := by
  refine ok_of D sc_kept_book (fun vs H Q E h => ?_) (fun f cdv A outer s H vs Q E hr h => ?_)
  · obtain ⟨S, v, nm, C, n, nms, rfl, _⟩ := h
    rfl
  · obtain ⟨S, v, nm, C, n, nms, rfl, ho, ⟨a, c, xs, rfl, ha, hc, hx⟩, hn, on, nn, c0, c1, ok, q⟩ := h
    refine ⟨_, (pss_cons (ps_if (pt_not (pt_val (pe_cl c_is_tuple hr (by decide) (by rfl) (pa_cons (pv 0) (pa_cons pe_int (pa_cons pe_int pa_nil)))))) (pss_one ps_never) pss_nil)
      (pss_cons (ps_asg (pv 0) (pg_tup rfl (pgs_cons (pg_name (i := 2) sc_kept_book.nd rfl (.inl rfl)) (pgs_cons (pg_name (i := 3) sc_kept_book.nd rfl (.inl rfl)) pgs_nil))))
      (pss_cons (ps_if (pt_not (pt_val (pe_cl c_is_name hr (by decide) (by rfl) (pa_cons (pv 2) pa_nil)))) (pss_one ps_never) pss_nil)
      (pss_cons (ps_if (pt_cmpR op_in_seq (pv 2) (pv 1) rfl) (pss_one ps_never) pss_nil)
      (pss_cons (ps_if (pt_not (pt_val (pe_cl c_is_row hr (by decide) (by rfl) (pa_cons (pv 3) (pa_cons pe_int (pa_cons (C8.pe_gc (by rfl) T.g_MOST_BOOK_CHAPTERS) pa_nil)))))) (pss_one ps_never) pss_nil)
      (pss_one (ps_ret (pe_tup (pa_cons (pv 2) (pa_cons (pe_callTy call_tuple_of (by rfl) T.b_tuple (by decide +kernel) (pa_cons (pe_lc (own := [("chapter", 4)]) rfl sc_kept_book.nd (pi_row (pv 3)) (blkOk_by (own := [("chapter", 4)]) (N := N_kept_book) (sc := defScope s_kept_book) (by decide +kernel)) (fun _ _ _ _ _ => (pg_name (i := 4) sc_kept_book.nd rfl (.inl rfl))) (fun _ _ _ _ _ => pts_nil) (fun _ _ _ _ _ => (pe_cl c_kept_chapter hr (by decide) (by rfl) (pa_cons (pv 4) pa_nil)))) pa_nil)) pa_nil)))))))))), ?_⟩
    have lx := hx.1
    have l1 : (xs.length : Int) ≤ 12 := by omega
    have l0 : (1 : Int) ≤ (xs.length : Int) := by omega
    have eN : nameV (.str (SX.S nm)) = true := on.name
    refine ⟨.ref a, rfl, a, _, 2, 2, rfl, ha, _, rfl, ite2 (fun z => absurd (show false = true from z) Bool.false_ne_true) fun _ => ?_⟩
    refine ⟨.ref a, rfl, a, _, rfl, .inl (.inl ha), rfl, _, _, rfl, _, _, rfl, rfl, ?_⟩
    refine ⟨_, rfl, _, rfl, .str nm (by have := on.l1; omega) (fun c h => let128 c (on.a c h)), fun H1 S1 => ?_⟩
    rw [eN]
    refine ⟨_, rfl, ite2 (fun z => absurd z (by decide)) fun _ => ?_⟩
    refine ⟨_, rfl, .ref n, rfl, n, _, rfl, .inl (.inl (.inl (S1 _ _ hn))), rfl, flat_nm nms, _, rfl, ?_⟩
    rw [if_neg Bool.false_ne_true, inV_nm, decide_eq_false nn]
    refine ite2 (fun z => absurd z (by decide)) fun _ => ?_
    refine ⟨.ref c, rfl, c, _, 1, 12, rfl, hc.same S1, fun H2 S2 => ?_⟩
    rw [decide_eq_true l0, decide_eq_true l1]
    refine ⟨_, rfl, ite2 (fun z => absurd z (by decide)) fun _ => ?_⟩
    have S12 := S1.trans S2
    obtain ⟨b, hq⟩ := (hc.same S12).sq (K := K)
    refine ⟨_, rfl, .ref c, rfl, c, b, _, rfl, hq, fun Dl hDl => ?_⟩
    have hfr := Same.fresh S12 hDl
    refine lc_it walk_row (fun i H' => ∃ rows : List V, LcS S H2 Dl rows ((C.take i).map chD) H') ⟨[], LcS.start hDl⟩ (fun i H' _ ⟨rows, L⟩ => Sq.same hq L.s) ?_ ?_
    · rintro i x H3 H3' hi ⟨rows, L⟩ ⟨rfl, hxi⟩
      have hci : C[i]? = some C[i] := List.getElem?_eq_getElem (by omega)
      have hch := ((hx.plusN hfr).2 i x _ hxi hci).same (S12.trans L.s)
      refine ⟨rfl, x, rfl, Plus S Dl, x, C[i], rfl, L.occ (ho.same S12), hch, ok _ (List.getElem_mem _), fun v' H4 S4 hv => ?_⟩
      have L4 := L.keep S4
      refine ⟨rows, L4.at_, ?_, rows ++ [v'], ?_⟩
      · rw [L.len, List.length_map, List.length_take]
        exact Evl.sz_lt (by omega)
      · have := L4.step hv
        rw [List.take_add_one, hci, List.map_append]
        exact this
    · rintro H3 ⟨rows, L⟩
      rw [lx, List.take_length] at L
      have nD : ¬ S Dl := ho.free hfr
      refine ⟨Dl, rows, rfl, .inl ⟨.inl (.inl L.at_), fun l hl => ?_⟩⟩
      have S4 := same_new (o := .tup rows) hl
      have hl0 : H l = none := Same.fresh (S12.trans L.s) hl
      have hv : At S (upd H3 l (.tup rows)) (.ref l) (chsD C) := .tup (ho.free hl0) upd_same (AtAll.same L.done S4)
      refine ⟨by show 2 ≤ sizeLine; decide, fun t ht => ?_⟩
      have S5 := same_new (o := .tup [.str (SX.S nm), .ref l]) ht
      have ht0 : H t = none := Same.fresh (S12.trans (L.s.trans S4)) ht
      exact q _ _ (S12.trans (L.s.trans (S4.trans S5))) (.tup (ho.free ht0) upd_same (.cons (.str _) (.cons (At.same hv S5) .nil)))
theorem flat_le {α : Type} {β : Type} (f : α → List β) (n : Nat) : ∀ l : List α, (∀ b ∈ l, (f b).length ≤ n) → (l.flatMap f).length ≤ n * l.length
  | [], _ => Nat.zero_le _
  | b :: r, h => by
    have h1 := h b (List.mem_cons_self ..)
    have h2 := flat_le f n r fun c hc => h c (List.mem_cons_of_mem _ hc)
    rw [List.flatMap_cons, List.length_append, List.length_cons, Nat.mul_add]
    omega
theorem flat_sum : ∀ B : List (List Nat × List (List Int)), (B.flatMap fun b => b.2.map List.sum).sum = (B.map fun b => (b.2.map List.sum).sum).sum
  | [] => rfl
  | b :: r => by
    rw [List.flatMap_cons, List.sum_append, flat_sum r, List.map_cons, List.sum_cons]
theorem int_sumL : ∀ (B : List (List Nat × List (List Int))), ((B.map fun b => (b.2.length : Int)).sum) = (((B.map fun b => b.2.length).sum : Nat) : Int)
  | [] => rfl
  | b :: r => by
    rw [List.map_cons, List.sum_cons, List.map_cons, List.sum_cons, int_sumL r]
    omega
def sp_counts : Sp := fun vs H Q _ => ∃ (S : Av) (k : Addr) (xs : List V) (B : List (List Nat × List (List Int))), vs = [.ref k] ∧ H k = some (.lst xs) ∧ AtAll S H xs (B.map bkD) ∧ B.length ≤ 6 ∧ (∀ b ∈ B, b.2.length ≤ 12 ∧ ∀ c ∈ b.2, c.length ≤ 30) ∧ (B.map fun b => b.2.length).sum ≤ 40 ∧ (B.map fun b => (b.2.map List.sum).sum).sum ≤ 400 ∧ ∀ H', Same H H' → Q .non H'
theorem ok_counts (T : Txt K mg) (D : Df K mg "check_counts" s_check_counts ["books"]) : Cl P w K mg base 2 "check_counts" ["books"] sp_counts := by
  refine ok_of D sc_check_counts (fun vs H Q E h => ?_) (fun f cdv A outer s H vs Q E hr h => ?_)
  · obtain ⟨S, k, xs, B, rfl, _⟩ := h
    rfl
  · obtain ⟨S, k, xs, B, rfl, hk, ha, hB, hC, s1, s2, q⟩ := h
    refine ⟨_, (pss_cons (ps_setLc (i := 1) (own := [("name", 3), ("chapters", 4)]) rfl sc_check_counts.nd rfl rfl (sw_true rfl rfl rfl (by decide +kernel)) (pi_list (pv 0)) (blkOk_by (own := [("name", 3), ("chapters", 4)]) (N := N_check_counts) (sc := defScope s_check_counts) (by decide +kernel)) (fun _ _ _ _ _ => (pg_tupK (K := K) (n := 2) rfl rfl (pgs_cons (pg_name (i := 3) sc_check_counts.nd rfl (.inl rfl)) (pgs_cons (pg_name (i := 4) sc_check_counts.nd rfl (.inl rfl)) pgs_nil)))) (fun _ _ _ _ _ => pts_nil) (fun _ _ _ _ _ => (pe_callB (call_lenK (K := K) rfl) (by rfl) T.b_len (by decide +kernel) (pa_cons (pv 4) pa_nil))))
      (pss_cons (ps_if (pt_cmpR op_gt (pe_callB (cr_sum rfl) (by rfl) T.b_sum (by decide +kernel) (pa_cons (pv 1) pa_nil)) (C8.pe_gc (by rfl) T.g_MOST_CHAPTERS) (nomark _)) (pss_one ps_never) pss_nil)
      (pss_cons (ps_set (i := 2) sc_check_counts.nd rfl (.inl rfl) (pe_callB (cr_sum rfl) (by rfl) T.b_sum (by decide +kernel) (pa_cons (pe_lc2 (own := [("name", 3), ("chapters", 4), ("chapter", 5)]) (vs1 := [5]) rfl sc_check_counts.nd (pi_list (pv 0)) (blkOk_by (own := [("name", 3), ("chapters", 4), ("chapter", 5)]) (N := N_check_counts) (sc := defScope s_check_counts) (by decide +kernel)) (by decide) (fun _ _ _ _ _ => (pg_tupK (K := K) (n := 2) rfl rfl (pgs_cons (pg_name (i := 3) sc_check_counts.nd rfl (.inl rfl)) (pgs_cons (pg_name (i := 4) sc_check_counts.nd rfl (.inl rfl)) pgs_nil)))) (fun _ _ _ _ _ => pts_nil) (fun _ _ _ _ _ => (pi_tupK (K := K) rfl (pv 4))) (fun _ _ _ _ _ => (pg_name (i := 5) sc_check_counts.nd rfl (.inl rfl))) (fun _ _ _ _ _ => pts_nil) (fun _ _ _ _ _ => (pe_callB (cr_sumTK (K := K) rfl rfl) (by rfl) T.b_sum (by decide +kernel) (pa_cons (pv 5) pa_nil)))) pa_nil)))
      (pss_one (ps_if (pt_cmpR op_gt (pv 2) (C8.pe_gc (by rfl) T.g_MOST_PARTS) (nomark _)) (pss_one ps_never) pss_nil))))), ?_⟩
    have lx : xs.length = B.length := by rw [ha.len, List.length_map]
    refine ⟨.ref k, rfl, k, rfl, ⟨_, .inl (.inl hk)⟩, fun Dl hDl => ?_⟩
    refine lc_it (walk_list (xs := xs)) (fun i H' => Same H H' ∧ H' Dl = some (.lst (((B.take i).map fun b => (b.2.length : Int)).map V.int))) ⟨same_new hDl, upd_same⟩ (fun i H' _ ⟨z, _⟩ => z.seq (.inl (.inl hk))) ?_ ?_
    · rintro i x H1 H1' hi ⟨S1, hD⟩ ⟨rfl, hx⟩
      obtain ⟨b, hb, hv⟩ := ha.at_ hx
      obtain ⟨a, c, zs, rfl, na, ea, nc, ec, kz⟩ := (At.same hv S1).bk
      refine ⟨a, _, rfl, .inl (.inl ea), rfl, _, _, rfl, _, _, rfl, rfl, rfl, .ref c, rfl, _, _, rfl, .inr ⟨_, .inl (.inl ec), rfl⟩, _, hD, ?_, ?_, ?_⟩
      · rw [List.length_map, List.length_map, List.length_take]
        exact Evl.sz_lt (by omega)
      · exact fun b o e => by
          rw [upd_ne (ne_of_none e hDl)]
          exact S1 b o e
      · rw [upd_same, List.take_add_one, hb, kz.len, List.length_map, List.map_append, List.map_append]
        rfl
    · rintro H1 ⟨S1, hD⟩
      rw [lx, List.take_length] at hD
      refine ⟨.ref Dl, rfl, Dl, _, rfl, .inl (.inl hD), _, 40, rfl, rfl, _, rfl, ite2 (fun z => ?_) (fun _ => ?_)⟩
      · have z := of_decide_eq_true z
        rw [int_sumL] at z
        omega
      · refine ⟨.ref k, rfl, k, rfl, ⟨_, .inl (.inl (S1 _ _ hk))⟩, fun De hDe => ?_⟩
        have hDe0 : H De = none := Same.fresh S1 hDe
        refine lc2_it (walk_list (xs := xs)) (fun i H' => Same H H' ∧ H' De = some (.lst (((B.take i).flatMap fun b => b.2.map List.sum).map V.int))) ⟨S1.trans (same_new hDe), upd_same⟩ (fun i H' _ ⟨z, _⟩ => z.seq (.inl (.inl hk))) ?_ ?_
        · rintro i x H2 H2' hi ⟨S2, hD2⟩ ⟨rfl, hx⟩
          obtain ⟨b, hb, hv⟩ := ha.at_ hx
          have hbm : b ∈ B := List.mem_of_getElem? hb
          have hBi : ((B.take i).flatMap fun b => b.2.map List.sum).length ≤ 12 * i := by
            have := flat_le (fun b : List Nat × List (List Int) => b.2.map List.sum) 12 (B.take i) fun b hb => by
              rw [List.length_map]
              exact (hC b (List.mem_of_mem_take hb)).1
            rw [List.length_take] at this
            have : min i B.length ≤ i := Nat.min_le_left ..
            omega
          obtain ⟨a, c, zs, rfl, na, ea, nc, ec, kz⟩ := hv.bk
          have lz : zs.length = b.2.length := by rw [kz.len, List.length_map]
          refine ⟨a, _, rfl, .inl (.inl (S2 _ _ ea)), rfl, _, _, rfl, _, _, rfl, rfl, rfl, .ref c, rfl, c, rfl, ⟨_, .inl (.inl (S2 _ _ ec))⟩, ?_⟩
          refine turn1_it (walk_tup (xs := zs)) (fun j H' => Same H H' ∧ H' De = some (.lst (((B.take i).flatMap (fun b => b.2.map List.sum) ++ (b.2.take j).map List.sum).map V.int))) ?_ ?_ ?_ ?_
          · refine ⟨S2, ?_⟩
            rw [List.take_zero, List.map_nil, List.append_nil]
            exact hD2
          · exact fun j H' _ ⟨z, _⟩ => .inl (.inl (z _ _ ec))
          · rintro j y H3 H3' hj ⟨S3, hD3⟩ ⟨rfl, hy⟩
            obtain ⟨c', hc', hv'⟩ := kz.at_ hy
            obtain ⟨a', rfl, na', ea'⟩ := (At.same hv' S3).ch
            refine ⟨rfl, .ref a', rfl, a', c', rfl, .inl (.inl ea'), _, hD3, ?_, ?_, ?_⟩
            · have := (hC b hbm).1
              rw [List.length_map, List.length_append, List.length_map, List.length_take]
              exact Evl.sz_lt (by omega)
            · exact fun q o e => by
                rw [upd_ne (ne_of_none e hDe0)]
                exact S3 q o e
            · rw [upd_same, List.take_add_one, hc', List.map_append, List.map_append, List.map_append, List.map_append, List.append_assoc]
              rfl
          · rintro H3 ⟨S3, hD3⟩
            refine ⟨S3, ?_⟩
            rw [hD3, lz, List.take_length, List.take_add_one, hb, List.flatMap_append]
            simp
        · rintro H2 ⟨S2, hD2⟩
          rw [lx, List.take_length] at hD2
          refine ⟨De, _, rfl, .inl (.inl hD2), _, rfl, _, 400, rfl, rfl, _, rfl, ite2 (fun z => ?_) (fun _ => ?_)⟩
          · have z := of_decide_eq_true z
            rw [flat_sum] at z
            omega
          · exact q H2 S2
end
end My
set_option Elab.async false
set_option linter.all false
set_option maxRecDepth 100000
set_option maxHeartbeats 4000000
namespace My
open PySem PySem.Spec PyProof.Rows L2
abbrev Bks := List (List Nat × List (List Int))
/-- books of which an edition is made -/
structure okBks (B : Bks) : Prop where
  l0 : 1 ≤ B.length
  l1 : B.length ≤ 6
  nd : (B.map (·.1)).Nodup
  nm : ∀ b ∈ B, okName b.1
  ch : ∀ b ∈ B, 1 ≤ b.2.length ∧ b.2.length ≤ 12 ∧ ∀ c ∈ b.2, okRow c
  chs : (B.map fun b => b.2.length).sum ≤ 40
  prs : (B.map fun b => (b.2.map List.sum).sum).sum ≤ 400
/-- books handed in -/
def BksIn (S : Av) (H : Hp) (v : V) (B : Bks) : Prop := ∃ a xs, v = .ref a ∧ Rw H a xs ∧ xs.length = B.length ∧ ∀ (i : Nat) (x : V) (b : List Nat × List (List Int)), xs[i]? = some x → B[i]? = some b → BkIn S H x b.1 b.2
theorem BksIn.same {S : Av} {H H' : Hp} {v : V} {B : Bks} (h : BksIn S H v B) (s : Same H H') : BksIn S H' v B := by
  obtain ⟨a, xs, e, r, l, k⟩ := h
  exact ⟨a, xs, e, r.same s, l, fun i x b h1 h2 => (k i x b h1 h2).same s⟩
def sp_keptBks : Sp := fun vs H Q _ => ∃ (S : Av) (v : V) (B : Bks), vs = [v] ∧ Occ S H ∧ BksIn S H v B ∧ okBks B ∧ ∀ v' H', Same H H' → At S H' v' (bksD B) → Q v' H'
section
variable {P : Program} {w : World} {K : PySem.W.Frag} {mg : Str → Option Value} {base : Heap}
theorem ok_keptBks (T : Txt K mg) (c_is_row : Cl P w K mg base 2 "is_row" ["thing", "fewest", "most"] sp_isRow) (c_kept_book : Cl P w K mg base 4 "kept_book" ["book", "names"] sp_keptBk) (c_check_counts : Cl P w K mg base 2 "check_counts" ["books"] sp_counts) (D : Df K mg "kept_books" s_kept_books ["books"]) : Cl P w K mg base 5 "kept_books" ["books"] sp_keptBks := by
  refine ok_of D sc_kept_books (fun vs H Q E h => ?_) (fun f cdv A outer s H vs Q E hr h => ?_)
  · obtain ⟨S, v, B, rfl, _⟩ := h
    rfl
  · obtain ⟨S, v, B, rfl, ho, ⟨a, xs, rfl, ra, lx, hx⟩, ok, q⟩ := h
    refine ⟨_, (pss_cons (ps_if (pt_not (pt_val (pe_cl c_is_row hr (by decide) (by rfl) (pa_cons (pv 0) (pa_cons pe_int (pa_cons (C8.pe_gc (by rfl) T.g_MOST_BOOKS) pa_nil)))))) (pss_one ps_never) pss_nil)
      (pss_cons (ps_set (i := 1) sc_kept_books.nd rfl (.inl rfl) (pe_lst pa_nil))
      (pss_cons (ps_for PassesOwn.never rfl (pi_row (pv 0)) (pg_name (i := 2) sc_kept_books.nd rfl (.inl rfl))
        (pss_cons (ps_setLc (i := 3) (own := [("name", 4), ("chapters", 5)]) rfl sc_kept_books.nd rfl rfl (sw_true rfl rfl rfl (by decide +kernel)) (pi_list (pv 1)) (blkOk_by (own := [("name", 4), ("chapters", 5)]) (N := N_kept_books) (sc := defScope s_kept_books) (by decide +kernel)) (fun _ _ _ _ _ => (pg_tupK (K := K) (n := 2) rfl rfl (pgs_cons (pg_name (i := 4) sc_kept_books.nd rfl (.inl rfl)) (pgs_cons (pg_name (i := 5) sc_kept_books.nd rfl (.inl rfl)) pgs_nil)))) (fun _ _ _ _ _ => pts_nil) (fun _ _ _ _ _ => (pv 4)))
        (pss_one (ps_expr (pe_bm PySem.F.plainAttrs_list PySem.F.slot_list_append PySem.F.type_list_append mt_append (pv 1) (pa_cons (pe_cl c_kept_book hr (by decide) (by rfl) (pa_cons (pv 2) (pa_cons (pv 3) pa_nil))) pa_nil))))))
      (pss_cons (ps_expr (pe_cl c_check_counts hr (by decide) (by rfl) (pa_cons (pv 1) pa_nil)))
      (pss_one (ps_ret (pe_callTy call_tuple_of (by rfl) T.b_tuple (by decide +kernel) (pa_cons (pv 1) pa_nil)))))))), ?_⟩
    have l1 : (xs.length : Int) ≤ 6 := by
      have := ok.l1
      omega
    have l0 : (1 : Int) ≤ (xs.length : Int) := by
      have := ok.l0
      omega
    refine ⟨.ref a, rfl, a, _, 1, 6, rfl, ra, fun H1 S1 => ?_⟩
    rw [decide_eq_true l0, decide_eq_true l1]
    refine ⟨_, rfl, ite2 (fun z => absurd z (by decide)) fun _ => ?_⟩
    refine ⟨Nat.zero_le _, fun k hk => ?_⟩
    have hk0 : H k = none := Same.fresh S1 hk
    obtain ⟨bb, hq⟩ := (ra.same S1).sq (K := K)
    refine ⟨.ref a, rfl, a, bb, _, rfl, Sq.same hq (same_new hk), for_it walk_row (fun i σ H' => ∃ (t2 t3 t4 t5 : Option V) (rows : List V), σ = [some (.ref a), some (.ref k), t2, t3, t4, t5] ∧ LcS S H1 k rows ((B.take i).map bkD) H') ⟨_, _, _, _, _, rfl, LcS.start hk⟩ (fun i σ H' _ ⟨_, _, _, _, _, _, L⟩ => Sq.same hq L.s) ?_ ?_⟩
    · rintro i x σ H2 H2' hi ⟨t2, t3, t4, t5, rows, rfl, L⟩ ⟨rfl, hxi⟩
      have hbi : B[i]? = some B[i] := List.getElem?_eq_getElem (by omega)
      have hbm : B[i] ∈ B := List.getElem_mem _
      refine ⟨.ref k, rfl, k, rfl, ⟨_, .inl (.inl L.at_)⟩, fun n hn => ?_⟩
      have nk : n ≠ k := fun z => by
        rw [z, L.at_] at hn
        cases hn
      refine lc_it (walk_list (xs := rows)) (fun j H' => Same H2' H' ∧ H' n = some (.lst (nmV ((B.take j).map (·.1))))) ⟨same_new hn, upd_same⟩ (fun i H' _ ⟨z, _⟩ => z.seq (.inl (.inl L.at_))) ?_ ?_
      · rintro j y H3 H3' hj ⟨S3, hD⟩ ⟨rfl, hy⟩
        obtain ⟨b, hb, hv⟩ := L.a.at_ hy
        have hb' : B[j]? = some b := by
          rw [List.getElem?_take] at hb
          split at hb
          · exact hb
          · cases hb
        obtain ⟨a', c, zs, rfl, na, ea, nc, ec, kz⟩ := (At.same hv S3).bk
        refine ⟨a', _, rfl, .inl (.inl ea), rfl, _, _, rfl, _, _, rfl, rfl, rfl, _, rfl, _, hD, ?_, ?_, ?_⟩
        · unfold nmV
          rw [List.length_map, List.length_map, List.length_take]
          exact Evl.sz_lt (by have := ok.l1; omega)
        · exact fun b o e => by
            rw [upd_ne (ne_of_none e hn)]
            exact S3 b o e
        · rw [upd_same, List.take_add_one, hb', List.map_append]
          unfold nmV
          rw [List.map_append]
          rfl
      · rintro H3 ⟨S3, hD⟩
        have lr : rows.length = i := by
          rw [L.len, List.length_map, List.length_take]
          omega
        rw [lr] at hD
        have L3 := L.keep S3
        refine ⟨.ref k, rfl, .inl ⟨rfl, _, .inl (.inl L3.at_)⟩, ?_⟩
        refine ⟨x, rfl, .ref n, rfl, Plus S k, x, B[i].1, B[i].2, n, (B.take i).map (·.1), rfl, L3.occ (ho.same S1), ?_, hD, ok.nm _ hbm, ?_, (ok.ch _ hbm).1, (ok.ch _ hbm).2.1, (ok.ch _ hbm).2.2, fun v' H4 S4 hv' => ?_⟩
        · exact ((hx i x _ hxi hbi).plusN hk0).same (S1.trans L3.s)
        · intro z
          obtain ⟨b', hb', e'⟩ := List.mem_map.mp z
          obtain ⟨j, hj⟩ := List.mem_iff_getElem?.mp hb'
          rw [List.getElem?_take] at hj
          split at hj
          · rename_i hji
            have h1 : (B.map (·.1))[j]? = some B[i].1 := by
              rw [List.getElem?_map, hj, ← e']
              rfl
            have h2 : (B.map (·.1))[i]? = some B[i].1 := by
              rw [List.getElem?_map, hbi]
              rfl
            have := (List.getElem?_inj (i := j) (by rw [List.length_map]; omega) ok.nd).mp (h1.trans h2.symm)
            omega
          · cases hj
        · have L4 := L3.keep S4
          refine ⟨k, _, _, rfl, rfl, L4.at_, ?_, ?_⟩
          · rw [lr]
            exact Evl.sz_lt (by have := ok.l1; omega)
          · refine ⟨_, _, _, _, rows ++ [v'], rfl, ?_⟩
            have := L4.step hv'
            rw [List.take_add_one, hbi, List.map_append]
            exact this
    · rintro σ H2 ⟨t2, t3, t4, t5, rows, rfl, L⟩
      rw [lx, List.take_length] at L
      refine ⟨.ref k, rfl, S, k, rows, B, rfl, L.at_, L.done, ok.l1, fun b hb => ⟨(ok.ch b hb).2.1, fun c hc => ((ok.ch b hb).2.2 c hc).l1⟩, ok.chs, ok.prs, fun H3 S3 => ?_⟩
      have L3 := L.keep S3
      refine ⟨.ref k, rfl, k, rows, rfl, .inl ⟨.inl (.inl L3.at_), fun l hl => ?_⟩⟩
      have S4 := same_new (o := .tup rows) hl
      have hl0 : H l = none := Same.fresh (S1.trans L3.s) hl
      exact q _ _ (S1.trans (L3.s.trans S4)) (.tup (ho.free hl0) upd_same (AtAll.same L3.done S4))
end
end My
set_option Elab.async false
set_option linter.all false
set_option maxRecDepth 100000
set_option maxHeartbeats 4000000
namespace My
open PySem PySem.Spec PyProof.Rows L2
def lnP (s : Int × Int) : List Int := (List.range s.2.toNat).map fun (i : Nat) => s.1 + (i : Int)
def lnOf (ps : List (Int × Int)) : List Int := ps.flatMap lnP
theorem lnP_len (s : Int × Int) : (lnP s).length = s.2.toNat := by
  unfold lnP
  rw [List.length_map, List.length_range]
theorem rg_ln (a b : Int) : rgV a b = (lnP (a, b - a)).map V.int := by
  unfold rgV lnP
  rw [List.map_map]
  rfl
theorem mem_lnP {s : Int × Int} {z : Int} (h : z ∈ lnP s) : s.1 ≤ z ∧ z < s.1 + s.2 := by
  obtain ⟨i, hi, rfl⟩ := List.mem_map.mp h
  have := List.mem_range.mp hi
  omega
def sp_lnPair : Sp := fun vs H Q _ => ∃ (a : Addr) (s : Int × Int), vs = [.ref a] ∧ H a = some (.tup [.int s.1, .int s.2]) ∧ 0 ≤ s.1 ∧ 1 ≤ s.2 ∧ s.2 ≤ 400 ∧ s.1 + s.2 ≤ 10000 ∧ ∀ l, H l = none → Q (.ref l) (upd H l (.lst ((lnP s).map V.int)))
section
variable {P : Program} {w : World} {K : PySem.W.Frag} {mg : Str → Option Value} {base : Heap}
theorem ok_lnPair (T : Txt K mg) (c_is_whole : Cl P w K mg base 2 "is_whole" ["thing", "low", "high"] (sp_whole K)) (c_is_tuple : Cl P w K mg base 2 "is_tuple" ["thing", "fewest", "most"] sp_isTup) (D : Df K mg "lines_of_pair" s_lines_of_pair ["pair"]) : Cl P w K mg base 3 "lines_of_pair" ["pair"] sp_lnPair := by
  refine ok_of D sc_lines_of_pair (fun vs H Q E h => ?_) (fun f cdv A outer s H vs Q E hr h => ?_)
  · obtain ⟨a, s, rfl, _⟩ := h
    rfl
  · obtain ⟨a, ⟨s1, s2⟩, rfl, ha, h0, h1, h2, h3, q⟩ := h
    have h0 : 0 ≤ s1 := h0
    have h1 : 1 ≤ s2 := h1
    have h2 : s2 ≤ 400 := h2
    have h3 : s1 + s2 ≤ 10000 := h3
    refine ⟨_, (pss_cons (ps_if (pt_not (pt_val (pe_cl c_is_tuple hr (by decide) (by rfl) (pa_cons (pv 0) (pa_cons pe_int (pa_cons pe_int pa_nil)))))) (pss_one ps_never) pss_nil)
      (pss_cons (ps_asg (pv 0) (pg_tup rfl (pgs_cons (pg_name (i := 1) sc_lines_of_pair.nd rfl (.inl rfl)) (pgs_cons (pg_name (i := 2) sc_lines_of_pair.nd rfl (.inl rfl)) pgs_nil))))
      (pss_cons (ps_if (pt_not (PW.pt (pw_and (pt_val (pe_cl c_is_whole hr (by decide) (by rfl) (pa_cons (pv 1) (pa_cons pe_int (pa_cons (C8.pe_gc (by rfl) T.g_LAST_LINE) pa_nil))))) (pw_and1 (pt_val (pe_cl c_is_whole hr (by decide) (by rfl) (pa_cons (pv 2) (pa_cons pe_int (pa_cons (C8.pe_gc (by rfl) T.g_MOST_PARTS) pa_nil))))))))) (pss_one ps_never) pss_nil)
      (pss_cons (ps_if (pt_cmpR op_gt (pe_op op_sub (pe_op op_add (pv 1) (pv 2)) pe_int) (C8.pe_gc (by rfl) T.g_LAST_LINE) (nomark _)) (pss_one ps_never) pss_nil)
      (pss_one (ps_ret (pe_listRg rfl (by rfl) T.b_list (prg_2 (by rfl) T.b_range (pv 1) (pe_op op_add (pv 1) (pv 2)))))))))), ?_⟩
    refine ⟨.ref a, rfl, a, _, 2, 2, rfl, ha, _, rfl, ite2 (fun z => absurd (show false = true from z) Bool.false_ne_true) fun _ => ?_⟩
    refine ⟨.ref a, rfl, a, _, rfl, .inl (.inl ha), rfl, _, _, rfl, _, _, rfl, rfl, ?_⟩
    have e1 : whole (.int s1) 0 9999 = true := by
      show (decide (0 ≤ s1) && decide (s1 ≤ 9999)) = true
      rw [decide_eq_true h0, decide_eq_true (by omega), Bool.true_and]
    have e2 : whole (.int s2) 1 400 = true := by
      show (decide (1 ≤ s2) && decide (s2 ≤ 400)) = true
      rw [decide_eq_true h1, decide_eq_true h2, Bool.true_and]
    refine ⟨_, rfl, .int s1, 0, 9999, rfl, .int _, ?_⟩
    rw [e1]
    refine ⟨_, rfl, ite2 (fun _ => ?_) (fun z => absurd rfl z)⟩
    refine ⟨_, rfl, .int s2, 1, 400, rfl, .int _, ?_⟩
    rw [e2]
    refine ⟨_, rfl, ite2 (fun z => absurd z (by decide)) fun _ => ?_⟩
    refine ⟨_, rfl, _, rfl, s1, s2, rfl, rfl, s1 + s2, 1, rfl, rfl, _, 9999, rfl, rfl, _, rfl, ite2 (fun z => ?_) fun _ => ?_⟩
    · have z := of_decide_eq_true z
      omega
    · refine ⟨_, rfl, _, rfl, _, rfl, s1, s2, rfl, rfl, s1, s1 + s2, rfl, rfl, RgOk.of_le (by omega) (by omega) (by omega) (by omega), fun l hl => ?_⟩
      have e : s1 + s2 - s1 = s2 := by omega
      have := q l hl
      rw [rg_ln, e]
      exact this
/-- the dict of what is taken -/
def tkD (L : List Int) : List (Key × V) := L.map fun z => ((Sum.inl z : Key), V.bl true)
theorem tk_any (L : List Int) (z : Int) : ((tkD L).any fun kv => decide (kv.1 = (Sum.inl z : Key))) = decide (z ∈ L) := by
  unfold tkD
  rw [List.any_map]
  induction L with
  | nil => rfl
  | cons y r ih =>
    rw [List.any_cons, ih]
    show (decide ((Sum.inl y : Key) = Sum.inl z) || _) = _
    by_cases e : y = z
    · subst e
      rw [decide_eq_true rfl, Bool.true_or]
      exact (decide_eq_true (List.mem_cons_self ..)).symm
    · rw [decide_eq_false (fun h => e (Sum.inl.inj h)), Bool.false_or]
      exact decide_eq_decide.mpr ⟨fun h => List.mem_cons_of_mem _ h, fun h => (List.mem_cons.mp h).resolve_left fun q => e q.symm⟩
theorem tk_val {L : List Int} {z : Int} (h : z ∉ L) : valV (tkD L) (Sum.inl z : Key) = none := by
  unfold valV
  have e : (tkD L).find? (fun kv => decide (kv.1 = (Sum.inl z : Key))) = none := by
    rw [List.find?_eq_none]
    intro kv hk hd
    have : ((tkD L).any fun kv => decide (kv.1 = (Sum.inl z : Key))) = true := List.any_eq_true.mpr ⟨kv, hk, hd⟩
    rw [tk_any] at this
    exact h (of_decide_eq_true this)
  rw [e]
  rfl
theorem tk_put {L : List Int} {z : Int} (h : z ∉ L) : putK (tkD L) (Sum.inl z : Key) (.bl true) = tkD (L ++ [z]) := by
  unfold putK
  rw [tk_any, decide_eq_false h, if_neg Bool.false_ne_true]
  unfold tkD
  rw [List.map_append]
  rfl
theorem tk_keys (L : List Int) : (tkD L).map (fun kv => kV kv.1) = L.map V.int := by
  unfold tkD
  rw [List.map_map]
  rfl
theorem lnOf_len : ∀ ps : List (Int × Int), (∀ s ∈ ps, 1 ≤ s.2) → ((lnOf ps).length : Int) = (ps.map (·.2)).sum
  | [], _ => rfl
  | s :: r, h => by
    have h1 := lnOf_len r fun x hx => h x (List.mem_cons_of_mem _ hx)
    have h2 := h s (List.mem_cons_self ..)
    unfold lnOf at h1 ⊢
    rw [List.flatMap_cons, List.length_append, List.map_cons, List.sum_cons, ← h1, lnP_len]
    omega
/-- lines handed in: none, or pairs -/
def LnIn (H : Hp) (v : V) : Option (List (Int × Int)) → Prop
  | none => v = .non
  | some ps => ∃ a xs, v = .ref a ∧ Rw H a xs ∧ xs.length = ps.length ∧ ∀ (i : Nat) (x : V) (s : Int × Int), xs[i]? = some x → ps[i]? = some s → ∃ t, x = .ref t ∧ H t = some (.tup [.int s.1, .int s.2])
theorem LnIn.same {H H' : Hp} {v : V} {o : Option (List (Int × Int))} (h : LnIn H v o) (z : Same H H') : LnIn H' v o := by
  cases o with
  | none => exact h
  | some ps =>
    obtain ⟨a, xs, e, r, l, k⟩ := h
    exact ⟨a, xs, e, r.same z, l, fun i x s h1 h2 => let ⟨t, e1, e2⟩ := k i x s h1 h2; ⟨t, e1, z _ _ e2⟩⟩
def okLn (o : Option (List (Int × Int))) (n : Int) : Prop := 0 ≤ n ∧ n ≤ 400 ∧ match o with
  | none => True
  | some ps => okPairs ps n
def lnsD (o : Option (List (Int × Int))) (n : Int) : List Int := match o with
  | none => lnP (0, n)
  | some ps => lnOf ps
def sp_keptLn : Sp := fun vs H Q _ => ∃ (v : V) (o : Option (List (Int × Int))) (n : Int), vs = [v, .int n] ∧ LnIn H v o ∧ okLn o n ∧ ∀ l H', H l = none → Same H H' → H' l = some (.lst ((lnsD o n).map V.int)) → Q (.ref l) H'
theorem ok_keptLn (T : Txt K mg) (c_is_row : Cl P w K mg base 2 "is_row" ["thing", "fewest", "most"] sp_isRow) (c_lines_of_pair : Cl P w K mg base 3 "lines_of_pair" ["pair"] sp_lnPair) (D : Df K mg "kept_lines" s_kept_lines ["lines", "size"]) : Cl P w K mg base 4 "kept_lines" ["lines", "size"] sp_keptLn := by
  refine ok_of D sc_kept_lines (fun vs H Q E h => ?_) (fun f cdv A outer s H vs Q E hr h => ?_)
  · obtain ⟨v, o, n, rfl, _⟩ := h
    rfl
  · obtain ⟨v, o, n, rfl, hi, ⟨n0, n1, ok⟩, q⟩ := h
    refine ⟨_, (pss_cons (ps_if (pt_cmpR op_isN (pv 0) pe_non (nomark _)) (pss_one (ps_ret (pe_listRg rfl (by rfl) T.b_list (prg_1 (by rfl) T.b_range (pv 1))))) pss_nil)
      (pss_cons (ps_if (pt_not (pt_val (pe_cl c_is_row hr (by decide) (by rfl) (pa_cons (pv 0) (pa_cons pe_int (pa_cons (C8.pe_gc (by rfl) T.g_MOST_PAIRS) pa_nil)))))) (pss_one ps_never) pss_nil)
      (pss_cons (ps_set (i := 2) sc_kept_lines.nd rfl (.inl rfl) pe_dnewK)
      (pss_cons (ps_for PassesOwn.never rfl (pi_row (pv 0)) (pg_name (i := 3) sc_kept_lines.nd rfl (.inl rfl))
        (pss_one (ps_for PassesOwn.never rfl (pi_list (pe_cl c_lines_of_pair hr (by decide) (by rfl) (pa_cons (pv 3) pa_nil))) (pg_name (i := 4) sc_kept_lines.nd rfl (.inl rfl))
          (pss_cons (ps_if (pt_cmp (pc_din (hu_of hr) (pv 4) (pv 2))) (pss_one ps_never) pss_nil)
          (pss_one (ps_dput (hu_of hr) (pv 2) (pv 4) pe_bl rfl))))))
      (pss_cons (ps_if (pt_cmpR op_ne (pe_callB call_lenD (by rfl) T.b_len (by decide +kernel) (pa_cons (pv 2) pa_nil)) (pv 1) (nomark _)) (pss_one ps_never) pss_nil)
      (pss_one (ps_ret (pe_callTy (call_listD rfl) (by rfl) T.b_list (by decide +kernel) (pa_cons (pv 2) pa_nil))))))))), ?_⟩
    cases o with
    | none =>
      cases (show v = .non from hi)
      refine ⟨_, rfl, rfl, _, rfl, ite2 (fun _ => ?_) (fun z => absurd (decide_eq_true rfl) z)⟩
      refine ⟨_, rfl, n, rfl, RgOk.of_le (by omega) (by omega) (by omega) (by omega), fun l hl => ?_⟩
      have e : rgV 0 n = (lnsD none n).map V.int := by
        rw [rg_ln, Int.sub_zero]
        rfl
      rw [e]
      exact q l _ hl (same_new hl) upd_same
    | some ps =>
      obtain ⟨a, xs, rfl, ra, lx, hx⟩ := hi
      have ok : okPairs ps n := ok
      refine ⟨_, rfl, rfl, _, rfl, ite2 (fun z => nomatch (show V.ref a = V.non from of_decide_eq_true z)) (fun _ => ?_)⟩
      have l1 : (xs.length : Int) ≤ 400 := by
        have := ok.l0
        omega
      refine ⟨.ref a, rfl, a, _, 0, 400, rfl, ra, fun H1 S1 => ?_⟩
      rw [decide_eq_true (show (0 : Int) ≤ (xs.length : Int) by omega), decide_eq_true l1]
      refine ⟨_, rfl, ite2 (fun z => absurd z (by decide)) fun _ => ?_⟩
      intro d hd
      have hd0 : H d = none := Same.fresh S1 hd
      obtain ⟨bb, hq⟩ := ra.sq (K := K)
      have lz : ∀ L : List Int, (tkD L).length = L.length := fun L => by
        unfold tkD
        rw [List.length_map]
      have pos : ∀ s ∈ ps, 1 ≤ s.2 := fun s hs => (ok.x s hs).2.1
      have tot : ((lnOf ps).length : Int) = n := (lnOf_len ps pos).trans ok.sum
      refine ⟨.ref a, rfl, a, bb, _, rfl, Sq.same hq (S1.trans (same_new hd)), for_it walk_row (fun i σ H' => ∃ (t3 t4 : Option V), σ = [some (.ref a), some (.int n), some (.ref d), t3, t4] ∧ Same H H' ∧ H' d = some (.dK (tkD (lnOf (ps.take i))))) ⟨_, _, rfl, S1.trans (same_new hd), upd_same⟩ (fun i σ H' _ ⟨_, _, _, z, _⟩ => Sq.same hq z) ?_ ?_⟩
      · rintro i x σ H2 H2' hi ⟨t3, t4, rfl, S2, hD⟩ ⟨rfl, hxi⟩
        have hpi : ps[i]? = some ps[i] := List.getElem?_eq_getElem (by omega)
        have hpm : ps[i] ∈ ps := List.getElem_mem _
        obtain ⟨t, rfl, et⟩ := hx i x _ hxi hpi
        obtain ⟨x0, x1, x2, x3⟩ := ok.x _ hpm
        refine ⟨.ref t, rfl, t, ps[i], rfl, S2 _ _ et, x0, x1, x2, x3, fun l hl => ?_⟩
        have ld : l ≠ d := fun z => by
          rw [z, hD] at hl
          cases hl
        have hl0 : H l = none := Same.fresh S2 hl
        have pre : ((lnOf (ps.take i)).length : Int) + ps[i].2 ≤ n := by
          have h1 := lnOf_len (ps.take i) fun s hs => pos s (List.mem_of_mem_take hs)
          have h2 : ((ps.take (i + 1)).map (·.2)).sum + ((ps.drop (i + 1)).map (·.2)).sum = n := by
            rw [← List.sum_append, ← List.map_append, List.take_append_drop]
            exact ok.sum
          have h3 := len_sum ((ps.drop (i + 1)).map (·.2)) fun m hm => by
            obtain ⟨s, hs, rfl⟩ := List.mem_map.mp hm
            exact pos s (List.mem_of_mem_drop hs)
          rw [List.take_add_one, hpi, List.map_append, List.sum_append] at h2
          have h4 : ((some ps[i]).toList.map (·.2)).sum = ps[i].2 := by
            show ps[i].2 + 0 = _
            omega
          rw [h4] at h2
          omega
        refine ⟨l, rfl, ⟨_, .inl (.inl upd_same)⟩, for_it (walk_list (xs := (lnP ps[i]).map V.int)) (fun j σ H' => ∃ (t4 : Option V), σ = [some (.ref a), some (.int n), some (.ref d), some (.ref t), t4] ∧ Same H H' ∧ H' l = some (.lst ((lnP ps[i]).map V.int)) ∧ H' d = some (.dK (tkD (lnOf (ps.take i) ++ (lnP ps[i]).take j)))) ?_ ?_ ?_ ?_⟩
        · refine ⟨_, rfl, S2.trans (same_new hl), upd_same, ?_⟩
          rw [List.take_zero, List.append_nil, upd_ne ld.symm]
          exact hD
        · exact fun j σ H' _ ⟨_, _, _, z, _⟩ => .inl (.inl z)
        · rintro j y σ H3 H3' hj ⟨t4, rfl, S3, hL, hD3⟩ ⟨rfl, hy⟩
          rw [List.length_map, lnP_len] at hj
          have hlj : (lnP ps[i])[j]? = some (ps[i].1 + (j : Int)) := by
            unfold lnP
            rw [List.getElem?_map, List.getElem?_range hj]
            rfl
          rw [List.getElem?_map, hlj] at hy
          cases hy
          have nin : ps[i].1 + (j : Int) ∉ lnOf (ps.take i) ++ (lnP ps[i]).take j := fun z => by
            rcases List.mem_append.mp z with z | z
            · obtain ⟨s, hs, hz⟩ := List.mem_flatMap.mp z
              have b1 := mem_lnP hz
              obtain ⟨m, hm, em⟩ := List.mem_iff_getElem.mp hs
              rw [List.length_take] at hm
              have ap := List.pairwise_iff_getElem.mp ok.ap m i (by omega) (by omega) (by omega)
              rw [List.getElem_take] at em
              rw [em] at ap
              rcases ap with ap | ap <;> omega
            · obtain ⟨m, hm, em⟩ := List.mem_iff_getElem.mp z
              rw [List.length_take] at hm
              rw [List.getElem_take] at em
              unfold lnP at em
              rw [List.getElem_map, List.getElem_range] at em
              omega
          refine ⟨_, rfl, .ref d, rfl, d, _, rfl, DGet.k (k := Sum.inl (ps[i].1 + (j : Int))) hD3, _, rfl, ?_⟩
          rw [tk_val nin]
          refine ite2 (fun z => absurd z (by decide)) fun _ => ?_
          refine ⟨.ref d, rfl, _, rfl, d, _, rfl, DPut.k (k := Sum.inl (ps[i].1 + (j : Int))) hD3 ?_, _, rfl, ?_, ?_, ?_⟩
          · rw [lz, List.length_append, List.length_take]
            exact Evl.sz_lt (by omega)
          · exact fun q o e => by
              rw [upd_ne (ne_of_none e hd0)]
              exact S3 q o e
          · rw [upd_ne ld]
            exact hL
          · rw [upd_same, tk_put nin, List.take_add_one, hlj, List.append_assoc]
            rfl
        · rintro σ H3 ⟨t4, rfl, S3, hL, hD3⟩
          refine ⟨_, _, rfl, S3, ?_⟩
          rw [List.length_map, List.take_length] at hD3
          rw [hD3, List.take_add_one, hpi]
          unfold lnOf
          rw [List.flatMap_append]
          show some (HO.dK (tkD (_ ++ lnP ps[i]))) = some (HO.dK (tkD (_ ++ (lnP ps[i] ++ []))))
          rw [List.append_nil]
      · rintro σ H2 ⟨t3, t4, rfl, S2, hD⟩
        rw [lx, List.take_length] at hD
        refine ⟨.ref d, rfl, d, _, rfl, hD, _, rfl, rfl, _, rfl, ?_⟩
        rw [lz, tot]
        refine ite2 (fun z => absurd z (by simp)) fun _ => ?_
        refine ⟨.ref d, rfl, d, _, rfl, .inl hD, fun l hl => ?_⟩
        rw [tk_keys]
        exact q l _ (Same.fresh S2 hl) (S2.trans (same_new hl)) upd_same
end
end My
set_option Elab.async false
set_option linter.all false
set_option maxRecDepth 100000
set_option maxHeartbeats 4000000
namespace My
open PySem PySem.Spec PyProof.Rows L2
/-- the pairs so far with one line more -/
def fpStep (ps : List (Int × Int)) (z : Int) : List (Int × Int) := match ps.getLast? with
  | none => [(z, 1)]
  | some s => if z = s.1 + s.2 then ps.dropLast ++ [(s.1, s.2 + 1)] else ps ++ [(z, 1)]
def fewest (L : List Int) : List (Int × Int) := L.foldl fpStep []
theorem AtAll.snoc {S : Av} {H : Hp} : ∀ {ds : List PyData} {d : PyData} {xs : List V}, AtAll S H xs (ds ++ [d]) → ∃ ys y, xs = ys ++ [y] ∧ AtAll S H ys ds ∧ At S H y d
  | [], d, _, h => by
    cases h with
    | cons h1 h2 =>
      cases h2
      exact ⟨[], _, rfl, .nil, h1⟩
  | e :: ds, d, _, h => by
    cases h with
    | cons h1 h2 =>
      obtain ⟨ys, y, rfl, k1, k2⟩ := AtAll.snoc h2
      exact ⟨_ :: ys, y, rfl, .cons h1 k1, k2⟩
theorem fp_nil (z : Int) : fpStep [] z = [(z, 1)] := rfl
theorem fp_snoc (ps : List (Int × Int)) (s : Int × Int) (z : Int) : fpStep (ps ++ [s]) z = if z = s.1 + s.2 then ps ++ [(s.1, s.2 + 1)] else ps ++ [s] ++ [(z, 1)] := by
  unfold fpStep
  rw [List.getLast?_concat, List.dropLast_concat]
theorem fewest_succ {L : List Int} {i : Nat} {z : Int} (h : L[i]? = some z) : fewest (L.take (i + 1)) = fpStep (fewest (L.take i)) z := by
  unfold fewest
  rw [List.take_add_one, h, List.foldl_append]
  rfl
theorem fp_len (ps : List (Int × Int)) (z : Int) : (fpStep ps z).length ≤ ps.length + 1 := by
  rcases List.eq_nil_or_concat ps with rfl | ⟨qs, s, rfl⟩
  · rw [fp_nil]
    exact Nat.le_refl _
  · rw [List.concat_eq_append, fp_snoc]
    split
    · simp
    · simp
theorem fewest_len : ∀ (L : List Int) (ps : List (Int × Int)), (L.foldl fpStep ps).length ≤ ps.length + L.length
  | [], ps => Nat.le_refl _
  | z :: r, ps => by
    have h1 := fewest_len r (fpStep ps z)
    have h2 := fp_len ps z
    rw [List.foldl_cons, List.length_cons]
    omega
def sp_fewest (K : PySem.W.Frag) : Sp := fun vs H Q _ => ∃ (S : Av) (l : Addr) (L : List Int), vs = [.ref l] ∧ Occ S H ∧ SqL K H l (L.map V.int) ∧ L.length ≤ 1000 ∧ ∀ v H', Same H H' → At S H' v (.tuple ((fewest L).map prD)) → Q v H'
section
variable {P : Program} {w : World} {K : PySem.W.Frag} {mg : Str → Option Value} {base : Heap}
theorem ok_fewest (T : Txt K mg) (D : Df K mg "fewest_pairs" s_fewest_pairs ["lines"]) : Cl P w K mg base 2 "fewest_pairs" ["lines"] (sp_fewest K) := by
  refine ok_of D sc_fewest_pairs (fun vs H Q E h => ?_) (fun f cdv A outer s H vs Q E hr h => ?_)
  · obtain ⟨S, l, L, rfl, _⟩ := h
    rfl
  · obtain ⟨S, l, L, rfl, ho, hL, lL, q⟩ := h
    refine ⟨_, (pss_cons (ps_set (i := 1) sc_fewest_pairs.nd rfl (.inl rfl) (pe_lst pa_nil))
      (pss_cons (ps_for PassesOwn.never rfl (pi_list (pv 0)) (pg_name (i := 2) sc_fewest_pairs.nd rfl (.inl rfl))
        (pss_one (ps_if (PW.pt (pw_and (pt_truth (pv 1) (by intro _; rfl)) (pw_and1 (pt_cmpR op_eq (pv 2) (pe_callB (cr_sumT rfl) (by rfl) T.b_sum (by decide +kernel) (pa_cons (pe_ix ix_list (pv 1) (pe_un un_neg pe_int) (fun _ _ => rfl)) pa_nil)) (nomark _))))) (pss_cons (ps_asg (pe_bm0 PySem.F.plainAttrs_list PySem.F.slot_list_pop PySem.F.type_list_pop mt_pop (pv 1)) (pg_tup rfl (pgs_cons (pg_name (i := 3) sc_fewest_pairs.nd rfl (.inl rfl)) (pgs_cons (pg_name (i := 4) sc_fewest_pairs.nd rfl (.inl rfl)) pgs_nil))))
          (pss_one (ps_expr (pe_bm PySem.F.plainAttrs_list PySem.F.slot_list_append PySem.F.type_list_append mt_append (pv 1) (pa_cons (pe_tup (pa_cons (pv 3) (pa_cons (pe_op op_add (pv 4) pe_int) pa_nil))) pa_nil))))) (pss_one (ps_expr (pe_bm PySem.F.plainAttrs_list PySem.F.slot_list_append PySem.F.type_list_append mt_append (pv 1) (pa_cons (pe_tup (pa_cons (pv 2) (pa_cons pe_int pa_nil))) pa_nil)))))))
      (pss_one (ps_ret (pe_callTy call_tuple_of (by rfl) T.b_tuple (by decide +kernel) (pa_cons (pv 1) pa_nil)))))), ?_⟩
    refine ⟨Nat.zero_le _, fun k hk => ?_⟩
    refine ⟨.ref l, rfl, l, rfl, ⟨_, (same_new hk).seq hL⟩, for_it (walk_list (xs := L.map V.int)) (fun i σ H' => ∃ (t2 t3 t4 : Option V) (rows : List V), σ = [some (.ref l), some (.ref k), t2, t3, t4] ∧ LcS S H k rows ((fewest (L.take i)).map prD) H') ⟨_, _, _, _, rfl, LcS.start hk⟩ (fun i σ H' _ ⟨_, _, _, _, _, L⟩ => L.s.seq hL) ?_ ?_⟩
    · rintro i x σ H2 H2' hi ⟨t2, t3, t4, rows, rfl, c⟩ ⟨rfl, hxi⟩
      rw [List.length_map] at hi
      have hLi : L[i]? = some L[i] := List.getElem?_eq_getElem hi
      rw [List.getElem?_map, hLi] at hxi
      cases hxi
      rw [fewest_succ hLi]
      have lr : rows.length ≤ 1000 := by
        have := fewest_len (L.take i) []
        rw [c.len, List.length_map]
        unfold fewest
        rw [List.length_take] at this
        have : min i L.length ≤ i := Nat.min_le_left ..
        simp at *
        omega
      rcases List.eq_nil_or_concat (fewest (L.take i)) with e | ⟨ps, s, e⟩
      · rw [e] at c ⊢
        have er : rows = [] := List.eq_nil_of_length_eq_zero (by rw [c.len]; rfl)
        subst er
        refine ⟨_, rfl, false, .inl ⟨_, .inl (.inl c.at_), rfl⟩, ite2 (fun z => absurd z Bool.false_ne_true) fun _ => ite2 (fun z => absurd z Bool.false_ne_true) fun _ => ?_⟩
        refine ⟨.ref k, rfl, .inl ⟨rfl, _, .inl (.inl c.at_)⟩, _, rfl, by show 2 ≤ sizeLine; decide, fun t ht => ?_⟩
        have c2 := c.keep (same_new (o := .tup [.int L[i], .int 1]) ht)
        refine ⟨k, _, _, rfl, rfl, c2.at_, by show 0 < sizeLine; decide, _, _, _, [.ref t], rfl, ?_⟩
        have nt : ¬ Plus S k t := (c.occ ho).free ht
        exact c2.step (.ofpair nt upd_same)
      · rw [List.concat_eq_append] at e
        rw [e] at c ⊢
        have ca := c.a
        rw [List.map_append] at ca
        obtain ⟨ys, y, rfl, a1, a2⟩ := AtAll.snoc ca
        obtain ⟨t, rfl, nt, et⟩ := a2.pair
        rw [fp_snoc]
        refine ⟨_, rfl, true, .inl ⟨_, .inl (.inl c.at_), by cases ys <;> rfl⟩, ite2 (fun _ => ?_) (fun z => absurd rfl z)⟩
        refine ⟨_, rfl, _, rfl, _, rfl, k, _, -1, .ref t, rfl, rfl, .inl (.inl c.at_), atI_last ys _, t, [s.1, s.2], rfl, .inl (.inl et), rfl, _, rfl, ?_⟩
        have es : ([s.1, s.2] : List Int).sum = s.1 + s.2 := by simp
        rw [es]
        by_cases e3 : L[i] = s.1 + s.2
        · rw [if_pos e3]
          refine ite2 (fun _ => ?_) (fun z => absurd (decide_eq_true (by rw [e3])) z)
          refine ⟨.ref k, rfl, .inl ⟨rfl, _, .inl (.inl c.at_)⟩, k, _, .ref t, rfl, rfl, c.at_, by simp, ?_⟩
          rw [List.dropLast_concat]
          have c1 := c.put (ys := ys) (es := ps.map prD) a1
          have tk : t ≠ k := fun z => nt (.inr z)
          refine ⟨t, _, rfl, .inl (.inl (by rw [upd_ne tk]; exact et)), rfl, _, _, rfl, _, _, rfl, rfl, ?_⟩
          refine ⟨.ref k, rfl, .inl ⟨rfl, _, .inl (.inl c1.at_)⟩, _, rfl, _, rfl, _, _, rfl, rfl, by show 2 ≤ sizeLine; decide, fun t' ht' => ?_⟩
          have c2 := c1.keep (same_new (o := .tup [.int s.1, .int (s.2 + 1)]) ht')
          refine ⟨k, _, _, rfl, rfl, c2.at_, ?_, _, _, _, ys ++ [.ref t'], rfl, ?_⟩
          · rw [List.length_append] at lr
            exact Evl.sz_lt (by omega)
          · have nt' : ¬ Plus S k t' := (c1.occ ho).free ht'
            rw [List.map_append]
            exact c2.step (.ofpair nt' upd_same)
        · rw [if_neg e3]
          refine ite2 (fun z => absurd (V.int.inj (of_decide_eq_true z)) e3) (fun _ => ?_)
          refine ⟨.ref k, rfl, .inl ⟨rfl, _, .inl (.inl c.at_)⟩, _, rfl, by show 2 ≤ sizeLine; decide, fun t' ht' => ?_⟩
          have c2 := c.keep (same_new (o := .tup [.int L[i], .int 1]) ht')
          refine ⟨k, _, _, rfl, rfl, c2.at_, Evl.sz_lt (by omega), _, _, _, ys ++ [.ref t] ++ [.ref t'], rfl, ?_⟩
          have nt' : ¬ Plus S k t' := (c.occ ho).free ht'
          rw [List.map_append (l₂ := [(L[i], (1 : Int))])]
          exact c2.step (.ofpair nt' upd_same)
    · rintro σ H2 ⟨t2, t3, t4, rows, rfl, c⟩
      rw [List.length_map, List.take_length] at c
      refine ⟨.ref k, rfl, k, rows, rfl, .inl ⟨.inl (.inl c.at_), fun p hp => ?_⟩⟩
      have S4 := same_new (o := .tup rows) hp
      exact q _ _ (c.s.trans S4) (.tup (ho.free (Same.fresh c.s hp)) upd_same (AtAll.same c.done S4))
end
end My
set_option Elab.async false
set_option linter.all false
set_option maxRecDepth 100000
set_option maxHeartbeats 4000000
namespace My
open PySem PySem.Spec PyProof.Rows L2
/-- a part: the book's name, the chapter, the verse, the part -/
structure Pl where
  nm : List Nat
  c : Int
  v : Int
  p : Int
def plD (x : Pl) : PyData := .tuple [.str (SX.S x.nm), .int x.c, .int x.v, .int x.p]
def plV (nm : List Nat) (ci vi : Nat) (m : Int) : List Pl := (List.range m.toNat).map fun (k : Nat) => ⟨nm, 1 + (ci : Int), 1 + (vi : Int), 1 + (k : Int)⟩
def plC (nm : List Nat) (ci : Nat) (c : List Int) : List Pl := c.zipIdx.flatMap fun x => plV nm ci x.2 x.1
def plB (b : List Nat × List (List Int)) : List Pl := b.2.zipIdx.flatMap fun x => plC b.1 x.2 x.1
def plOf (B : Bks) : List Pl := B.flatMap plB
theorem zi_succ {α : Type} {c : List α} {j : Nat} {x : α} (h : c[j]? = some x) : (c.take (j + 1)).zipIdx = (c.take j).zipIdx ++ [(x, j)] := by
  have hl : j < c.length := (List.getElem?_eq_some_iff.mp h).1
  rw [List.take_add_one, h, List.zipIdx_append, List.length_take, Nat.min_eq_left (by omega), Nat.zero_add]
  rfl
theorem plV_len (nm : List Nat) (ci vi : Nat) (m : Int) : (plV nm ci vi m).length = m.toNat := by
  unfold plV
  rw [List.length_map, List.length_range]
theorem zi_mem {α : Type} {c : List α} {x : α × Nat} (h : x ∈ c.zipIdx) : x.1 ∈ c := by
  obtain ⟨a, i⟩ := x
  have := List.mem_zipIdx h
  exact List.mem_of_getElem? (by simpa using List.mem_zipIdx_iff_getElem?.mp h)
theorem plC_len {nm : List Nat} {ci : Nat} {c : List Int} (h : ∀ m ∈ c, m ≤ 4) : (plC nm ci c).length ≤ 4 * c.length := by
  have := flat_le (fun x : Int × Nat => plV nm ci x.2 x.1) 4 c.zipIdx fun x hx => by
    rw [plV_len]
    have := h x.1 (zi_mem hx)
    omega
  rw [List.length_zipIdx] at this
  exact this
theorem plB_len {b : List Nat × List (List Int)} (h : ∀ c ∈ b.2, c.length ≤ 30 ∧ ∀ m ∈ c, m ≤ 4) : (plB b).length ≤ 120 * b.2.length := by
  have := flat_le (fun x : List Int × Nat => plC b.1 x.2 x.1) 120 b.2.zipIdx fun x hx => by
    have h1 := h x.1 (zi_mem hx)
    have := plC_len (nm := b.1) (ci := x.2) h1.2
    omega
  rw [List.length_zipIdx] at this
  exact this
theorem plOf_len {B : Bks} (h : ∀ b ∈ B, b.2.length ≤ 12 ∧ ∀ c ∈ b.2, c.length ≤ 30 ∧ ∀ m ∈ c, m ≤ 4) : (plOf B).length ≤ 1440 * B.length := by
  exact flat_le plB 1440 B fun b hb => by
    have h1 := h b hb
    have := plB_len h1.2
    omega
def sp_places : Sp := fun vs H Q _ => ∃ (S : Av) (v : V) (B : Bks), vs = [v] ∧ Occ S H ∧ At S H v (bksD B) ∧ okBks B ∧ ∀ l rows H', H l = none → Same H H' → H' l = some (.lst rows) → AtAll S H' rows ((plOf B).map plD) → Q (.ref l) H'
section
variable {P : Program} {w : World} {K : PySem.W.Frag} {mg : Str → Option Value} {base : Heap}
theorem ok_places (T : Txt K mg) (D : Df K mg "places_in" s_places_in ["books"]) : Cl P w K mg base 2 "places_in" ["books"] sp_places := by
  refine ok_of D sc_places_in (fun vs H Q E h => ?_) (fun f cdv A outer s H vs Q E hr h => ?_)
  · obtain ⟨S, v, B, rfl, _⟩ := h
    rfl
  · obtain ⟨S, v, B, rfl, ho, hv, ok, q⟩ := h
    cases hv with
    | tup na ea ka =>
    rename_i a xs
    refine ⟨_, (pss_cons (ps_set (i := 1) sc_places_in.nd rfl (.inl rfl) (pe_lst pa_nil))
      (pss_cons (ps_for PassesOwn.never rfl (pi_tup (pv 0)) (pg_tup rfl (pgs_cons (pg_name (i := 2) sc_places_in.nd rfl (.inr rfl)) (pgs_cons (pg_name (i := 3) sc_places_in.nd rfl (.inl rfl)) pgs_nil)))
        (pss_one (ps_for PassesOwn.never rfl (pi_enumC true (by rfl) T.b_enumerate (pa_cons (pv 3) pa_nil) (pk_cons pe_int pk_nil)) (pg_tup rfl (pgs_cons (pg_name (i := 4) sc_places_in.nd rfl (.inr rfl)) (pgs_cons (pg_name (i := 5) sc_places_in.nd rfl (.inl rfl)) pgs_nil)))
          (pss_one (ps_for PassesOwn.never rfl (pi_enumC true (by rfl) T.b_enumerate (pa_cons (pv 5) pa_nil) (pk_cons pe_int pk_nil)) (pg_tup rfl (pgs_cons (pg_name (i := 6) sc_places_in.nd rfl (.inr rfl)) (pgs_cons (pg_name (i := 7) sc_places_in.nd rfl (.inl rfl)) pgs_nil)))
            (pss_one (ps_expr (pe_bm PySem.F.plainAttrs_list PySem.F.slot_list_extend PySem.F.type_list_extend mt_extend (pv 1) (pa_cons (pe_lc (own := [("part", 8)]) rfl sc_places_in.nd (pi_range2 (by rfl) T.b_range (pa_cons pe_int (pa_cons (pe_op op_add (pv 7) pe_int) pa_nil))) (blkOk_by (own := [("part", 8)]) (N := N_places_in) (sc := defScope s_places_in) (by decide +kernel)) (fun _ _ _ _ _ => (pg_name (i := 8) sc_places_in.nd rfl (.inl rfl))) (fun _ _ _ _ _ => pts_nil) (fun _ _ _ _ _ => (pe_tup (pa_cons (pv 2) (pa_cons (pv 4) (pa_cons (pv 6) (pa_cons (pv 8) pa_nil))))))) pa_nil)))))))))
      (pss_one (ps_ret (pv 1))))), ?_⟩
    refine ⟨Nat.zero_le _, fun k hk => ?_⟩
    have lx : xs.length = B.length := by rw [ka.len, List.length_map]
    have bnd : ∀ b ∈ B, b.2.length ≤ 12 ∧ ∀ c ∈ b.2, c.length ≤ 30 ∧ ∀ m ∈ c, m ≤ 4 := fun b hb => ⟨(ok.ch b hb).2.1, fun c hc => ⟨((ok.ch b hb).2.2 c hc).l1, fun m hm => (((ok.ch b hb).2.2 c hc).x m hm).2⟩⟩
    refine ⟨.ref a, rfl, a, rfl, ⟨_, .inl (.inl (same_new hk _ _ ea))⟩, for_it (walk_tup (xs := xs)) (fun i σ H' => ∃ (t2 t3 t4 t5 t6 t7 t8 : Option V) (rows : List V), σ = [some (.ref a), some (.ref k), t2, t3, t4, t5, t6, t7, t8] ∧ LcS S H k rows ((plOf (B.take i)).map plD) H')
      ⟨_, _, _, _, _, _, _, _, rfl, LcS.start hk⟩ (fun i σ H' _ ⟨_, _, _, _, _, _, _, _, _, L⟩ => .inl (.inl (L.s _ _ ea))) ?_ ?_⟩
    · rintro i x σ H1 H1' hi ⟨t2, t3, t4, t5, t6, t7, t8, rows, rfl, L1⟩ ⟨rfl, hxi⟩
      obtain ⟨b, hb, hv⟩ := ka.at_ hxi
      have hbm : b ∈ B := List.mem_of_getElem? hb
      obtain ⟨ab, ac, zs, rfl, nb, eb, nc, ec, kz⟩ := hv.bk
      have lz : zs.length = b.2.length := by rw [kz.len, List.length_map]
      have lB := plOf_len (B := B.take i) fun b hb => bnd b (List.mem_of_mem_take hb)
      rw [List.length_take] at lB
      have okl := ok.l1
      refine ⟨ab, _, rfl, .inl (.inl (L1.s _ _ eb)), rfl, _, _, rfl, _, _, rfl, rfl, ?_⟩
      refine ⟨.ref ac, rfl, ac, rfl, 1, zs, rfl, by decide, by decide, .inl (.inl (L1.s _ _ ec)), for_it walk_enumC (fun j σ H' => ∃ (t4 t5 t6 t7 t8 : Option V) (rows : List V), σ = [some (.ref a), some (.ref k), some (.str (SX.S b.1)), some (.ref ac), t4, t5, t6, t7, t8] ∧ LcS S H k rows ((plOf (B.take i) ++ plB (b.1, b.2.take j)).map plD) H')
        ⟨_, _, _, _, _, rows, rfl, ?_⟩ (fun i σ H' _ ⟨_, _, _, _, _, _, _, L⟩ => .inl (.inl (L.s _ _ ec))) ?_ ?_⟩
      · have e0 : plB (b.1, b.2.take 0) = [] := rfl
        rw [e0, List.append_nil]
        exact L1
      · rintro j y σ H2 H2' hj ⟨t4, t5, t6, t7, t8, rows, rfl, L2⟩ ⟨T, x1, y1, rfl, hT, rfl, e1, hy⟩
        cases e1
        have hy : zs[j]? = some y1 := hy
        obtain ⟨c, hc, hcv⟩ := kz.at_ hy
        have hcm : c ∈ b.2 := List.mem_of_getElem? hc
        obtain ⟨ad, rfl, nd, ed⟩ := hcv.ch
        have L2 := L2.keep (same_new (o := .tup [.int (1 + (j : Int)), .ref ad]) hT)
        have lC := plB_len (b := (b.1, b.2.take j)) fun c hc => (bnd b hbm).2 c (List.mem_of_mem_take hc)
        have lC : (plB (b.1, b.2.take j)).length ≤ 120 * (b.2.take j).length := lC
        rw [List.length_take] at lC
        have okc := (bnd b hbm).1
        refine ⟨T, _, rfl, .inl (.inl upd_same), rfl, _, _, rfl, _, _, rfl, rfl, ?_⟩
        refine ⟨.ref ad, rfl, ad, rfl, 1, c.map V.int, rfl, by decide, by decide, .inl (.inl (L2.s _ _ ed)), for_it walk_enumC (fun v σ H' => ∃ (t6 t7 t8 : Option V) (rows : List V), σ = [some (.ref a), some (.ref k), some (.str (SX.S b.1)), some (.ref ac), some (.int (1 + (j : Int))), some (.ref ad), t6, t7, t8] ∧ LcS S H k rows ((plOf (B.take i) ++ plB (b.1, b.2.take j) ++ plC b.1 j (c.take v)).map plD) H')
          ⟨_, _, _, rows, rfl, ?_⟩ (fun i σ H' _ ⟨_, _, _, _, _, L⟩ => .inl (.inl (L.s _ _ ed))) ?_ ?_⟩
        · have e0 : plC b.1 j (c.take 0) = [] := rfl
          rw [e0, List.append_nil]
          exact L2
        · rintro v y σ H3 H3' hv3 ⟨t6, t7, t8, rows, rfl, L3⟩ ⟨T3, x3, y3, rfl, hT3, rfl, e3, hy3⟩
          cases e3
          rw [List.length_map] at hv3
          have hcv3 : c[v]? = some c[v] := List.getElem?_eq_getElem hv3
          have hy3 : (c.map V.int)[v]? = some y3 := hy3
          rw [List.getElem?_map, hcv3] at hy3
          cases hy3
          have okr := (ok.ch b hbm).2.2 c hcm
          have hm4 := okr.x c[v] (List.getElem_mem _)
          have L3 := L3.keep (same_new (o := .tup [.int (1 + (v : Int)), .int c[v]]) hT3)
          have lD := plC_len (nm := b.1) (ci := j) (c := c.take v) fun m hm => (((okr.x m (List.mem_of_mem_take hm))).2)
          rw [List.length_take] at lD
          have okv := okr.l1
          refine ⟨T3, _, rfl, .inl (.inl upd_same), rfl, _, _, rfl, _, _, rfl, rfl, ?_⟩
          refine ⟨.ref k, rfl, .inl ⟨rfl, _, .inl (.inl L3.at_)⟩, ?_⟩
          refine ⟨_, rfl, c[v], 1, rfl, rfl, 1, c[v] + 1, rfl, ⟨by decide, by decide, by omega, by omega⟩, fun n hn => ?_⟩
          have en : (c[v] + 1 - 1).toNat = c[v].toNat := by omega
          rw [en]
          have oS := L3.occ ho
          refine lc_range (lo := 1) (n := c[v].toNat) (fun m H' => ∃ new : List V, LcS (Plus S k) (upd H3 T3 (.tup [.int (1 + (v : Int)), .int c[v]])) n new ((plV b.1 j v (m : Int)).map plD) H') ⟨[], LcS.start hn⟩ ?_ ?_
          · rintro m H4 hm ⟨new, N⟩
            have ln : new.length = m := by
              rw [N.len, List.length_map, plV_len]
              omega
            refine ⟨rfl, _, rfl, _, rfl, _, rfl, _, rfl, by show 4 ≤ sizeLine; decide, fun t ht => ?_⟩
            have N2 := N.keep (same_new (o := .tup [.str (SX.S b.1), .int (1 + (j : Int)), .int (1 + (v : Int)), .int (1 + (m : Int))]) ht)
            refine ⟨new, N2.at_, Evl.sz_lt (by omega), new ++ [.ref t], ?_⟩
            have nt : ¬ Plus (Plus S k) n t := (N.occ oS).free ht
            have hd : At (Plus (Plus S k) n) (upd H4 t (.tup [.str (SX.S b.1), .int (1 + (j : Int)), .int (1 + (v : Int)), .int (1 + (m : Int))])) (.ref t) (plD ⟨b.1, 1 + (j : Int), 1 + (v : Int), 1 + (m : Int)⟩) := .tup nt upd_same (.cons (.str _) (.cons (.int _) (.cons (.int _) (.cons (.int _) .nil))))
            have N3 := N2.step hd
            have ev : plV b.1 j v (((m + 1 : Nat)) : Int) = plV b.1 j v (m : Int) ++ [⟨b.1, 1 + (j : Int), 1 + (v : Int), 1 + (m : Int)⟩] := by
              unfold plV
              rw [Int.toNat_natCast, Int.toNat_natCast, List.range_succ, List.map_append]
              rfl
            rw [ev, List.map_append]
            exact N3
          · rintro H4 ⟨new, N⟩
            have em : ((c[v].toNat : Nat) : Int) = c[v] := Int.toNat_of_nonneg (by omega)
            rw [em] at N
            have L4 := L3.keep N.s
            have ln : new.length = c[v].toNat := by
              rw [N.len, List.length_map, plV_len]
            have lr : rows.length ≤ 1440 * 6 + 120 * 12 + 4 * 30 := by
              rw [L3.len, List.length_map, List.length_append, List.length_append]
              omega
            refine ⟨k, n, _, _, rfl, rfl, L4.at_, N.at_, Nat.le_of_lt (Evl.sz_lt (by omega)), _, _, _, rows ++ new, rfl, ?_⟩
            have ev : plC b.1 j (c.take (v + 1)) = plC b.1 j (c.take v) ++ plV b.1 j v c[v] := by
              unfold plC
              rw [zi_succ hcv3, List.flatMap_append]
              simp
            rw [ev, ← List.append_assoc, List.map_append (l₂ := plV b.1 j v c[v])]
            exact L4.put (L4.a.app N.done)
        · rintro σ H3 ⟨t6, t7, t8, rows, rfl, L3⟩
          rw [List.length_map, List.take_length] at L3
          refine ⟨_, _, _, _, _, rows, rfl, ?_⟩
          have ev : plB (b.1, b.2.take (j + 1)) = plB (b.1, b.2.take j) ++ plC b.1 j c := by
            unfold plB
            show ((b.2.take (j + 1)).zipIdx.flatMap _) = ((b.2.take j).zipIdx.flatMap _) ++ _
            rw [zi_succ hc, List.flatMap_append]
            simp
          rw [ev, ← List.append_assoc]
          exact L3
      · rintro σ H2 ⟨t4, t5, t6, t7, t8, rows, rfl, L2⟩
        rw [lz, List.take_length] at L2
        refine ⟨_, _, _, _, _, _, _, rows, rfl, ?_⟩
        have ev : plOf (B.take (i + 1)) = plOf (B.take i) ++ plB b := by
          unfold plOf
          rw [List.take_add_one, hb, List.flatMap_append]
          simp
        rw [ev]
        exact L2
    · rintro σ H1 ⟨t2, t3, t4, t5, t6, t7, t8, rows, rfl, L⟩
      rw [lx, List.take_length] at L
      exact ⟨.ref k, rfl, q k rows H1 hk L.s L.at_ L.done⟩
end
end My
set_option Elab.async false
set_option linter.all false
set_option maxRecDepth 100000
set_option maxHeartbeats 4000000
namespace My
open PySem PySem.Spec PyProof.Rows L2
def plK (x : Pl) : List Key := [.inr (SX.S x.nm), .inl x.c, .inl x.v, .inl x.p]
abbrev StF := List Key → Option (Int × Int)
def stPut (f : StF) (n : Int) (k : List Key) : StF := fun j => if j = k then some ((match f k with | some s => s.1 | none => n), n) else f j
def stPl (f : StF) (n : Int) (x : Pl) (m : Nat) : StF := (List.range m).foldl (fun f i => stPut f n ((plK x).take (i + 1))) f
def stOf (P : List Pl) : StF := P.zipIdx.foldl (fun f x => stPl f (x.2 : Nat) x.1 4) fun _ => none
/-- the dict's items are told by f -/
def DictF (S : Av) (H : Hp) (kvs : List (List Key × V)) (f : StF) : Prop := ∀ k, match f k with
  | none => valV kvs k = none
  | some s => ∃ v, valV kvs k = some v ∧ At S H v (prD s)
theorem DictF.bt {S : Av} {H H' : Hp} {kvs : List (List Key × V)} {f : StF} (h : DictF S H kvs f) (b : BtS S H H') : DictF S H' kvs f := fun k => by
  have := h k
  cases e : f k with
  | none =>
    rw [e] at this
    exact this
  | some s =>
    rw [e] at this
    obtain ⟨v, h1, h2⟩ := this
    exact ⟨v, h1, At.bt b _ _ h2⟩
theorem DictF.weak {S S' : Av} {H : Hp} {kvs : List (List Key × V)} {f : StF} (h : DictF S H kvs f) (W : ∀ b, S' b → S b) : DictF S' H kvs f := fun k => by
  have := h k
  cases e : f k with
  | none =>
    rw [e] at this
    exact this
  | some s =>
    rw [e] at this
    obtain ⟨v, h1, h2⟩ := this
    exact ⟨v, h1, At.weak W _ _ h2⟩
theorem DictF.put {S : Av} {H : Hp} {kvs : List (List Key × V)} {f : StF} (h : DictF S H kvs f) {v : V} {n a : Int} {k : List Key} (hv : At S H v (prD (a, n))) (ha : a = match f k with | some s => s.1 | none => n) : DictF S H (putK kvs k v) (stPut f n k) := fun j => by
  unfold stPut
  by_cases e : j = k
  · rw [if_pos e]
    refine ⟨v, ?_, ?_⟩
    · rw [valV_put, if_pos e]
    · rw [← ha]
      exact hv
  · rw [if_neg e]
    have := h j
    cases q : f j with
    | none =>
      rw [q] at this
      show valV _ _ = none
      rw [valV_put, if_neg e]
      exact this
    | some s =>
      rw [q] at this
      obtain ⟨v', h1, h2⟩ := this
      exact ⟨v', by rw [valV_put, if_neg e]; exact h1, h2⟩
theorem cut4 (x0 x1 x2 x3 : V) {m : Nat} (h : m < 4) : cutV [x0, x1, x2, x3] none (some (1 + (m : Int))) = [x0, x1, x2, x3].take (m + 1) := by
  rcases m with _ | _ | _ | _ | m
  · rfl
  · rfl
  · rfl
  · rfl
  · omega
theorem six4 {m : Nat} (h : m < 4) : HT.sIx 4 4 (some (1 + (m : Int))) = m + 1 := by
  rcases m with _ | _ | _ | _ | m
  · rfl
  · rfl
  · rfl
  · rfl
  · omega
theorem plK_kV (x : Pl) (m : Nat) : ((plK x).take m).map kV = [V.str (SX.S x.nm), .int x.c, .int x.v, .int x.p].take m := by
  rw [List.map_take]
  rfl
theorem putK_len' {κ : Type} [DecidableEq κ] (c : List (κ × V)) (k : κ) (x : V) : (putK c k x).length ≤ c.length + 1 := by
  unfold putK
  split
  · rw [List.length_map]
    omega
  · rw [List.length_append]
    exact Nat.le_refl _
structure Ds (S : Av) (H : Hp) (d : Addr) (kvs : List (List Key × V)) (f : StF) (n : Nat) (H' : Hp) : Prop where
  fr : H d = none
  s : Same H H'
  at_ : H' d = some (.dT kvs)
  df : DictF (Plus S d) H' kvs f
  len : kvs.length ≤ n
theorem Ds.keep {S : Av} {H H1 H2 : Hp} {d : Addr} {kvs : List (List Key × V)} {f : StF} {n : Nat} (c : Ds S H d kvs f n H1) (k : Same H1 H2) : Ds S H d kvs f n H2 := ⟨c.fr, c.s.trans k, k _ _ c.at_, c.df.bt (Same.btS k), c.len⟩
theorem Ds.put {S : Av} {H H1 : Hp} {d : Addr} {kvs : List (List Key × V)} {f : StF} {m : Nat} (c : Ds S H d kvs f m H1) {v : V} {n a : Int} {k : List Key} (hv : At (Plus S d) H1 v (prD (a, n))) (ha : a = match f k with | some s => s.1 | none => n) : Ds S H d (putK kvs k v) (stPut f n k) (m + 1) (upd H1 d (.dT (putK kvs k v))) := by
  have U : BtS (Plus S d) H1 (upd H1 d (.dT (putK kvs k v))) := BtS.upd (.inr rfl)
  refine ⟨c.fr, fun b o e => ?_, upd_same, (c.df.put hv ha).bt U, ?_⟩
  · rw [upd_ne (ne_of_none e c.fr)]
    exact c.s b o e
  · have := putK_len' kvs k v
    have := c.len
    omega
theorem st_succ {P : List Pl} {i : Nat} {x : Pl} (h : P[i]? = some x) : stOf (P.take (i + 1)) = stPl (stOf (P.take i)) (i : Nat) x 4 := by
  unfold stOf
  rw [zi_succ h, List.foldl_append]
  rfl
theorem stPl_succ (f : StF) (n : Int) (x : Pl) (m : Nat) : stPl f n x (m + 1) = stPut (stPl f n x m) n ((plK x).take (m + 1)) := by
  unfold stPl
  rw [List.range_succ, List.foldl_append]
  rfl
theorem At.pl {S : Av} {H : Hp} {v : V} {x : Pl} (h : At S H v (plD x)) : ∃ a, v = .ref a ∧ ¬ S a ∧ H a = some (.tup [.str (SX.S x.nm), .int x.c, .int x.v, .int x.p]) := by
  cases h with
  | tup n e k =>
    cases k with
    | cons h1 k =>
      cases k with
      | cons h2 k =>
        cases k with
        | cons h3 k =>
          cases k with
          | cons h4 k =>
            cases k
            cases h1
            cases h2
            cases h3
            cases h4
            exact ⟨_, rfl, n, e⟩
def sp_stret : Sp := fun vs H Q _ => ∃ (S : Av) (l : Addr) (rows : List V) (P : List Pl), vs = [.ref l] ∧ Occ S H ∧ H l = some (.lst rows) ∧ AtAll S H rows (P.map plD) ∧ P.length ≤ 9000 ∧ ∀ d kvs H', H d = none → Same H H' → H' d = some (.dT kvs) → DictF S H' kvs (stOf P) → Q (.ref d) H'
section
variable {P : Program} {w : World} {K : PySem.W.Frag} {mg : Str → Option Value} {base : Heap}
theorem ok_stret (T : Txt K mg) (D : Df K mg "stretches_of" s_stretches_of ["places"]) : Cl P w K mg base 2 "stretches_of" ["places"] sp_stret := by
  refine ok_of D sc_stretches_of (fun vs H Q E h => ?_) (fun f cdv A outer s H vs Q E hr h => ?_)
  · obtain ⟨S, l, rows, ps, rfl, _⟩ := h
    rfl
  · obtain ⟨S, l, rows, ps, rfl, ho, hl, ha, lp, q⟩ := h
    refine ⟨_, (pss_cons (ps_set (i := 1) sc_stretches_of.nd rfl (.inl rfl) pe_dnewT)
      (pss_cons (ps_for PassesOwn.never rfl (pi_enum (by rfl) T.b_enumerate (pa_cons (pv 0) pa_nil)) (pg_tup rfl (pgs_cons (pg_name (i := 2) sc_stretches_of.nd rfl (.inl rfl)) (pgs_cons (pg_name (i := 3) sc_stretches_of.nd rfl (.inl rfl)) pgs_nil)))
        (pss_one (ps_for PassesOwn.never rfl (pi_range2 (by rfl) T.b_range (pa_cons pe_int (pa_cons pe_int pa_nil))) (pg_name (i := 4) sc_stretches_of.nd rfl (.inl rfl))
          (pss_cons (ps_set (i := 5) sc_stretches_of.nd rfl (.inl rfl) (pe_slice sl_tupA (pv 3) po_none (po_some (pv 4))))
          (pss_cons (ps_set (i := 6) sc_stretches_of.nd rfl (.inl rfl) (pe_ifExp (pt_cmp (pc_din (hu_of hr) (pv 5) (pv 1))) (pe_ix ix_tup (pe_dget (hu_of hr) (pv 1) (pv 5) (fun _ _ => rfl)) pe_int (fun _ _ => rfl)) (pv 2)))
          (pss_one (ps_dput (hu_of hr) (pv 1) (pv 5) (pe_tup (pa_cons (pv 6) (pa_cons (pv 2) pa_nil))) rfl)))))))
      (pss_one (ps_ret (pv 1))))), ?_⟩
    have lr : rows.length = ps.length := by rw [ha.len, List.length_map]
    intro d hd
    refine ⟨.ref l, rfl, l, rows, rfl, .inl (.inl (same_new hd _ _ hl)), for_it (walk_enum (xs := rows)) (fun i σ H' => ∃ (t2 t3 t4 t5 t6 : Option V) (kvs : List (List Key × V)), σ = [some (.ref l), some (.ref d), t2, t3, t4, t5, t6] ∧ Ds S H d kvs (stOf (ps.take i)) (4 * i) H') ⟨_, _, _, _, _, [], rfl, hd, same_new hd, upd_same, fun _ => rfl, Nat.zero_le _⟩ (fun i σ H' _ ⟨_, _, _, _, _, _, _, L⟩ => .inl (.inl (L.s _ _ hl))) ?_ ?_⟩
    · rintro i x σ H1 H1' hi ⟨t2, t3, t4, t5, t6, kvs, rfl, L1⟩ ⟨T1, x1, y1, rfl, hT, rfl, e1, hy⟩
      cases e1
      have hy : rows[i]? = some y1 := hy
      obtain ⟨pl, hp, hpv⟩ := ha.at_ hy
      obtain ⟨a, rfl, na, ea⟩ := hpv.pl
      have L1 := L1.keep (same_new (o := .tup [.int (i : Nat), .ref a]) hT)
      refine ⟨T1, _, rfl, .inl (.inl upd_same), rfl, _, _, rfl, _, _, rfl, rfl, ?_⟩
      refine ⟨1, 5, rfl, ⟨by decide, by decide, by decide, by decide⟩, for_range (lo := 1) (n := 4) (fun m σ H' => ∃ (t4 t5 t6 : Option V) (kvs : List (List Key × V)), σ = [some (.ref l), some (.ref d), some (.int (i : Nat)), some (.ref a), t4, t5, t6] ∧ Ds S H d kvs (stPl (stOf (ps.take i)) (i : Nat) pl m) (4 * i + m) H') ⟨_, _, _, kvs, rfl, L1⟩ ?_ ?_⟩
      · rintro m σ H2 hm ⟨t4, t5, t6, kvs, rfl, L2⟩
        have e2 := L2.s _ _ ea
        have hlen : [V.str (SX.S pl.nm), .int pl.c, .int pl.v, .int pl.p].length = 4 := rfl
        refine ⟨_, rfl, _, rfl, _, rfl, a, _, rfl, .inl (.inl e2), fun hc => ?_, fun hc b hb => ?_⟩
        · rw [hlen] at hc
          have hc := hc.2
          rw [six4 hm] at hc
          have L3 := L2
          have eb : H2 a = some (.tup (((plK pl).take (m + 1)).map kV)) := by
            rw [plK_kV, e2, hc]
            rfl
          refine ⟨_, rfl, _, rfl, d, _, rfl, DGet.t L3.at_ eb, _, rfl, ?_⟩
          have hk := L3.df ((plK pl).take (m + 1))
          cases e : stPl (stOf (ps.take i)) (i : Nat) pl m ((plK pl).take (m + 1)) with
          | none =>
            rw [e] at hk
            rw [hk]
            refine ite2 (fun z => absurd z (by decide)) fun _ => ?_
            refine ⟨_, rfl, _, rfl, _, rfl, by show 2 ≤ sizeLine; decide, fun t ht => ?_⟩
            have L4 := L3.keep (same_new (o := .tup [.int (i : Nat), .int (i : Nat)]) ht)
            have nt : ¬ Plus S d t := ((ho.same L3.s).plus L3.at_).free ht
            refine ⟨_, rfl, _, rfl, d, _, rfl, DPut.t L4.at_ (same_new ht _ _ eb) (Evl.sz_lt (by have := L4.len; omega)), _, _, _, putK kvs ((plK pl).take (m + 1)) (.ref t), rfl, ?_⟩
            rw [stPl_succ]
            exact L4.put (a := (i : Nat)) (.ofpair nt upd_same) (by rw [e])
          | some s =>
            rw [e] at hk
            obtain ⟨v, h1, h2⟩ := hk
            obtain ⟨t0, rfl, nt0, et0⟩ := h2.pair
            rw [h1]
            refine ite2 (fun _ => ?_) (fun z => absurd rfl z)
            refine ⟨_, rfl, _, rfl, d, _, rfl, h1 ▸ DGet.t L3.at_ eb, t0, _, 0, .int s.1, rfl, rfl, .inl (.inl et0), rfl, ?_⟩
            refine ⟨_, rfl, _, rfl, by show 2 ≤ sizeLine; decide, fun t ht => ?_⟩
            have L4 := L3.keep (same_new (o := .tup [.int s.1, .int (i : Nat)]) ht)
            have nt : ¬ Plus S d t := ((ho.same L3.s).plus L3.at_).free ht
            refine ⟨_, rfl, _, rfl, d, _, rfl, DPut.t L4.at_ (same_new ht _ _ eb) (Evl.sz_lt (by have := L4.len; omega)), _, _, _, putK kvs ((plK pl).take (m + 1)) (.ref t), rfl, ?_⟩
            rw [stPl_succ]
            exact L4.put (a := s.1) (.ofpair nt upd_same) (by rw [e])
        · rw [cut4 _ _ _ _ hm]
          have L3 := L2.keep (same_new (o := .tup ([V.str (SX.S pl.nm), V.int pl.c, V.int pl.v, V.int pl.p].take (m + 1))) hb)
          have eb : upd H2 b (.tup ([V.str (SX.S pl.nm), V.int pl.c, V.int pl.v, V.int pl.p].take (m + 1))) b = some (.tup (((plK pl).take (m + 1)).map kV)) := by
            rw [plK_kV, upd_same]
          refine ⟨_, rfl, _, rfl, d, _, rfl, DGet.t L3.at_ eb, _, rfl, ?_⟩
          have hk := L3.df ((plK pl).take (m + 1))
          cases e : stPl (stOf (ps.take i)) (i : Nat) pl m ((plK pl).take (m + 1)) with
          | none =>
            rw [e] at hk
            rw [hk]
            refine ite2 (fun z => absurd z (by decide)) fun _ => ?_
            refine ⟨_, rfl, _, rfl, _, rfl, by show 2 ≤ sizeLine; decide, fun t ht => ?_⟩
            have L4 := L3.keep (same_new (o := .tup [.int (i : Nat), .int (i : Nat)]) ht)
            have nt : ¬ Plus S d t := ((ho.same L3.s).plus L3.at_).free ht
            refine ⟨_, rfl, _, rfl, d, _, rfl, DPut.t L4.at_ (same_new ht _ _ eb) (Evl.sz_lt (by have := L4.len; omega)), _, _, _, putK kvs ((plK pl).take (m + 1)) (.ref t), rfl, ?_⟩
            rw [stPl_succ]
            exact L4.put (a := (i : Nat)) (.ofpair nt upd_same) (by rw [e])
          | some s =>
            rw [e] at hk
            obtain ⟨v, h1, h2⟩ := hk
            obtain ⟨t0, rfl, nt0, et0⟩ := h2.pair
            rw [h1]
            refine ite2 (fun _ => ?_) (fun z => absurd rfl z)
            refine ⟨_, rfl, _, rfl, d, _, rfl, h1 ▸ DGet.t L3.at_ eb, t0, _, 0, .int s.1, rfl, rfl, .inl (.inl et0), rfl, ?_⟩
            refine ⟨_, rfl, _, rfl, by show 2 ≤ sizeLine; decide, fun t ht => ?_⟩
            have L4 := L3.keep (same_new (o := .tup [.int s.1, .int (i : Nat)]) ht)
            have nt : ¬ Plus S d t := ((ho.same L3.s).plus L3.at_).free ht
            refine ⟨_, rfl, _, rfl, d, _, rfl, DPut.t L4.at_ (same_new ht _ _ eb) (Evl.sz_lt (by have := L4.len; omega)), _, _, _, putK kvs ((plK pl).take (m + 1)) (.ref t), rfl, ?_⟩
            rw [stPl_succ]
            exact L4.put (a := s.1) (.ofpair nt upd_same) (by rw [e])
      · rintro σ H2 ⟨t4, t5, t6, kvs, rfl, L2⟩
        exact ⟨_, _, _, _, _, kvs, rfl, by rw [st_succ hp]; exact L2⟩
    · rintro σ H1 ⟨t2, t3, t4, t5, t6, kvs, rfl, L⟩
      rw [lr, List.take_length] at L
      exact ⟨.ref d, rfl, q d kvs H1 hd L.s L.at_ (L.df.weak fun _ z => .inl z)⟩
end
end My
set_option Elab.async false
set_option linter.all false
set_option maxRecDepth 100000
set_option maxHeartbeats 4000000
namespace My
open PySem PySem.Spec PyProof.Rows L2
/-- a spot of the part x, its first m things -/
def SpAt (H : Hp) (t : Addr) (x : Pl) (m : Nat) : Prop := H t = some (.tup (((plK x).take m).map kV))
/-- the first things of a place, as a slice tells them: the place itself or a new tuple -/
def rSlP : V → Option Int → Option Int → Hp → VK → Prop := fun x lo hi H Q => ∃ (a : Addr) (y : Pl) (m : Nat), x = .ref a ∧ lo = none ∧ hi = some (1 + (m : Int)) ∧ m < 4 ∧ H a = some (.tup [.str (SX.S y.nm), .int y.c, .int y.v, .int y.p]) ∧ ∀ b H', Same H H' → SpAt H' b y (m + 1) → Q (.ref b) H'
theorem sl_pl {X : Cx} : SlR X rSlP := by
  intro pins s σ H x v vl vu lo hi sl Q I rx hs pl pu h
  obtain ⟨a, y, m, rfl, rfl, rfl, hm, ha, q⟩ := h
  refine sl_tupA pins s σ H _ v vl vu _ _ sl Q I rx hs pl pu ⟨a, _, rfl, .inl (.inl ha), fun hc => ?_, fun hc b hb => ?_⟩
  · have hc := hc.2
    rw [show [V.str (SX.S y.nm), V.int y.c, V.int y.v, V.int y.p].length = 4 from rfl, six4 hm] at hc
    refine q a H (Same.refl H) ?_
    unfold SpAt
    rw [plK_kV, ha, hc]
    rfl
  · rw [cut4 _ _ _ _ hm]
    refine q b _ (same_new hb) ?_
    unfold SpAt
    rw [plK_kV, upd_same]
end My
set_option Elab.async false
set_option linter.all false
set_option maxRecDepth 100000
set_option maxHeartbeats 4000000
namespace My
open PySem PySem.Spec PyProof.Rows L2
/-- what the top leaves of the class -/
structure EdC (K : PySem.W.Frag) (C : Addr) : Prop where
  cl : Cls K C
  n1 : NoAttr K C "_books"
  n2 : NoAttr K C "_chapters"
  n3 : NoAttr K C "_places"
  n4 : NoAttr K C "_stretches"
  n5 : NoAttr K C "_lines"
  n6 : NoAttr K C "_numbers"
  n7 : NoAttr K C "_told"
/-- what an edition tells -/
def toldD (B : Bks) (L : List Int) : PyData := .tuple [bksD B, .tuple ((fewest L).map prD)]
/-- the number of each line -/
def numD (L : List Int) : List (Key × V) := L.zipIdx.map fun x => ((Sum.inl x.1 : Key), V.int (x.2 : Nat))
/-- the chapters by the books' names -/
structure ChF (S : Av) (H : Hp) (kvs : List (Key × V)) (B : Bks) : Prop where
  k : kvs.map (·.1) = B.map fun b => (Sum.inr (SX.S b.1) : Key)
  v : AtAll S H (kvs.map (·.2)) (B.map fun b => chsD b.2)
structure EdW where
  dx : Addr
  vb : V
  dc : Addr
  ckv : List (Key × V)
  dp : Addr
  rows : List V
  ds : Addr
  kvs : List (List Key × V)
  dl : Addr
  dn : Addr
  vt : V
/-- its fields -/
def edF (w : EdW) : List (Str × V) := [("_books", w.vb), ("_chapters", .ref w.dc), ("_places", .ref w.dp), ("_stretches", .ref w.ds), ("_lines", .ref w.dl), ("_numbers", .ref w.dn), ("_told", w.vt)]
theorem edF1 (w : EdW) : (edF w).lookup ("_books" : Str) = some w.vb := rfl
theorem edF2 (w : EdW) : (edF w).lookup ("_chapters" : Str) = some (.ref w.dc) := rfl
theorem edF3 (w : EdW) : (edF w).lookup ("_places" : Str) = some (.ref w.dp) := rfl
theorem edF4 (w : EdW) : (edF w).lookup ("_stretches" : Str) = some (.ref w.ds) := rfl
theorem edF5 (w : EdW) : (edF w).lookup ("_lines" : Str) = some (.ref w.dl) := rfl
theorem edF6 (w : EdW) : (edF w).lookup ("_numbers" : Str) = some (.ref w.dn) := rfl
theorem edF7 (w : EdW) : (edF w).lookup ("_told" : Str) = some w.vt := rfl
/-- an edition of the books B with the lines L stands at e -/
structure EdIn (S : Av) (H : Hp) (C e : Addr) (B : Bks) (L : List Int) (w : EdW) : Prop where
  at_ : H e = some (.ins C w.dx (edF w))
  n0 : ¬ S e
  n2 : ¬ S w.dc
  n3 : ¬ S w.dp
  n4 : ¬ S w.ds
  n5 : ¬ S w.dl
  n6 : ¬ S w.dn
  h1 : At S H w.vb (bksD B)
  h2 : H w.dc = some (.dK w.ckv)
  c2 : ChF S H w.ckv B
  h3 : H w.dp = some (.lst w.rows)
  c3 : AtAll S H w.rows ((plOf B).map plD)
  h4 : H w.ds = some (.dT w.kvs)
  c4 : DictF S H w.kvs (stOf (plOf B))
  h5 : H w.dl = some (.lst (L.map V.int))
  h6 : H w.dn = some (.dK (numD L))
  h7 : At S H w.vt (toldD B L)
def EdAt (S : Av) (H : Hp) (C e : Addr) (B : Bks) (L : List Int) : Prop := ∃ w, EdIn S H C e B L w
theorem EdAt.bt {S : Av} {H H' : Hp} {C e : Addr} {B : Bks} {L : List Int} (h : EdAt S H C e B L) (b : BtS S H H') : EdAt S H' C e B L := by
  obtain ⟨w, h⟩ := h
  exact ⟨w, { h with at_ := b _ _ h.n0 h.at_, h1 := At.bt b _ _ h.h1, h2 := b _ _ h.n2 h.h2, c2 := ⟨h.c2.k, AtAll.bt b _ _ h.c2.v⟩, h3 := b _ _ h.n3 h.h3, c3 := AtAll.bt b _ _ h.c3, h4 := b _ _ h.n4 h.h4, c4 := h.c4.bt b, h5 := b _ _ h.n5 h.h5, h6 := b _ _ h.n6 h.h6, h7 := At.bt b _ _ h.h7 }⟩
/-- books handed in don't stand at an instance -/
theorem BksIn.plusX {S : Av} {H : Hp} {v : V} {B : Bks} {x C dx : Addr} {fs : List (Str × V)} (h : BksIn S H v B) (g : H x = some (.ins C dx fs)) : BksIn (Plus S x) H v B := by
  obtain ⟨a, xs, e, r, l, k⟩ := h
  refine ⟨a, xs, e, r, l, fun i y b h1 h2 => ?_⟩
  obtain ⟨a2, c2, ys, e2, f2, r2, l2, k2⟩ := k i y b h1 h2
  refine ⟨a2, c2, ys, e2, f2, r2, l2, fun j z c h3 h4 => ?_⟩
  obtain ⟨a3, e3, n3, r3⟩ := k2 j z c h3 h4
  refine ⟨a3, e3, fun q => q.elim n3 fun q => ?_, r3⟩
  rcases r3 with r3 | r3
  · rw [q, g] at r3
    cases r3
  · rw [q, g] at r3
    cases r3
theorem LnIn.btx {H H' : Hp} {v : V} {o : Option (List (Int × Int))} {x C dx : Addr} {fs : List (Str × V)} (h : LnIn H v o) (g : H x = some (.ins C dx fs)) (z : Bt x H H') : LnIn H' v o := by
  cases o with
  | none => exact h
  | some ps =>
    obtain ⟨a, xs, e, r, l, k⟩ := h
    refine ⟨a, xs, e, ?_, l, fun i y s h1 h2 => ?_⟩
    · rcases r with r | r
      · exact .inl (z _ _ (fun q => by rw [q, g] at r; cases r) r)
      · exact .inr (z _ _ (fun q => by rw [q, g] at r; cases r) r)
    · obtain ⟨t, e1, e2⟩ := k i y s h1 h2
      exact ⟨t, e1, z _ _ (fun q => by rw [q, g] at e2; cases e2) e2⟩
theorem At.bk2 {S : Av} {H : Hp} {v : V} {b : List Nat × List (List Int)} (h : At S H v (bkD b)) : ∃ a v2, v = .ref a ∧ H a = some (.tup [.str (SX.S b.1), v2]) ∧ At S H v2 (chsD b.2) := by
  cases h with
  | tup n e k =>
    cases k with
    | cons h1 k2 =>
      cases k2 with
      | cons h2 k3 =>
        cases k3
        cases h1
        exact ⟨_, _, rfl, e, h2⟩
theorem numD_succ {L : List Int} {i : Nat} {z : Int} (h : L[i]? = some z) : numD (L.take (i + 1)) = numD (L.take i) ++ [((Sum.inl z : Key), V.int (i : Nat))] := by
  unfold numD
  rw [zi_succ h, List.map_append]
  rfl
theorem zi_fst {α : Type} : ∀ (L : List α) (n : Nat), (L.zipIdx n).map (·.1) = L
  | [], _ => rfl
  | a :: r, n => by
    rw [List.zipIdx_cons, List.map_cons, zi_fst r]
theorem numD_keys (L : List Int) : (numD L).map (·.1) = L.map fun z => (Sum.inl z : Key) := by
  unfold numD
  rw [List.map_map]
  have := zi_fst L 0
  conv => rhs; rw [← this]
  rw [List.map_map]
  rfl
/-- what Edition's __init__ is handed and leaves -/
def sp_init (C : Addr) : Sp := fun vs H Q _ => ∃ (S : Av) (x dx : Addr) (bv lv : V) (B : Bks) (o : Option (List (Int × Int))), vs = [.ref x, bv, lv] ∧ ¬ S x ∧ Occ S H ∧ H x = some (.ins C dx []) ∧ BksIn S H bv B ∧ okBks B ∧ LnIn H lv o ∧ okLn o (plOf B).length ∧ (lnsD o (plOf B).length).Nodup ∧ (lnsD o (plOf B).length).length = (plOf B).length ∧
  ∀ H', Bt x H H' → EdAt S H' C x B (lnsD o (plOf B).length) → Q .non H'
section
variable {P : Program} {w : World} {K : PySem.W.Frag} {mg : Str → Option Value} {base : Heap}
theorem ok_init {C f : Addr} {fd : FuncData} (T : Txt K mg) (EC : EdC K C) (c_kept_books : Cl P w K mg base 5 "kept_books" ["books"] sp_keptBks) (c_places_in : Cl P w K mg base 2 "places_in" ["books"] sp_places) (c_stretches_of : Cl P w K mg base 2 "stretches_of" ["places"] sp_stret) (c_kept_lines : Cl P w K mg base 4 "kept_lines" ["lines", "size"] sp_keptLn) (c_fewest_pairs : Cl P w K mg base 2 "fewest_pairs" ["lines"] (sp_fewest K)) {dvs : List V} {kws : List (Str × V)} (F : FunD K "__init__" "Edition.__init__" (defArgs s_Edition___init__) (defBody s_Edition___init__) (defScope s_Edition___init__) dvs kws f fd) : FnOk P w K mg base CX0 6 f fd ["self", "books", "lines"] (sp_init C) := by
  refine funD_ok0 F sc_Edition___init__ (fun vs H Q E h => ?_) (fun cdv A outer s H vs Q E hr h => ?_)
  · obtain ⟨S, x, dx, bv, lv, B, o, rfl, _⟩ := h
    rfl
  · obtain ⟨S, x, dx, bv, lv, B, o, rfl, nx, ho, hx, hB, okB, hL, okL, nd, ll, q⟩ := h
    refine ⟨_, (pss_cons (ps_fld (pv 0) (pe_cl c_kept_books hr (by decide) (by rfl) (pa_cons (pv 1) pa_nil)) rfl)
      (pss_cons (ps_fld (pv 0) (pe_dc (own := [("name", 3), ("chapters", 4)]) rfl sc_Edition___init__.nd (pi_tup (pe_fld (pv 0) rfl)) (blkOk_by (own := [("name", 3), ("chapters", 4)]) (N := N_Edition___init__) (sc := defScope s_Edition___init__) (by decide +kernel)) (fun _ _ _ _ _ => (pg_tupK (K := K) (n := 2) rfl rfl (pgs_cons (pg_name (i := 3) sc_Edition___init__.nd rfl (.inl rfl)) (pgs_cons (pg_name (i := 4) sc_Edition___init__.nd rfl (.inl rfl)) pgs_nil)))) (fun _ _ _ _ _ => pts_nil) (fun _ _ _ _ _ => (pv 3)) (fun _ _ _ _ _ => (pv 4))) rfl)
      (pss_cons (ps_fld (pv 0) (pe_cl c_places_in hr (by decide) (by rfl) (pa_cons (pe_fld (pv 0) rfl) pa_nil)) rfl)
      (pss_cons (ps_fld (pv 0) (pe_cl c_stretches_of hr (by decide) (by rfl) (pa_cons (pe_fld (pv 0) rfl) pa_nil)) rfl)
      (pss_cons (ps_fld (pv 0) (pe_cl c_kept_lines hr (by decide) (by rfl) (pa_cons (pv 2) (pa_cons (pe_callB call_len (by rfl) T.b_len (by decide +kernel) (pa_cons (pe_fld (pv 0) rfl) pa_nil)) pa_nil))) rfl)
      (pss_cons (ps_fld (pv 0) (pe_dc (own := [("number", 5), ("line", 6)]) rfl sc_Edition___init__.nd (pi_enum (by rfl) T.b_enumerate (pa_cons (pe_fld (pv 0) rfl) pa_nil)) (blkOk_by (own := [("number", 5), ("line", 6)]) (N := N_Edition___init__) (sc := defScope s_Edition___init__) (by decide +kernel)) (fun _ _ _ _ _ => (pg_tupK (K := K) (n := 2) rfl rfl (pgs_cons (pg_name (i := 5) sc_Edition___init__.nd rfl (.inl rfl)) (pgs_cons (pg_name (i := 6) sc_Edition___init__.nd rfl (.inl rfl)) pgs_nil)))) (fun _ _ _ _ _ => pts_nil) (fun _ _ _ _ _ => (pv 6)) (fun _ _ _ _ _ => (pv 5))) rfl)
      (pss_one (ps_fld (pv 0) (pe_tup (pa_cons (pe_fld (pv 0) rfl) (pa_cons (pe_cl c_fewest_pairs hr (by decide) (by rfl) (pa_cons (pe_fld (pv 0) rfl) pa_nil)) pa_nil))) rfl)))))))), ?_⟩
    have oS : Occ (Plus S x) H := ho.plus hx
    have lP := plOf_len (B := B) fun b hb => ⟨(okB.ch b hb).2.1, fun c hc => ⟨((okB.ch b hb).2.2 c hc).l1, fun m hm => (((okB.ch b hb).2.2 c hc).x m hm).2⟩⟩
    have l6 := okB.l1
    -- the books
    refine ⟨bv, rfl, Plus S x, bv, B, rfl, oS, hB.plusX hx, okB, fun vb H1 S1 hvb => ⟨.ref x, rfl, x, C, dx, [], rfl, S1 _ _ hx, EC.cl, EC.n1, by decide, ?_⟩⟩
    have Ax : At (Plus S x) (upd H1 x (.ins C dx (putF "_books" vb []))) vb (bksD B) := At.bt (BtS.upd (.inr rfl)) _ _ hvb
    have xa : upd H1 x (.ins C dx (putF "_books" vb [])) x = some (.ins C dx [("_books", vb)]) := upd_same
    have oa : Occ (Plus S x) (upd H1 x (.ins C dx (putF "_books" vb []))) := (oS.same S1).upd
    have ba : Bt x H (upd H1 x (.ins C dx (putF "_books" vb []))) := (Bt.same S1).trans Bt.upd
    generalize upd H1 x (.ins C dx (putF "_books" vb [])) = Ha at Ax xa oa ba ⊢
    -- the chapters by name
    have Ax' := Ax
    cases Ax' with
    | tup nt et ka =>
    rename_i t xs
    have lx : xs.length = B.length := by rw [ka.len, List.length_map]
    refine ⟨.ref x, rfl, x, C, dx, _, .ref t, rfl, xa, EC.cl, EC.n1, rfl, t, rfl, ⟨_, .inl (.inl et)⟩, fun D hD => ?_⟩
    refine dc_it (walk_tup (xs := xs)) (fun i H' => ∃ kvs, Same Ha H' ∧ H' D = some (.dK kvs) ∧ ChF (Plus (Plus S x) D) H' kvs (B.take i)) ⟨[], same_new hD, upd_same, rfl, .nil⟩ (fun i H' _ ⟨_, z, _⟩ => .inl (.inl (z _ _ et))) ?_ ?_
    · rintro i y H2 H2' hi ⟨kvs, S2, hD2, cf⟩ ⟨rfl, hy⟩
      obtain ⟨b, hb, hv⟩ := ka.at_ hy
      obtain ⟨a2, v2, rfl, e2, h2⟩ := (At.same (hv.plusN hD) S2).bk2
      have lk : kvs.length = i := by
        have := congrArg List.length cf.k
        rw [List.length_map, List.length_map, List.length_take] at this
        omega
      have new : valV kvs (Sum.inr (SX.S b.1) : Key) = none := by
        refine val_no ?_
        rw [cf.k]
        intro z
        obtain ⟨b', hb', e'⟩ := List.mem_map.mp z
        have e' : b'.1 = b.1 := SX.S_inj (Sum.inr.inj e')
        have h1 : (B.map (·.1))[i]? = some b.1 := by
          rw [List.getElem?_map, hb]
          rfl
        refine nodup_take_not okB.nd h1 ?_
        rw [← List.map_take]
        exact List.mem_map.mpr ⟨b', hb', e'⟩
      refine ⟨a2, _, rfl, .inl (.inl e2), rfl, _, _, rfl, _, _, rfl, rfl, rfl, _, rfl, _, rfl, kvs, .inr (SX.S b.1), rfl, hD2, Evl.sz_lt (by omega), kvs ++ [(.inr (SX.S b.1), v2)], ?_, ?_, ?_⟩
      · exact fun q o e => by
          rw [upd_ne (ne_of_none e hD)]
          exact S2 q o e
      · rw [upd_same, putK_new _ new]
      · have U : BtS (Plus (Plus S x) D) H2' (upd H2' D (.dK (putK kvs (.inr (SX.S b.1)) v2))) := BtS.upd (.inr rfl)
        refine ⟨?_, ?_⟩
        · rw [List.map_append, cf.k, List.take_add_one, hb, List.map_append]
          rfl
        · rw [List.map_append, List.take_add_one, hb, List.map_append]
          exact (AtAll.bt U _ _ cf.v).app (.cons (At.bt U _ _ h2) .nil)
    · rintro H2 ⟨ckv, S2, hD2, cf⟩
      rw [lx, List.take_length] at cf
      have cv : AtAll (Plus S x) H2 (ckv.map (·.2)) (B.map fun b => chsD b.2) := AtAll.weak (fun _ z => .inl z) _ _ cf.v
      refine ⟨.ref x, rfl, x, C, dx, _, rfl, S2 _ _ xa, EC.cl, EC.n2, by show 1 < 1000; decide, ?_⟩
      have nD : ¬ Plus S x D := oa.free hD
      have U := BtS.upd (S := Plus S x) (H := H2) (p := x) (o := .ins C dx (putF "_chapters" (.ref D) [("_books", .ref t)])) (.inr rfl)
      have A2 := At.bt U _ _ (At.same Ax S2)
      have c2 : AtAll (Plus S x) (upd H2 x (.ins C dx (putF "_chapters" (.ref D) [("_books", .ref t)]))) (ckv.map (·.2)) (B.map fun b => chsD b.2) := AtAll.bt U _ _ cv
      have d2 := U _ _ nD hD2
      have xb : upd H2 x (.ins C dx (putF "_chapters" (.ref D) [("_books", .ref t)])) x = some (.ins C dx [("_books", .ref t), ("_chapters", .ref D)]) := upd_same
      have ob : Occ (Plus S x) (upd H2 x (.ins C dx (putF "_chapters" (.ref D) [("_books", .ref t)]))) := (oa.same S2).upd
      have bb : Bt x H (upd H2 x (.ins C dx (putF "_chapters" (.ref D) [("_books", .ref t)]))) := (ba.trans (Bt.same S2)).trans Bt.upd
      generalize upd H2 x (.ins C dx (putF "_chapters" (.ref D) [("_books", .ref t)])) = Hb at A2 c2 d2 xb ob bb ⊢
      -- the places
      refine ⟨.ref x, rfl, x, C, dx, _, .ref t, rfl, xb, EC.cl, EC.n1, rfl, Plus S x, .ref t, B, rfl, ob, A2, okB, fun l rows H3 hl S3 el rl => ?_⟩
      refine ⟨.ref x, rfl, x, C, dx, _, rfl, S3 _ _ xb, EC.cl, EC.n3, by show 2 < 1000; decide, ?_⟩
      have nl : ¬ Plus S x l := ob.free hl
      have U3 := BtS.upd (S := Plus S x) (H := H3) (p := x) (o := .ins C dx (putF "_places" (.ref l) [("_books", .ref t), ("_chapters", .ref D)])) (.inr rfl)
      have W3 := (Same.btS S3).trans U3
      have A3 := At.bt W3 _ _ A2
      have c3 := AtAll.bt W3 _ _ c2
      have d3 := W3 _ _ nD d2
      have l3 := U3 _ _ nl el
      have r3 := AtAll.bt U3 _ _ rl
      have xc : upd H3 x (.ins C dx (putF "_places" (.ref l) [("_books", .ref t), ("_chapters", .ref D)])) x = some (.ins C dx [("_books", .ref t), ("_chapters", .ref D), ("_places", .ref l)]) := upd_same
      have oc : Occ (Plus S x) (upd H3 x (.ins C dx (putF "_places" (.ref l) [("_books", .ref t), ("_chapters", .ref D)]))) := (ob.same S3).upd
      have bc : Bt x H (upd H3 x (.ins C dx (putF "_places" (.ref l) [("_books", .ref t), ("_chapters", .ref D)]))) := (bb.trans (Bt.same S3)).trans Bt.upd
      generalize upd H3 x (.ins C dx (putF "_places" (.ref l) [("_books", .ref t), ("_chapters", .ref D)])) = Hc at A3 c3 d3 l3 r3 xc oc bc ⊢
      -- the stretches
      refine ⟨.ref x, rfl, x, C, dx, _, .ref l, rfl, xc, EC.cl, EC.n3, rfl, Plus S x, l, rows, plOf B, rfl, oc, l3, r3, by omega, fun d kvs H4 hd S4 ed fd4 => ?_⟩
      refine ⟨.ref x, rfl, x, C, dx, _, rfl, S4 _ _ xc, EC.cl, EC.n4, by show 3 < 1000; decide, ?_⟩
      have ndd : ¬ Plus S x d := oc.free hd
      have U4 := BtS.upd (S := Plus S x) (H := H4) (p := x) (o := .ins C dx (putF "_stretches" (.ref d) [("_books", .ref t), ("_chapters", .ref D), ("_places", .ref l)])) (.inr rfl)
      have W4 := (Same.btS S4).trans U4
      have A4 := At.bt W4 _ _ A3
      have c4 := AtAll.bt W4 _ _ c3
      have d4 := W4 _ _ nD d3
      have l4 := W4 _ _ nl l3
      have r4 := AtAll.bt W4 _ _ r3
      have s4 := U4 _ _ ndd ed
      have f4 := fd4.bt U4
      have xd : upd H4 x (.ins C dx (putF "_stretches" (.ref d) [("_books", .ref t), ("_chapters", .ref D), ("_places", .ref l)])) x = some (.ins C dx [("_books", .ref t), ("_chapters", .ref D), ("_places", .ref l), ("_stretches", .ref d)]) := upd_same
      have od : Occ (Plus S x) (upd H4 x (.ins C dx (putF "_stretches" (.ref d) [("_books", .ref t), ("_chapters", .ref D), ("_places", .ref l)]))) := (oc.same S4).upd
      have bd : Bt x H (upd H4 x (.ins C dx (putF "_stretches" (.ref d) [("_books", .ref t), ("_chapters", .ref D), ("_places", .ref l)]))) := (bc.trans (Bt.same S4)).trans Bt.upd
      generalize upd H4 x (.ins C dx (putF "_stretches" (.ref d) [("_books", .ref t), ("_chapters", .ref D), ("_places", .ref l)])) = Hd at A4 c4 d4 l4 r4 s4 f4 xd od bd ⊢
      -- the lines
      have lr : rows.length = (plOf B).length := by rw [r4.len, List.length_map]
      refine ⟨lv, rfl, .ref x, rfl, x, C, dx, _, .ref l, rfl, xd, EC.cl, EC.n3, rfl, _, rows.length, rfl, .inl ⟨rows, .inl (.inl l4), rfl⟩, ?_⟩
      rw [lr]
      refine ⟨lv, o, _, rfl, hL.btx hx bd, okL, fun ll2 H5 hl5 S5 el5 => ?_⟩
      refine ⟨.ref x, rfl, x, C, dx, _, rfl, S5 _ _ xd, EC.cl, EC.n5, by show 4 < 1000; decide, ?_⟩
      have n5 : ¬ Plus S x ll2 := od.free hl5
      have U5 := BtS.upd (S := Plus S x) (H := H5) (p := x) (o := .ins C dx (putF "_lines" (.ref ll2) [("_books", .ref t), ("_chapters", .ref D), ("_places", .ref l), ("_stretches", .ref d)])) (.inr rfl)
      have W5 := (Same.btS S5).trans U5
      have A5 := At.bt W5 _ _ A4
      have c5 := AtAll.bt W5 _ _ c4
      have d5 := W5 _ _ nD d4
      have l5 := W5 _ _ nl l4
      have r5 := AtAll.bt W5 _ _ r4
      have s5 := W5 _ _ ndd s4
      have f5 := f4.bt W5
      have e5 := U5 _ _ n5 el5
      have xe : upd H5 x (.ins C dx (putF "_lines" (.ref ll2) [("_books", .ref t), ("_chapters", .ref D), ("_places", .ref l), ("_stretches", .ref d)])) x = some (.ins C dx [("_books", .ref t), ("_chapters", .ref D), ("_places", .ref l), ("_stretches", .ref d), ("_lines", .ref ll2)]) := upd_same
      have oe : Occ (Plus S x) (upd H5 x (.ins C dx (putF "_lines" (.ref ll2) [("_books", .ref t), ("_chapters", .ref D), ("_places", .ref l), ("_stretches", .ref d)]))) := (od.same S5).upd
      have be : Bt x H (upd H5 x (.ins C dx (putF "_lines" (.ref ll2) [("_books", .ref t), ("_chapters", .ref D), ("_places", .ref l), ("_stretches", .ref d)]))) := (bd.trans (Bt.same S5)).trans Bt.upd
      generalize upd H5 x (.ins C dx (putF "_lines" (.ref ll2) [("_books", .ref t), ("_chapters", .ref D), ("_places", .ref l), ("_stretches", .ref d)])) = He at A5 c5 d5 l5 r5 s5 f5 e5 xe oe be ⊢
      -- the numbers
      have okl1 : (plOf B).length ≤ 400 := by
        have := okL.2.1
        omega
      generalize lnsD o (plOf B).length = L at nd ll q e5
      refine ⟨.ref x, rfl, x, C, dx, _, .ref ll2, rfl, xe, EC.cl, EC.n5, rfl, ll2, _, rfl, .inl (.inl e5), fun Dn hDn => ?_⟩
      refine dc_it (walk_enum (xs := L.map V.int)) (fun i H' => Same He H' ∧ H' Dn = some (.dK (numD (L.take i)))) ⟨same_new hDn, upd_same⟩ (fun i H' _ ⟨z, _⟩ => .inl (.inl (z _ _ e5))) ?_ ?_
      · rintro i y H6 H6' hi ⟨S6, hD6⟩ ⟨T6, x6, y6, rfl, hT6, rfl, e6, hy6⟩
        cases e6
        rw [List.length_map] at hi
        have hLi : L[i]? = some L[i] := List.getElem?_eq_getElem hi
        have hy6 : (L.map V.int)[i]? = some y6 := hy6
        rw [List.getElem?_map, hLi] at hy6
        cases hy6
        have new : valV (numD (L.take i)) (Sum.inl L[i] : Key) = none := by
          refine val_no ?_
          rw [numD_keys]
          intro z
          obtain ⟨z', hz', e'⟩ := List.mem_map.mp z
          rw [Sum.inl.inj e'] at hz'
          exact nodup_take_not nd hLi hz'
        refine ⟨T6, _, rfl, .inl (.inl upd_same), rfl, _, _, rfl, _, _, rfl, rfl, rfl, _, rfl, _, rfl, numD (L.take i), .inl L[i], rfl, same_new hT6 _ _ hD6, Evl.sz_lt ?_, ?_, ?_⟩
        · unfold numD
          rw [List.length_map, List.length_zipIdx, List.length_take]
          omega
        · exact fun q o e => by
            rw [upd_ne (ne_of_none e hDn)]
            exact same_new hT6 _ _ (S6 q o e)
        · rw [upd_same, putK_new _ new, numD_succ hLi]
      · rintro H6 ⟨S6, hD6⟩
        rw [List.length_map, List.take_length] at hD6
        refine ⟨.ref x, rfl, x, C, dx, _, rfl, S6 _ _ xe, EC.cl, EC.n6, by show 5 < 1000; decide, ?_⟩
        have n6 : ¬ Plus S x Dn := oe.free hDn
        have U6 := BtS.upd (S := Plus S x) (H := H6) (p := x) (o := .ins C dx (putF "_numbers" (.ref Dn) [("_books", .ref t), ("_chapters", .ref D), ("_places", .ref l), ("_stretches", .ref d), ("_lines", .ref ll2)])) (.inr rfl)
        have W6 := (Same.btS S6).trans U6
        have A6 := At.bt W6 _ _ A5
        have c6 := AtAll.bt W6 _ _ c5
        have d6 := W6 _ _ nD d5
        have l6' := W6 _ _ nl l5
        have r6 := AtAll.bt W6 _ _ r5
        have s6 := W6 _ _ ndd s5
        have f6 := f5.bt W6
        have e6 := W6 _ _ n5 e5
        have m6 := U6 _ _ n6 hD6
        have xf : upd H6 x (.ins C dx (putF "_numbers" (.ref Dn) [("_books", .ref t), ("_chapters", .ref D), ("_places", .ref l), ("_stretches", .ref d), ("_lines", .ref ll2)])) x = some (.ins C dx [("_books", .ref t), ("_chapters", .ref D), ("_places", .ref l), ("_stretches", .ref d), ("_lines", .ref ll2), ("_numbers", .ref Dn)]) := upd_same
        have og : Occ (Plus S x) (upd H6 x (.ins C dx (putF "_numbers" (.ref Dn) [("_books", .ref t), ("_chapters", .ref D), ("_places", .ref l), ("_stretches", .ref d), ("_lines", .ref ll2)]))) := (oe.same S6).upd
        have bf : Bt x H (upd H6 x (.ins C dx (putF "_numbers" (.ref Dn) [("_books", .ref t), ("_chapters", .ref D), ("_places", .ref l), ("_stretches", .ref d), ("_lines", .ref ll2)]))) := (be.trans (Bt.same S6)).trans Bt.upd
        generalize upd H6 x (.ins C dx (putF "_numbers" (.ref Dn) [("_books", .ref t), ("_chapters", .ref D), ("_places", .ref l), ("_stretches", .ref d), ("_lines", .ref ll2)])) = Hf at A6 c6 d6 l6' r6 s6 f6 e6 m6 xf og bf ⊢
        -- what it tells
        refine ⟨.ref x, rfl, x, C, dx, _, .ref t, rfl, xf, EC.cl, EC.n1, rfl, ?_⟩
        refine ⟨.ref x, rfl, x, C, dx, _, .ref ll2, rfl, xf, EC.cl, EC.n5, rfl, Plus S x, _, L, rfl, og, .inl (.inl e6), by omega, fun v H7 S7 hv => ?_⟩
        refine ⟨by show 2 ≤ sizeLine; decide, fun tt htt => ?_⟩
        have S8 := same_new (o := .tup [.ref t, v]) htt
        have S78 := S7.trans S8
        refine ⟨.ref x, rfl, x, C, dx, _, rfl, S78 _ _ xf, EC.cl, EC.n7, by show 6 < 1000; decide, ?_⟩
        have nt7 : ¬ Plus S x tt := og.free (Same.fresh S7 htt)
        have T7 : At (Plus S x) (upd H7 tt (.tup [.ref t, v])) (.ref tt) (toldD B L) := .tup nt7 upd_same (.cons (At.same A6 S78) (.cons (At.same hv S8) .nil))
        have U7 := BtS.upd (S := Plus S x) (H := upd H7 tt (.tup [.ref t, v])) (p := x) (o := .ins C dx (putF "_told" (.ref tt) [("_books", .ref t), ("_chapters", .ref D), ("_places", .ref l), ("_stretches", .ref d), ("_lines", .ref ll2), ("_numbers", .ref Dn)])) (.inr rfl)
        have W7 := (Same.btS S78).trans U7
        have wk : ∀ b, S b → Plus S x b := fun _ z => .inl z
        have nn : ∀ {b}, ¬ Plus S x b → ¬ S b := fun n z => n (.inl z)
        refine q _ ((bf.trans (Bt.same S78)).trans Bt.upd) ⟨⟨dx, .ref t, D, ckv, l, rows, d, kvs, ll2, Dn, .ref tt⟩, ?_⟩
        exact { at_ := upd_same, n0 := nx, n2 := nn nD, n3 := nn nl, n4 := nn ndd, n5 := nn n5, n6 := nn n6
                h1 := At.weak wk _ _ (At.bt W7 _ _ A6), h2 := W7 _ _ nD d6, c2 := ⟨cf.k, AtAll.weak wk _ _ (AtAll.bt W7 _ _ c6)⟩
                h3 := W7 _ _ nl l6', c3 := AtAll.weak wk _ _ (AtAll.bt W7 _ _ r6), h4 := W7 _ _ ndd s6, c4 := (f6.bt W7).weak wk, h5 := W7 _ _ n5 e6, h6 := W7 _ _ n6 m6, h7 := At.weak wk _ _ (At.bt U7 _ _ T7) }
end
end My
set_option Elab.async false
set_option linter.all false
set_option maxRecDepth 100000
set_option maxHeartbeats 4000000
namespace My
open PySem PySem.Spec PyProof.Rows L2
def sp_size (C : Addr) : Sp := fun vs H Q _ => ∃ (S : Av) (e : Addr) (B : Bks) (L : List Int), vs = [.ref e] ∧ EdAt S H C e B L ∧ Q (.int ((plOf B).length : Nat)) H
def sp_lines (C : Addr) : Sp := fun vs H Q _ => ∃ (S : Av) (e : Addr) (B : Bks) (L : List Int), vs = [.ref e] ∧ EdAt S H C e B L ∧ ∀ l, H l = none → Q (.ref l) (upd H l (.lst (L.map V.int)))
def sp_checkN (C : Addr) : Sp := fun vs H Q _ => ∃ (S : Av) (e : Addr) (B : Bks) (L : List Int) (n : Int), vs = [.ref e, .int n] ∧ EdAt S H C e B L ∧ 0 ≤ n ∧ n < (plOf B).length ∧ Q .non H
section
variable {P : Program} {w : World} {K : PySem.W.Frag} {mg : Str → Option Value} {base : Heap}
theorem ok_size {C f : Addr} {fd : FuncData} (T : Txt K mg) (EC : EdC K C) (F : Fun K "size" "Edition.size" s_Edition_size f fd) : FnOk P w K mg base CX0 2 f fd ["self"] (sp_size C) := by
  refine F.ok sc_Edition_size (fun vs H Q E h => ?_) (fun cdv A outer s H vs Q E hr h => ?_)
  · obtain ⟨S, e, B, L, rfl, _⟩ := h
    rfl
  · obtain ⟨S, e, B, L, rfl, ⟨w, h⟩, q⟩ := h
    refine ⟨_, (pss_one (ps_ret (pe_callB call_len (by rfl) T.b_len (by decide +kernel) (pa_cons (pe_fld (pv 0) rfl) pa_nil)))), ?_⟩
    have lr : w.rows.length = (plOf B).length := by rw [h.c3.len, List.length_map]
    rw [← lr] at q
    exact ⟨.ref e, rfl, e, C, _, _, _, rfl, h.at_, EC.cl, EC.n3, rfl, _, _, rfl, .inl ⟨_, .inl (.inl h.h3), rfl⟩, q⟩
theorem ok_lines {C f : Addr} {fd : FuncData} (T : Txt K mg) (EC : EdC K C) (F : Fun K "lines" "Edition.lines" s_Edition_lines f fd) : FnOk P w K mg base CX0 2 f fd ["self"] (sp_lines C) := by
  refine F.ok sc_Edition_lines (fun vs H Q E h => ?_) (fun cdv A outer s H vs Q E hr h => ?_)
  · obtain ⟨S, e, B, L, rfl, _⟩ := h
    rfl
  · obtain ⟨S, e, B, L, rfl, ⟨w, h⟩, q⟩ := h
    refine ⟨_, (pss_one (ps_ret (pe_callTy call_list_of (by rfl) T.b_list (by decide +kernel) (pa_cons (pe_fld (pv 0) rfl) pa_nil)))), ?_⟩
    exact ⟨.ref e, rfl, e, C, _, _, _, rfl, h.at_, EC.cl, EC.n5, rfl, _, _, rfl, .inl (.inl (.inl h.h5)), q⟩
theorem ok_checkN {C f : Addr} {fd : FuncData} (T : Txt K mg) (EC : EdC K C) (c_is_whole : Cl P w K mg base 2 "is_whole" ["thing", "low", "high"] (sp_whole K)) (m_size : C8.Met P w K mg base 2 C "size" (sp_size C) []) (F : Fun K "_check_number" "Edition._check_number" s_Edition__check_number f fd) : FnOk P w K mg base CX0 3 f fd ["self", "number"] (sp_checkN C) := by
  refine F.ok sc_Edition__check_number (fun vs H Q E h => ?_) (fun cdv A outer s H vs Q E hr h => ?_)
  · obtain ⟨S, e, B, L, n, rfl, _⟩ := h
    rfl
  · obtain ⟨S, e, B, L, n, rfl, h, n0, n1, q⟩ := h
    refine ⟨_, (pss_one (ps_if (pt_not (pt_val (pe_cl c_is_whole hr (by decide) (by rfl) (pa_cons (pv 1) (pa_cons pe_int (pa_cons (pe_op op_sub (C8.pe_mt0 m_size hr (by decide) (pv 0)) pe_int) pa_nil)))))) (pss_one ps_never) pss_nil)), ?_⟩
    obtain ⟨w, hw⟩ := id h
    have ew : whole (.int n) 0 (((plOf B).length : Nat) - 1) = true := by
      show (decide (0 ≤ n) && decide (n ≤ (((plOf B).length : Nat) : Int) - 1)) = true
      rw [decide_eq_true n0, decide_eq_true (by omega), Bool.true_and]
    refine ⟨_, rfl, .ref e, rfl, e, _, _, rfl, hw.at_, rfl, S, e, B, L, rfl, h, _, 1, rfl, rfl, .int n, 0, _, rfl, .int _, ?_⟩
    rw [ew]
    exact ⟨_, rfl, ite2 (fun z => absurd z (by decide)) fun _ => q⟩
end
end My
set_option Elab.async false
set_option linter.all false
set_option maxRecDepth 100000
set_option maxHeartbeats 4000000
namespace My
open PySem PySem.Spec PyProof.Rows L2
def sp_lineAt (C : Addr) : Sp := fun vs H Q _ => ∃ (S : Av) (e : Addr) (B : Bks) (L : List Int) (n : Nat) (z : Int), vs = [.ref e, .int (n : Nat)] ∧ EdAt S H C e B L ∧ n < (plOf B).length ∧ L[n]? = some z ∧ Q (.int z) H
def prtV (L : List Int) : V → V
  | .int z => if whole (.int z) 0 9999 = true then (valV (numD L) (Sum.inl z)).getD .non else .non
  | _ => .non
def sp_partOf (K : PySem.W.Frag) (C : Addr) : Sp := fun vs H Q _ => ∃ (S : Av) (e : Addr) (B : Bks) (L : List Int) (x : V), vs = [.ref e, x] ∧ EdAt S H C e B L ∧ Th K H x ∧ Q (prtV L x) H
def sp_told (C : Addr) : Sp := fun vs H Q _ => ∃ (S : Av) (e : Addr) (B : Bks) (L : List Int), vs = [.ref e] ∧ Occ S H ∧ EdAt S H C e B L ∧ L.length ≤ 1000 ∧ ∀ v H', Same H H' → At S H' v (.tuple [bksD B, .tuple ((fewest L).map prD)]) → Q v H'
section
variable {P : Program} {w : World} {K : PySem.W.Frag} {mg : Str → Option Value} {base : Heap}
theorem ok_lineAt {C f : Addr} {fd : FuncData} (T : Txt K mg) (EC : EdC K C) (m__check_number : C8.Met P w K mg base 3 C "_check_number" (sp_checkN C) []) (F : Fun K "line_at" "Edition.line_at" s_Edition_line_at f fd) : FnOk P w K mg base CX0 4 f fd ["self", "number"] (sp_lineAt C) := by
  refine F.ok sc_Edition_line_at (fun vs H Q E h => ?_) (fun cdv A outer s H vs Q E hr h => ?_)
  · obtain ⟨S, e, B, L, n, z, rfl, _⟩ := h
    rfl
  · obtain ⟨S, e, B, L, n, z, rfl, h, n1, hz, q⟩ := h
    refine ⟨_, (pss_cons (ps_expr (C8.pe_mt m__check_number hr (by decide) (pv 0) (pa_cons (pv 1) pa_nil)))
      (pss_one (ps_ret (pe_ix ix_list (pe_fld (pv 0) rfl) (pv 1) (fun _ _ => rfl))))), ?_⟩
    obtain ⟨w, hw⟩ := id h
    refine ⟨.ref e, rfl, e, _, _, rfl, hw.at_, rfl, _, rfl, S, e, B, L, _, rfl, h, by omega, by omega, ?_⟩
    refine ⟨.ref e, rfl, e, C, _, _, _, rfl, hw.at_, EC.cl, EC.n5, rfl, _, rfl, _, _, _, _, rfl, rfl, .inl (.inl hw.h5), atI_nat (j := n) (by rw [List.getElem?_map, hz]; rfl), q⟩
theorem ok_partOf {C f : Addr} {fd : FuncData} (T : Txt K mg) (EC : EdC K C) (c_is_whole : Cl P w K mg base 2 "is_whole" ["thing", "low", "high"] (sp_whole K)) (F : Fun K "part_of" "Edition.part_of" s_Edition_part_of f fd) : FnOk P w K mg base CX0 3 f fd ["self", "thing"] (sp_partOf K C) := by
  refine F.ok sc_Edition_part_of (fun vs H Q E h => ?_) (fun cdv A outer s H vs Q E hr h => ?_)
  · obtain ⟨S, e, B, L, x, rfl, _⟩ := h
    rfl
  · obtain ⟨S, e, B, L, x, rfl, h, hx, q⟩ := h
    refine ⟨_, (pss_cons (ps_if (pt_not (pt_val (pe_cl c_is_whole hr (by decide) (by rfl) (pa_cons (pv 1) (pa_cons pe_int (pa_cons (C8.pe_gc (by rfl) T.g_LAST_LINE) pa_nil)))))) (pss_one (ps_ret pe_non)) pss_nil)
      (pss_one (ps_ret (pe_dget1 (hu_of hr) (pe_fld (pv 0) rfl) (pv 1) ⟨rfl, rfl, rfl, rfl⟩)))), ?_⟩
    obtain ⟨w, hw⟩ := id h
    refine ⟨_, rfl, x, 0, 9999, rfl, hx, _, rfl, ?_⟩
    cases ew : whole x 0 9999 with
    | true =>
      refine ite2 (fun z => absurd z (by decide)) fun _ => ?_
      cases x with
      | int z =>
        have q : Q (if whole (.int z) 0 9999 = true then (valV (numD L) (Sum.inl z)).getD .non else .non) H := q
        rw [if_pos ew] at q
        exact ⟨.ref e, rfl, e, C, _, _, _, rfl, hw.at_, EC.cl, EC.n6, rfl, _, rfl, .inl ⟨_, .inl hw.h6⟩, _, rfl, _, DGet.k (k := Sum.inl z) hw.h6, q⟩
      | _ => exact absurd ew Bool.false_ne_true
    | false =>
      refine ite2 (fun _ => ?_) fun z => absurd rfl z
      cases x with
      | int z =>
        have q : Q (if whole (.int z) 0 9999 = true then (valV (numD L) (Sum.inl z)).getD .non else .non) H := q
        rw [if_neg (by rw [ew]; exact Bool.false_ne_true)] at q
        exact q
      | _ => exact q
theorem ok_told {C f : Addr} {fd : FuncData} (T : Txt K mg) (EC : EdC K C) (F : Fun K "told" "Edition.told" s_Edition_told f fd) : FnOk P w K mg base CX0 3 f fd ["self"] (sp_told C) := by
  refine F.ok sc_Edition_told (fun vs H Q E h => ?_) (fun cdv A outer s H vs Q E hr h => ?_)
  · obtain ⟨S, e, B, L, rfl, _⟩ := h
    rfl
  · obtain ⟨S, e, B, L, rfl, ho, h, ll, q⟩ := h
    refine ⟨_, (pss_one (ps_ret (pe_fld (pv 0) rfl))), ?_⟩
    obtain ⟨w, hw⟩ := id h
    exact ⟨.ref e, rfl, e, C, _, _, _, rfl, hw.at_, EC.cl, EC.n7, rfl, q _ _ (Same.refl H) hw.h7⟩
end
end My
set_option Elab.async false
set_option linter.all false
set_option maxRecDepth 100000
set_option maxHeartbeats 4000000
namespace My
open PySem PySem.Spec PyProof.Rows L2
/-! M1: what the stretches tell: of each spot the first and the last part that begins with it; all parts are unlike. -/
theorem plK_len (x : Pl) : (plK x).length = 4 := rfl
theorem stPut_ne {f : StF} {n : Int} {t k : List Key} (h : k ≠ t) : stPut f n t k = f k := by
  unfold stPut
  rw [if_neg h]
theorem stPut_eq {f : StF} {n : Int} {k : List Key} : stPut f n k k = some ((match f k with | some s => s.1 | none => n), n) := by
  unfold stPut
  exact if_pos rfl
theorem stPl_at (f : StF) (n : Int) (x : Pl) {k : List Key} {m : Nat} (hk : k.length = m + 1) (hm : m < 4) : stPl f n x 4 k = if k = (plK x).take (m + 1) then some ((match f k with | some s => s.1 | none => n), n) else f k := by
  have L : ∀ i, i < 4 → ((plK x).take (i + 1)).length = i + 1 := fun i hi => by
    rw [List.length_take, plK_len]
    omega
  have ne : ∀ i, i < 4 → i ≠ m → k ≠ (plK x).take (i + 1) := fun i hi h z => by
    have := congrArg List.length z
    rw [L i hi] at this
    omega
  have z0 : ∀ f : StF, stPl f n x 0 = f := fun f => rfl
  by_cases e : k = (plK x).take (m + 1)
  · rw [if_pos e]
    have pt : ∀ g : StF, stPut g n ((plK x).take (m + 1)) k = some ((match g k with | some s => s.1 | none => n), n) := fun g => by
      rw [← e]
      exact stPut_eq
    rcases (by omega : m = 0 ∨ m = 1 ∨ m = 2 ∨ m = 3) with rfl | rfl | rfl | rfl
    · rw [stPl_succ, stPut_ne (ne 3 (by decide) (by decide)), stPl_succ, stPut_ne (ne 2 (by decide) (by decide)), stPl_succ, stPut_ne (ne 1 (by decide) (by decide)), stPl_succ, pt, z0]
    · rw [stPl_succ, stPut_ne (ne 3 (by decide) (by decide)), stPl_succ, stPut_ne (ne 2 (by decide) (by decide)), stPl_succ, pt, stPl_succ, stPut_ne (ne 0 (by decide) (by decide)), z0]
    · rw [stPl_succ, stPut_ne (ne 3 (by decide) (by decide)), stPl_succ, pt, stPl_succ, stPut_ne (ne 1 (by decide) (by decide)), stPl_succ, stPut_ne (ne 0 (by decide) (by decide)), z0]
    · rw [stPl_succ, pt, stPl_succ, stPut_ne (ne 2 (by decide) (by decide)), stPl_succ, stPut_ne (ne 1 (by decide) (by decide)), stPl_succ, stPut_ne (ne 0 (by decide) (by decide)), z0]
  · rw [if_neg e]
    have ne' : ∀ i, i < 4 → k ≠ (plK x).take (i + 1) := fun i hi => by
      by_cases h : i = m
      · rw [h]
        exact e
      · exact ne i hi h
    rw [stPl_succ, stPut_ne (ne' 3 (by decide)), stPl_succ, stPut_ne (ne' 2 (by decide)), stPl_succ, stPut_ne (ne' 1 (by decide)), stPl_succ, stPut_ne (ne' 0 (by decide)), z0]
/-- the numbers of the parts that begin so -/
def insK (P : List Pl) (k : List Key) : List Int := (P.zipIdx.filter fun x => decide ((plK x.1).take k.length = k)).map fun x => (x.2 : Int)
def ends (l : List Int) : Option (Int × Int) := match l.head?, l.getLast? with
  | some a, some b => some (a, b)
  | _, _ => none
theorem ends_snoc (l : List Int) (z : Int) : ends (l ++ [z]) = some ((match ends l with | some s => s.1 | none => z), z) := by
  unfold ends
  cases l with
  | nil => rfl
  | cons a r =>
    rw [List.getLast?_concat]
    obtain ⟨y, e⟩ : ∃ y, (a :: r).getLast? = some y := by
      cases q : (a :: r).getLast? with
      | none => exact absurd (List.getLast?_eq_none_iff.mp q) (by simp)
      | some y => exact ⟨y, rfl⟩
    rw [e]
    rfl
theorem insK_succ {P : List Pl} {i : Nat} {x : Pl} (h : P[i]? = some x) (k : List Key) : insK (P.take (i + 1)) k = if (plK x).take k.length = k then insK (P.take i) k ++ [(i : Int)] else insK (P.take i) k := by
  unfold insK
  rw [zi_succ h, List.filter_append]
  by_cases e : (plK x).take k.length = k
  · rw [if_pos e, List.filter_cons_of_pos (by simpa using e), List.map_append]
    rfl
  · rw [if_neg e, List.filter_cons_of_neg (by simpa using e), List.filter_nil, List.append_nil]
theorem st_ends (P : List Pl) {k : List Key} {m : Nat} (hk : k.length = m + 1) (hm : m < 4) : stOf P k = ends (insK P k) := by
  have key : ∀ i, i ≤ P.length → stOf (P.take i) k = ends (insK (P.take i) k) := by
    intro i
    induction i with
    | zero => intro _; rfl
    | succ i ih =>
      intro hi
      have hx : P[i]? = some P[i] := List.getElem?_eq_getElem (by omega)
      rw [st_succ hx, stPl_at _ _ _ hk hm, insK_succ hx, ih (by omega), hk]
      by_cases e : k = (plK P[i]).take (m + 1)
      · rw [if_pos e, if_pos e.symm, ends_snoc]
      · rw [if_neg e, if_neg fun z => e z.symm]
  have := key P.length (Nat.le_refl _)
  rwa [List.take_length] at this
/-! ### all parts are unlike -/
theorem plV_nodup (nm : List Nat) (ci vi : Nat) (m : Int) : (plV nm ci vi m).Nodup := by
  unfold plV
  refine List.pairwise_map.mpr (List.Pairwise.imp ?_ (List.nodup_range (n := m.toNat)))
  intro a b h e
  have := congrArg Pl.p e
  have : 1 + (a : Int) = 1 + (b : Int) := this
  exact h (by omega)
theorem zi_pair {α : Type} (l : List α) : ∀ n : Nat, (l.zipIdx n).Pairwise fun a b => a.2 ≠ b.2 := by
  induction l with
  | nil => intro n; exact .nil
  | cons a r ih =>
    intro n
    rw [List.zipIdx_cons]
    refine List.pairwise_cons.mpr ⟨fun b hb => ?_, ih (n + 1)⟩
    have := (List.mem_zipIdx hb).1
    show n ≠ b.2
    omega
theorem mem_plV' {nm : List Nat} {ci vi : Nat} {m : Int} {x : Pl} (h : x ∈ plV nm ci vi m) : x.nm = nm ∧ x.c = 1 + (ci : Int) ∧ x.v = 1 + (vi : Int) := by
  unfold plV at h
  obtain ⟨k, hk, rfl⟩ := List.mem_map.mp h
  exact ⟨rfl, rfl, rfl⟩
theorem mem_plC' {nm : List Nat} {ci : Nat} {c : List Int} {x : Pl} (h : x ∈ plC nm ci c) : x.nm = nm ∧ x.c = 1 + (ci : Int) := by
  unfold plC at h
  obtain ⟨y, hy, h⟩ := List.mem_flatMap.mp h
  have := mem_plV' h
  exact ⟨this.1, this.2.1⟩
theorem mem_plB' {b : List Nat × List (List Int)} {x : Pl} (h : x ∈ plB b) : x.nm = b.1 := by
  unfold plB at h
  obtain ⟨y, hy, h⟩ := List.mem_flatMap.mp h
  exact (mem_plC' h).1
theorem plC_nodup (nm : List Nat) (ci : Nat) (c : List Int) : (plC nm ci c).Nodup := by
  unfold plC
  refine List.pairwise_flatMap.mpr ⟨fun y _ => plV_nodup _ _ _ _, (zi_pair c 0).imp fun {a b} ne => ?_⟩
  intro x hx y hy e
  have h1 := (mem_plV' hx).2.2
  have h2 := (mem_plV' hy).2.2
  rw [e] at h1
  exact ne (by omega)
theorem plB_nodup (b : List Nat × List (List Int)) : (plB b).Nodup := by
  unfold plB
  refine List.pairwise_flatMap.mpr ⟨fun y _ => plC_nodup _ _ _, (zi_pair b.2 0).imp fun {a b} ne => ?_⟩
  intro x hx y hy e
  have h1 := (mem_plC' hx).2
  have h2 := (mem_plC' hy).2
  rw [e] at h1
  exact ne (by omega)
theorem plOf_nodup {B : Bks} (h : (B.map (·.1)).Nodup) : (plOf B).Nodup := by
  unfold plOf
  refine List.pairwise_flatMap.mpr ⟨fun y _ => plB_nodup _, (List.pairwise_map.mp h).imp fun {a b} ne => ?_⟩
  intro x hx y hy e
  rw [e] at hx
  exact ne ((mem_plB' hx).symm.trans (mem_plB' hy))
theorem plK_inj {x y : Pl} (h : plK x = plK y) : x = y := by
  have h1 := (List.cons.inj h).1
  have h2 := (List.cons.inj (List.cons.inj h).2).1
  have h3 := (List.cons.inj (List.cons.inj (List.cons.inj h).2).2).1
  have h4 := (List.cons.inj (List.cons.inj (List.cons.inj (List.cons.inj h).2).2).2).1
  have e1 : x.nm = y.nm := SX.S_inj (Sum.inr.inj h1)
  have e2 : x.c = y.c := Sum.inl.inj h2
  have e3 : x.v = y.v := Sum.inl.inj h3
  have e4 : x.p = y.p := Sum.inl.inj h4
  cases x
  cases y
  simp only at e1 e2 e3 e4
  subst e1 e2 e3 e4
  rfl
theorem insK_all {P : List Pl} (nd : P.Nodup) {i : Nat} {x : Pl} (h : P[i]? = some x) : insK P ((plK x).take 4) = [(i : Int)] := by
  have hi : i < P.length := (List.getElem?_eq_some_iff.mp h).1
  have t4 : ∀ y : Pl, (plK y).take 4 = plK y := fun y => rfl
  have key : ∀ n, n ≤ P.length → insK (P.take n) ((plK x).take 4) = if i < n then [(i : Int)] else [] := by
    intro n
    induction n with
    | zero => intro _; rfl
    | succ n ih =>
      intro hn
      have hx : P[n]? = some P[n] := List.getElem?_eq_getElem (by omega)
      rw [insK_succ hx, ih (by omega)]
      have el : ((plK x).take 4).length = 4 := rfl
      rw [el, t4, t4]
      by_cases e : n = i
      · subst e
        rw [h] at hx
        have hx := Option.some.inj hx
        rw [← hx, if_pos rfl, if_neg (by omega), if_pos (by omega)]
        rfl
      · have ne : ¬ plK P[n] = plK x := fun z => by
          have z := plK_inj z
          rw [z, ← h] at hx
          exact e ((List.getElem?_inj (by omega) nd).mp hx)
        rw [if_neg ne]
        by_cases q : i < n
        · rw [if_pos q, if_pos (by omega)]
        · rw [if_neg q, if_neg (by omega)]
  have := key P.length (Nat.le_refl _)
  rwa [List.take_length, if_pos hi] at this
theorem insK_mem {P : List Pl} {i : Nat} {x : Pl} (h : P[i]? = some x) {m : Nat} (hm : m < 4) : (i : Int) ∈ insK P ((plK x).take (m + 1)) := by
  unfold insK
  have el : ((plK x).take (m + 1)).length = m + 1 := by
    rw [List.length_take, plK_len]
    omega
  refine List.mem_map.mpr ⟨(x, i), List.mem_filter.mpr ⟨List.mem_zipIdx_iff_getElem?.mpr h, ?_⟩, rfl⟩
  rw [el]
  exact decide_eq_true rfl
end My
set_option Elab.async false
set_option linter.all false
set_option maxRecDepth 100000
set_option maxHeartbeats 4000000
namespace My
open PySem PySem.Spec PyProof.Rows L2
theorem lay_map {α : Type} (f : α → PyData) : ∀ l : List α, (∀ x ∈ l, (f x).canLay0 = true) → PyData.canLayAll0 (l.map f) = true
  | [], _ => rfl
  | a :: r, h => by
    show ((f a).canLay0 && PyData.canLayAll0 (r.map f)) = true
    rw [h a (List.mem_cons_self ..), lay_map f r fun x hx => h x (List.mem_cons_of_mem _ hx), Bool.and_true]
theorem dep_map {α : Type} (f : α → PyData) (n : Nat) : ∀ l : List α, (∀ x ∈ l, (f x).depth ≤ n) → PyData.depthAll (l.map f) ≤ n
  | [], _ => Nat.zero_le _
  | a :: r, h => by
    show max (f a).depth (PyData.depthAll (r.map f)) ≤ n
    have h1 := h a (List.mem_cons_self ..)
    have h2 := dep_map f n r fun x hx => h x (List.mem_cons_of_mem _ hx)
    omega
theorem lay_name {w : List Nat} (h : okName w) : PyData.strOk (SX.S w) = true := by
  show (w.toArray.all fun c => decide (c < 0x110000)) = true
  rw [← Array.all_toList, List.all_eq_true]
  intro c hc
  have := let128 c (h.a c hc)
  exact decide_eq_true (by omega)
theorem lay_pr (s : Int × Int) : (prD s).canLay0 = true := rfl
theorem dep_pr (s : Int × Int) : (prD s).depth ≤ 1 := Nat.le_refl _
theorem dep_ch (c : List Int) : (chD c).depth ≤ 1 := by
  have := dep_map PyData.int 0 c fun x _ => Nat.le_refl _
  show PyData.depthAll _ + 1 ≤ 1
  omega
theorem dep_chs (C : List (List Int)) : (chsD C).depth ≤ 2 := by
  have := dep_map chD 1 C fun x _ => dep_ch x
  show PyData.depthAll _ + 1 ≤ 2
  omega
theorem dep_bk (b : List Nat × List (List Int)) : (bkD b).depth ≤ 3 := by
  have := dep_chs b.2
  show max 0 (max (chsD b.2).depth 0) + 1 ≤ 3
  omega
theorem dep_bks (B : Bks) : (bksD B).depth ≤ 4 := by
  have := dep_map bkD 3 B fun x _ => dep_bk x
  show PyData.depthAll _ + 1 ≤ 4
  omega
theorem lay_bks {B : Bks} (h : ∀ b ∈ B, okName b.1) : (bksD B).canLay0 = true := by
  refine lay_map bkD B fun b hb => ?_
  show (PyData.strOk (SX.S b.1) && ((chsD b.2).canLay0 && true)) = true
  rw [lay_name (h b hb), Bool.true_and, Bool.and_true]
  exact lay_map chD b.2 fun c _ => lay_map PyData.int c fun x _ => rfl
theorem shaped_told {B : Bks} (h : ∀ b ∈ B, okName b.1) (L : List Int) : SeqAt.shaped (toldD B L) = true := by
  unfold SeqAt.shaped
  rw [Bool.and_eq_true]
  refine ⟨?_, decide_eq_true ?_⟩
  · show ((bksD B).canLay0 && (PyData.canLayAll0 ((fewest L).map prD) && true)) = true
    rw [lay_bks h, lay_map prD _ fun s _ => lay_pr s]
    rfl
  · have h1 := dep_bks B
    have h2 := dep_map prD 1 (fewest L) fun s _ => dep_pr s
    show max (bksD B).depth (max (PyData.depthAll ((fewest L).map prD) + 1) 0) + 1 ≤ 64
    omega
theorem eqv_prs : ∀ xs ys : List (Int × Int), PyData.eqvAll (xs.map prD) (ys.map prD) = decide (xs = ys)
  | [], [] => rfl
  | [], _ :: _ => rfl
  | _ :: _, [] => rfl
  | (a, b) :: r, (c, d) :: t => by
    show (((a == c) && ((b == d) && true)) && PyData.eqvAll (r.map prD) (t.map prD)) = _
    rw [eqv_prs r t, Bool.and_true]
    by_cases e1 : a = c
    · by_cases e2 : b = d
      · subst e1 e2
        rw [beq_self_eq_true, beq_self_eq_true, Bool.true_and, Bool.true_and]
        exact decide_eq_decide.mpr ⟨fun h => by rw [h], fun h => (List.cons.inj h).2⟩
      · rw [beq_false_of_ne e2, Bool.and_false, Bool.false_and]
        exact (decide_eq_false fun h => e2 (Prod.mk.inj (List.cons.inj h).1).2).symm
    · rw [beq_false_of_ne e1, Bool.false_and, Bool.false_and]
      exact (decide_eq_false fun h => e1 (Prod.mk.inj (List.cons.inj h).1).1).symm
/-! ### what the fewest pairs stand for -/
theorem fp_pos {ps : List (Int × Int)} (h : ∀ s ∈ ps, 1 ≤ s.2) (z : Int) : ∀ s ∈ fpStep ps z, 1 ≤ s.2 := by
  rcases List.eq_nil_or_concat ps with rfl | ⟨qs, s, rfl⟩
  · intro s hs
    rw [fp_nil, List.mem_singleton] at hs
    subst hs
    exact Int.le_refl _
  · rw [List.concat_eq_append] at h ⊢
    rw [fp_snoc]
    have hs := h s (by simp)
    split
    · intro t ht
      rcases List.mem_append.mp ht with ht | ht
      · exact h t (by simp [ht])
      · rw [List.mem_singleton] at ht
        subst ht
        show 1 ≤ s.2 + 1
        omega
    · intro t ht
      rcases List.mem_append.mp ht with ht | ht
      · exact h t ht
      · rw [List.mem_singleton] at ht
        subst ht
        exact Int.le_refl _
theorem lnP_succ {s : Int × Int} (h : 0 ≤ s.2) : lnP (s.1, s.2 + 1) = lnP s ++ [s.1 + s.2] := by
  unfold lnP
  have e : (s.2 + 1).toNat = s.2.toNat + 1 := by omega
  show (List.range (s.2 + 1).toNat).map _ = _
  rw [e, List.range_succ, List.map_append]
  show _ ++ [s.1 + ((s.2.toNat : Nat) : Int)] = _
  rw [Int.toNat_of_nonneg h]
theorem ln_one (z : Int) : lnP (z, 1) = [z] := by
  show [z + ((0 : Nat) : Int)] = [z]
  simp
theorem lnOf_app (ps qs : List (Int × Int)) : lnOf (ps ++ qs) = lnOf ps ++ lnOf qs := by
  unfold lnOf
  rw [List.flatMap_append]
theorem lnOf_one (s : Int × Int) : lnOf [s] = lnP s := by
  show lnP s ++ [] = lnP s
  rw [List.append_nil]
theorem fp_ln {ps : List (Int × Int)} (h : ∀ s ∈ ps, 1 ≤ s.2) (z : Int) : lnOf (fpStep ps z) = lnOf ps ++ [z] := by
  rcases List.eq_nil_or_concat ps with rfl | ⟨qs, s, rfl⟩
  · rw [fp_nil, lnOf_one, ln_one]
    rfl
  · rw [List.concat_eq_append] at h ⊢
    have hs := h s (by simp)
    rw [fp_snoc]
    split
    · rename_i e
      rw [lnOf_app, lnOf_app, lnOf_one, lnOf_one, lnP_succ (by omega), List.append_assoc, e]
    · rw [lnOf_app _ [(z, 1)], lnOf_one, ln_one]
theorem fewest_ln : ∀ (L : List Int) (ps : List (Int × Int)), (∀ s ∈ ps, 1 ≤ s.2) → (∀ s ∈ L.foldl fpStep ps, 1 ≤ s.2) ∧ lnOf (L.foldl fpStep ps) = lnOf ps ++ L
  | [], ps, h => ⟨h, (List.append_nil _).symm⟩
  | z :: r, ps, h => by
    obtain ⟨h1, h2⟩ := fewest_ln r (fpStep ps z) (fp_pos h z)
    refine ⟨h1, ?_⟩
    rw [List.foldl_cons, h2, fp_ln h, List.append_assoc]
    rfl
theorem lnOf_fewest (L : List Int) : lnOf (fewest L) = L := (fewest_ln L [] fun _ h => nomatch h).2
theorem fewest_pos (L : List Int) : ∀ s ∈ fewest L, 1 ≤ s.2 := (fewest_ln L [] fun _ h => nomatch h).1
theorem fewest_inj {L M : List Int} : fewest L = fewest M ↔ L = M := ⟨fun h => by rw [← lnOf_fewest L, h, lnOf_fewest], fun h => by rw [h]⟩
theorem eqv_told (B : Bks) (h : ∀ b ∈ B, okName b.1) (L M : List Int) : PyData.eqv (toldD B L) (toldD B M) = decide (L = M) := by
  show (PyData.eqv (bksD B) (bksD B) && (PyData.eqvAll ((fewest L).map prD) ((fewest M).map prD) && true)) = _
  rw [SeqAt.eqv_refl _ (lay_bks h), Bool.true_and, Bool.and_true, eqv_prs]
  exact decide_eq_decide.mpr fewest_inj
end My
set_option Elab.async false
set_option linter.all false
set_option maxRecDepth 100000
set_option maxHeartbeats 4000000
namespace My
open PySem PySem.Spec PyProof.Rows L2
theorem val_at {κ : Type} [DecidableEq κ] : ∀ {kvs : List (κ × V)} {i : Nat} {k : κ} {v : V}, kvs[i]? = some (k, v) → (kvs.map (·.1)).Nodup → valV kvs k = some v
  | [], _, _, _, h, _ => by
    rw [List.getElem?_nil] at h
    cases h
  | (k0, v0) :: r, 0, k, v, h, _ => by
    cases h
    unfold valV
    rw [List.find?_cons_of_pos (by simp)]
    rfl
  | (k0, v0) :: r, i + 1, k, v, h, nd => by
    rw [List.map_cons, List.nodup_cons] at nd
    have h' : r[i]? = some (k, v) := h
    have ne : k0 ≠ k := fun z => nd.1 (List.mem_map.mpr ⟨(k, v), List.mem_of_getElem? h', z.symm⟩)
    have := val_at h' nd.2
    unfold valV at this ⊢
    rw [List.find?_cons_of_neg (by simpa using ne)]
    exact this
theorem ChF.val {S : Av} {H : Hp} {kvs : List (Key × V)} {B : Bks} (h : ChF S H kvs B) (nd : (B.map (·.1)).Nodup) {b : List Nat × List (List Int)} (hb : b ∈ B) : ∃ v, valV kvs (Sum.inr (SX.S b.1) : Key) = some v ∧ At S H v (chsD b.2) := by
  obtain ⟨i, hi⟩ := List.mem_iff_getElem?.mp hb
  have h1 : (kvs.map (·.1))[i]? = some (Sum.inr (SX.S b.1) : Key) := by
    rw [h.k, List.getElem?_map, hi]
    rfl
  rw [List.getElem?_map] at h1
  cases e : kvs[i]? with
  | none =>
    rw [e] at h1
    cases h1
  | some kv =>
    rw [e] at h1
    have h2 : kv.1 = Sum.inr (SX.S b.1) := Option.some.inj h1
    have h3 : (kvs.map (·.2))[i]? = some kv.2 := by
      rw [List.getElem?_map, e]
      rfl
    obtain ⟨b', hb', hv⟩ := h.v.at_ h3
    rw [hi] at hb'
    cases hb'
    refine ⟨kv.2, val_at (i := i) (by rw [e, ← h2]) ?_, hv⟩
    rw [h.k]
    have : (B.map fun b => (Sum.inr (SX.S b.1) : Key)) = (B.map (·.1)).map fun n => (Sum.inr (SX.S n) : Key) := by
      rw [List.map_map]
      rfl
    rw [this]
    exact List.pairwise_map.mpr (nd.imp fun {a c} ne z => ne (SX.S_inj (Sum.inr.inj z)))
theorem lyes {n : Nat} {k : Int} (e : (n : Int) = k) : decide (V.int (n : Int) = V.int k) = true := by
  rw [e]
  exact decide_eq_true rfl
theorem lno {n : Nat} {k : Int} (e : (n : Int) ≠ k) : ¬ decide (V.int (n : Int) = V.int k) = true := fun z => e (V.int.inj (of_decide_eq_true z))
/-- a part that is there -/
structure okPl (B : Bks) (x : Pl) (b : List Nat × List (List Int)) (j k : Nat) (c : List Int) (m : Int) : Prop where
  hb : b ∈ B
  nm : b.1 = x.nm
  hc : b.2[j]? = some c
  xc : x.c = 1 + (j : Int)
  hm : c[k]? = some m
  xv : x.v = 1 + (k : Int)
  p1 : 1 ≤ x.p
  pm : x.p ≤ m
theorem mem_plV {nm : List Nat} {ci vi : Nat} {m : Int} {x : Pl} (h : x ∈ plV nm ci vi m) : x.nm = nm ∧ x.c = 1 + (ci : Int) ∧ x.v = 1 + (vi : Int) ∧ 1 ≤ x.p ∧ x.p ≤ m := by
  unfold plV at h
  obtain ⟨k, hk, rfl⟩ := List.mem_map.mp h
  have := List.mem_range.mp hk
  exact ⟨rfl, rfl, rfl, by show (1 : Int) ≤ 1 + (k : Int); omega, by show 1 + (k : Int) ≤ m; omega⟩
theorem mem_plOf {B : Bks} {x : Pl} (h : x ∈ plOf B) : ∃ b j k c m, okPl B x b j k c m := by
  unfold plOf at h
  obtain ⟨b, hb, h⟩ := List.mem_flatMap.mp h
  unfold plB at h
  obtain ⟨⟨c, j⟩, hc, h⟩ := List.mem_flatMap.mp h
  unfold plC at h
  obtain ⟨⟨m, k⟩, hm, h⟩ := List.mem_flatMap.mp h
  obtain ⟨e1, e2, e3, e4, e5⟩ := mem_plV h
  have hc : b.2[j]? = some c := by simpa using List.mem_zipIdx_iff_getElem?.mp hc
  have hm : c[k]? = some m := by simpa using List.mem_zipIdx_iff_getElem?.mp hm
  exact ⟨b, j, k, c, m, hb, e1.symm, hc, e2, hm, e3, e4, e5⟩
def sp_book (C : Addr) : Sp := fun vs H Q _ => ∃ (S : Av) (e : Addr) (B : Bks) (L : List Int) (b : List Nat × List (List Int)), vs = [.ref e, .str (SX.S b.1)] ∧ EdAt S H C e B L ∧ okBks B ∧ b ∈ B ∧ ∀ v, At S H v (chsD b.2) → Q v H
def sp_chap (C : Addr) : Sp := fun vs H Q _ => ∃ (S : Av) (e : Addr) (B : Bks) (L : List Int) (b : List Nat × List (List Int)) (j : Nat) (c : List Int), vs = [.ref e, .str (SX.S b.1), .int (1 + (j : Int))] ∧ EdAt S H C e B L ∧ okBks B ∧ b ∈ B ∧ b.2[j]? = some c ∧ ∀ v, At S H v (chD c) → Q v H
def sp_parts (C : Addr) : Sp := fun vs H Q _ => ∃ (S : Av) (e : Addr) (B : Bks) (L : List Int) (b : List Nat × List (List Int)) (j : Nat) (c : List Int) (k : Nat) (m : Int), vs = [.ref e, .str (SX.S b.1), .int (1 + (j : Int)), .int (1 + (k : Int))] ∧ EdAt S H C e B L ∧ okBks B ∧ b ∈ B ∧ b.2[j]? = some c ∧ c[k]? = some m ∧ Q (.int m) H
def sp_checkS (C : Addr) : Sp := fun vs H Q _ => ∃ (S : Av) (e : Addr) (B : Bks) (L : List Int) (t : Addr) (x : Pl) (n : Nat), vs = [.ref e, .ref t] ∧ EdAt S H C e B L ∧ okBks B ∧ x ∈ plOf B ∧ SpAt H t x (n + 1) ∧ n < 4 ∧ Q .non H
def sp_stretch (C : Addr) : Sp := fun vs H Q _ => ∃ (S : Av) (e : Addr) (B : Bks) (L : List Int) (t : Addr) (x : Pl) (n : Nat) (s : Int × Int), vs = [.ref e, .ref t] ∧ EdAt S H C e B L ∧ okBks B ∧ x ∈ plOf B ∧ SpAt H t x (n + 1) ∧ n < 4 ∧ stOf (plOf B) ((plK x).take (n + 1)) = some s ∧ ∀ v, At S H v (prD s) → Q v H
def sp_number (C : Addr) : Sp := fun vs H Q _ => ∃ (S : Av) (e : Addr) (B : Bks) (L : List Int) (t : Addr) (x : Pl) (s : Int × Int), vs = [.ref e, .ref t] ∧ EdAt S H C e B L ∧ okBks B ∧ x ∈ plOf B ∧ SpAt H t x 4 ∧ stOf (plOf B) ((plK x).take 4) = some s ∧ Q (.int s.1) H
def sp_place (C : Addr) : Sp := fun vs H Q _ => ∃ (S : Av) (e : Addr) (B : Bks) (L : List Int) (n : Nat) (x : Pl), vs = [.ref e, .int (n : Nat)] ∧ EdAt S H C e B L ∧ (plOf B)[n]? = some x ∧ ∀ v, At S H v (plD x) → Q v H
def sp_verseOf (C : Addr) : Sp := fun vs H Q _ => ∃ (S : Av) (e : Addr) (B : Bks) (L : List Int) (n : Nat) (x : Pl), vs = [.ref e, .int (n : Nat)] ∧ EdAt S H C e B L ∧ (plOf B)[n]? = some x ∧ ∀ t, H t = none → Q (.ref t) (upd H t (.tup [.str (SX.S x.nm), .int x.c, .int x.v]))
section
variable {P : Program} {w : World} {K : PySem.W.Frag} {mg : Str → Option Value} {base : Heap}
theorem ok_book {C f : Addr} {fd : FuncData} (T : Txt K mg) (EC : EdC K C) (F : Fun K "_book" "Edition._book" s_Edition__book f fd) : FnOk P w K mg base CX0 2 f fd ["self", "name"] (sp_book C) := by
  refine F.ok sc_Edition__book (fun vs H Q E h => ?_) (fun cdv A outer s H vs Q E hr h => ?_)
  · obtain ⟨S, e, B, L, b, rfl, _⟩ := h
    rfl
  · obtain ⟨S, e, B, L, b, rfl, ⟨w, hw⟩, ok, hb, q⟩ := h
    refine ⟨_, (pss_cons (ps_if (pt_not (PW.pt (pw_and (pt_val (pe_callB call_isb (by rfl) T.b_isinstance (by decide +kernel) (pa_cons (pv 1) (pa_cons (pe_bltn (v := .ty "str") (u := .type "str") (by rfl) T.b_str (by decide +kernel) rfl) pa_nil)))) (pw_and1 (pt_cmp (pc_din (hu_of hr) (pv 1) (pe_fld (pv 0) rfl))))))) (pss_one ps_never) pss_nil)
      (pss_one (ps_ret (pe_dget (hu_of hr) (pe_fld (pv 0) rfl) (pv 1) (fun _ _ => rfl))))), ?_⟩
    obtain ⟨v, hv, hat⟩ := hw.c2.val ok.nd hb
    refine ⟨_, rfl, isi_b (b := true) (.str _) (by decide +kernel) ⟨_, rfl, ite2 (fun _ => ?_) fun z => absurd rfl z⟩⟩
    refine ⟨_, rfl, .ref e, rfl, e, C, _, _, _, rfl, hw.at_, EC.cl, EC.n2, rfl, w.dc, _, rfl, DGet.k (k := Sum.inr (SX.S b.1)) hw.h2, _, rfl, ?_⟩
    rw [hv]
    refine ite2 (fun z => absurd (show false = true from z) Bool.false_ne_true) fun _ => ?_
    exact ⟨.ref e, rfl, e, C, _, _, _, rfl, hw.at_, EC.cl, EC.n2, rfl, _, rfl, w.dc, _, rfl, hv ▸ DGet.k (k := Sum.inr (SX.S b.1)) hw.h2, q v hat⟩
theorem ok_chap {C f : Addr} {fd : FuncData} (T : Txt K mg) (EC : EdC K C) (c_is_whole : Cl P w K mg base 2 "is_whole" ["thing", "low", "high"] (sp_whole K)) (m__book : C8.Met P w K mg base 2 C "_book" (sp_book C) []) (F : Fun K "_chapter" "Edition._chapter" s_Edition__chapter f fd) : FnOk P w K mg base CX0 3 f fd ["self", "name", "chapter"] (sp_chap C) := by
  refine F.ok sc_Edition__chapter (fun vs H Q E h => ?_) (fun cdv A outer s H vs Q E hr h => ?_)
  · obtain ⟨S, e, B, L, b, j, c, rfl, _⟩ := h
    rfl
  · obtain ⟨S, e, B, L, b, j, c, rfl, h, ok, hb, hc, q⟩ := h
    refine ⟨_, (pss_cons (ps_set (i := 3) sc_Edition__chapter.nd rfl (.inl rfl) (C8.pe_mt m__book hr (by decide) (pv 0) (pa_cons (pv 1) pa_nil)))
      (pss_cons (ps_if (pt_not (pt_val (pe_cl c_is_whole hr (by decide) (by rfl) (pa_cons (pv 2) (pa_cons pe_int (pa_cons (pe_callB call_len (by rfl) T.b_len (by decide +kernel) (pa_cons (pv 3) pa_nil)) pa_nil)))))) (pss_one ps_never) pss_nil)
      (pss_one (ps_ret (pe_ix ix_tup (pv 3) (pe_op op_sub (pv 2) pe_int) (fun _ _ => rfl)))))), ?_⟩
    obtain ⟨w, hw⟩ := id h
    refine ⟨.ref e, rfl, e, _, _, rfl, hw.at_, rfl, _, rfl, S, e, B, L, b, rfl, h, ok, hb, fun v hv => ?_⟩
    cases hv with
    | tup nt et kt =>
    rename_i t xs
    have lx : xs.length = b.2.length := by rw [kt.len, List.length_map]
    have lj : j < b.2.length := (List.getElem?_eq_some_iff.mp hc).1
    have ew : whole (.int (1 + (j : Int))) 1 (xs.length : Nat) = true := by
      show (decide (1 ≤ 1 + (j : Int)) && decide (1 + (j : Int) ≤ (xs.length : Nat))) = true
      rw [decide_eq_true (by omega), decide_eq_true (by omega), Bool.true_and]
    refine ⟨_, rfl, .ref t, rfl, _, _, rfl, .inr ⟨_, .inl (.inl et), rfl⟩, .int (1 + (j : Int)), 1, _, rfl, .int _, ?_⟩
    rw [ew]
    refine ⟨_, rfl, ite2 (fun z => absurd z (by decide)) fun _ => ?_⟩
    have hx : xs[j]? = some xs[j] := List.getElem?_eq_getElem (by omega)
    obtain ⟨c', hc', hv⟩ := kt.at_ hx
    rw [hc] at hc'
    cases hc'
    have ej : 1 + (j : Int) - 1 = (j : Int) := by omega
    exact ⟨.ref t, rfl, _, rfl, 1 + (j : Int), 1, rfl, rfl, t, _, _, _, rfl, rfl, .inl (.inl et), (by rw [ej]; exact atI_nat hx), q _ hv⟩
theorem ok_parts {C f : Addr} {fd : FuncData} (T : Txt K mg) (EC : EdC K C) (c_is_whole : Cl P w K mg base 2 "is_whole" ["thing", "low", "high"] (sp_whole K)) (m__chapter : C8.Met P w K mg base 3 C "_chapter" (sp_chap C) []) (F : Fun K "parts" "Edition.parts" s_Edition_parts f fd) : FnOk P w K mg base CX0 4 f fd ["self", "name", "chapter", "verse"] (sp_parts C) := by
  refine F.ok sc_Edition_parts (fun vs H Q E h => ?_) (fun cdv A outer s H vs Q E hr h => ?_)
  · obtain ⟨S, e, B, L, b, j, c, k, m, rfl, _⟩ := h
    rfl
  · obtain ⟨S, e, B, L, b, j, c, k, m, rfl, h, ok, hb, hc, hm, q⟩ := h
    refine ⟨_, (pss_cons (ps_set (i := 4) sc_Edition_parts.nd rfl (.inl rfl) (C8.pe_mt m__chapter hr (by decide) (pv 0) (pa_cons (pv 1) (pa_cons (pv 2) pa_nil))))
      (pss_cons (ps_if (pt_not (pt_val (pe_cl c_is_whole hr (by decide) (by rfl) (pa_cons (pv 3) (pa_cons pe_int (pa_cons (pe_callB call_len (by rfl) T.b_len (by decide +kernel) (pa_cons (pv 4) pa_nil)) pa_nil)))))) (pss_one ps_never) pss_nil)
      (pss_one (ps_ret (pe_ix ix_tup (pv 4) (pe_op op_sub (pv 3) pe_int) (fun _ _ => rfl)))))), ?_⟩
    obtain ⟨w, hw⟩ := id h
    refine ⟨.ref e, rfl, e, _, _, rfl, hw.at_, rfl, _, rfl, _, rfl, S, e, B, L, b, j, c, rfl, h, ok, hb, hc, fun v hv => ?_⟩
    obtain ⟨t, rfl, nt, et⟩ := hv.ch
    have lk : k < c.length := (List.getElem?_eq_some_iff.mp hm).1
    have ew : whole (.int (1 + (k : Int))) 1 ((c.map V.int).length : Nat) = true := by
      show (decide (1 ≤ 1 + (k : Int)) && decide (1 + (k : Int) ≤ ((c.map V.int).length : Nat))) = true
      rw [List.length_map, decide_eq_true (by omega), decide_eq_true (by omega), Bool.true_and]
    refine ⟨_, rfl, .ref t, rfl, _, _, rfl, .inr ⟨_, .inl (.inl et), rfl⟩, .int (1 + (k : Int)), 1, _, rfl, .int _, ?_⟩
    rw [ew]
    refine ⟨_, rfl, ite2 (fun z => absurd z (by decide)) fun _ => ?_⟩
    have ek : 1 + (k : Int) - 1 = (k : Int) := by omega
    exact ⟨.ref t, rfl, _, rfl, 1 + (k : Int), 1, rfl, rfl, t, _, _, _, rfl, rfl, .inl (.inl et), (by rw [ek]; exact atI_nat (by rw [List.getElem?_map, hm]; rfl)), q⟩
theorem ok_checkS {C f : Addr} {fd : FuncData} (T : Txt K mg) (EC : EdC K C) (c_is_whole : Cl P w K mg base 2 "is_whole" ["thing", "low", "high"] (sp_whole K)) (m__book : C8.Met P w K mg base 2 C "_book" (sp_book C) []) (m__chapter : C8.Met P w K mg base 3 C "_chapter" (sp_chap C) []) (m_parts : C8.Met P w K mg base 4 C "parts" (sp_parts C) []) (F : Fun K "_check_spot" "Edition._check_spot" s_Edition__check_spot f fd) : FnOk P w K mg base CX0 5 f fd ["self", "spot"] (sp_checkS C) := by
  refine F.ok sc_Edition__check_spot (fun vs H Q E h => ?_) (fun cdv A outer s H vs Q E hr h => ?_)
  · obtain ⟨S, e, B, L, t, x, n, rfl, _⟩ := h
    rfl
  · obtain ⟨S, e, B, L, t, x, n, rfl, h, ok, hx, ht, hn, q⟩ := h
    refine ⟨_, (pss_one (ps_if (pt_cmpR op_eq (pe_callB call_len (by rfl) T.b_len (by decide +kernel) (pa_cons (pv 1) pa_nil)) pe_int (nomark _)) (pss_one (ps_expr (C8.pe_mt m__book hr (by decide) (pv 0) (pa_cons (pe_ix ix_tup (pv 1) pe_int (fun _ _ => rfl)) pa_nil)))) (pss_one (ps_if (pt_cmpR op_eq (pe_callB call_len (by rfl) T.b_len (by decide +kernel) (pa_cons (pv 1) pa_nil)) pe_int (nomark _)) (pss_one (ps_expr (C8.pe_mt m__chapter hr (by decide) (pv 0) (pa_cons (pe_ix ix_tup (pv 1) pe_int (fun _ _ => rfl)) (pa_cons (pe_ix ix_tup (pv 1) pe_int (fun _ _ => rfl)) pa_nil))))) (pss_cons (ps_set (i := 2) sc_Edition__check_spot.nd rfl (.inl rfl) (C8.pe_mt m_parts hr (by decide) (pv 0) (pa_cons (pe_ix ix_tup (pv 1) pe_int (fun _ _ => rfl)) (pa_cons (pe_ix ix_tup (pv 1) pe_int (fun _ _ => rfl)) (pa_cons (pe_ix ix_tup (pv 1) pe_int (fun _ _ => rfl)) pa_nil)))))
          (pss_one (ps_if (PW.pt (pw_and (pt_cmpR op_eq (pe_callB call_len (by rfl) T.b_len (by decide +kernel) (pa_cons (pv 1) pa_nil)) pe_int (nomark _)) (pw_and1 (pt_not (pt_val (pe_cl c_is_whole hr (by decide) (by rfl) (pa_cons (pe_ix ix_tup (pv 1) pe_int (fun _ _ => rfl)) (pa_cons pe_int (pa_cons (pv 2) pa_nil))))))))) (pss_one ps_never) pss_nil))))))), ?_⟩
    obtain ⟨w, hw⟩ := id h
    obtain ⟨b, j, k, c, m, o⟩ := mem_plOf hx
    have en : V.str (SX.S x.nm) = .str (SX.S b.1) := by rw [o.nm]
    have ht' : H t = some (.tup ([.str (SX.S x.nm), .int x.c, .int x.v, .int x.p].take (n + 1))) := by
      have := ht
      unfold SpAt at this
      rw [plK_kV] at this
      exact this
    rw [en, o.xc, o.xv] at ht'
    rcases (by omega : n = 0 ∨ n = 1 ∨ n = 2 ∨ n = 3) with rfl | rfl | rfl | rfl
    · have ht1 : H t = some (.tup [.str (SX.S b.1)]) := ht'
      refine ⟨.ref t, rfl, _, _, rfl, .inr ⟨_, .inl (.inl ht1), rfl⟩, rfl, _, rfl, ite2 (fun _ => ?_) fun z => (z (lyes rfl)).elim⟩
      exact ⟨.ref e, rfl, e, _, _, rfl, hw.at_, rfl, .ref t, rfl, t, _, _, _, rfl, rfl, .inl (.inl ht1), atI_nat (j := 0) rfl, S, e, B, L, b, rfl, h, ok, o.hb, fun v hv => q⟩
    · have ht1 : H t = some (.tup [.str (SX.S b.1), .int (1 + (j : Int))]) := ht'
      refine ⟨.ref t, rfl, _, _, rfl, .inr ⟨_, .inl (.inl ht1), rfl⟩, rfl, _, rfl, ite2 (fun z => absurd z (lno (n := 2) (by decide))) fun _ => ?_⟩
      refine ⟨.ref t, rfl, _, _, rfl, .inr ⟨_, .inl (.inl ht1), rfl⟩, rfl, _, rfl, ite2 (fun _ => ?_) fun z => (z (lyes rfl)).elim⟩
      exact ⟨.ref e, rfl, e, _, _, rfl, hw.at_, rfl, .ref t, rfl, t, _, _, _, rfl, rfl, .inl (.inl ht1), atI_nat (j := 0) rfl, .ref t, rfl, t, _, _, _, rfl, rfl, .inl (.inl ht1), atI_nat (j := 1) rfl, S, e, B, L, b, j, c, rfl, h, ok, o.hb, o.hc, fun v hv => q⟩
    · have ht1 : H t = some (.tup [.str (SX.S b.1), .int (1 + (j : Int)), .int (1 + (k : Int))]) := ht'
      refine ⟨.ref t, rfl, _, _, rfl, .inr ⟨_, .inl (.inl ht1), rfl⟩, rfl, _, rfl, ite2 (fun z => absurd z (lno (n := 3) (by decide))) fun _ => ?_⟩
      refine ⟨.ref t, rfl, _, _, rfl, .inr ⟨_, .inl (.inl ht1), rfl⟩, rfl, _, rfl, ite2 (fun z => absurd z (lno (n := 3) (by decide))) fun _ => ?_⟩
      refine ⟨.ref e, rfl, e, _, _, rfl, hw.at_, rfl, .ref t, rfl, t, _, _, _, rfl, rfl, .inl (.inl ht1), atI_nat (j := 0) rfl, .ref t, rfl, t, _, _, _, rfl, rfl, .inl (.inl ht1), atI_nat (j := 1) rfl, .ref t, rfl, t, _, _, _, rfl, rfl, .inl (.inl ht1), atI_nat (j := 2) rfl, S, e, B, L, b, j, c, k, m, rfl, h, ok, o.hb, o.hc, o.hm, ?_⟩
      exact ⟨.ref t, rfl, _, _, rfl, .inr ⟨_, .inl (.inl ht1), rfl⟩, rfl, _, rfl, ite2 (fun z => absurd z (lno (n := 3) (by decide))) fun _ => ite2 (fun z => absurd (show false = true from z) Bool.false_ne_true) fun _ => q⟩
    · have ht1 : H t = some (.tup [.str (SX.S b.1), .int (1 + (j : Int)), .int (1 + (k : Int)), .int x.p]) := ht'
      refine ⟨.ref t, rfl, _, _, rfl, .inr ⟨_, .inl (.inl ht1), rfl⟩, rfl, _, rfl, ite2 (fun z => absurd z (lno (n := 4) (by decide))) fun _ => ?_⟩
      refine ⟨.ref t, rfl, _, _, rfl, .inr ⟨_, .inl (.inl ht1), rfl⟩, rfl, _, rfl, ite2 (fun z => absurd z (lno (n := 4) (by decide))) fun _ => ?_⟩
      refine ⟨.ref e, rfl, e, _, _, rfl, hw.at_, rfl, .ref t, rfl, t, _, _, _, rfl, rfl, .inl (.inl ht1), atI_nat (j := 0) rfl, .ref t, rfl, t, _, _, _, rfl, rfl, .inl (.inl ht1), atI_nat (j := 1) rfl, .ref t, rfl, t, _, _, _, rfl, rfl, .inl (.inl ht1), atI_nat (j := 2) rfl, S, e, B, L, b, j, c, k, m, rfl, h, ok, o.hb, o.hc, o.hm, ?_⟩
      have ew : whole (.int x.p) 1 m = true := by
        show (decide (1 ≤ x.p) && decide (x.p ≤ m)) = true
        rw [decide_eq_true o.p1, decide_eq_true o.pm, Bool.true_and]
      refine ⟨.ref t, rfl, _, _, rfl, .inr ⟨_, .inl (.inl ht1), rfl⟩, rfl, _, rfl, ite2 (fun _ => ?_) fun z => (z (lyes rfl)).elim⟩
      refine ⟨.ref t, rfl, t, _, _, _, rfl, rfl, .inl (.inl ht1), atI_nat (j := 3) rfl, _, rfl, .int x.p, 1, m, rfl, .int _, ?_⟩
      rw [ew]
      exact ⟨_, rfl, ite2 (fun z => absurd z (by decide)) fun _ => q⟩
theorem ok_stretch {C f : Addr} {fd : FuncData} (T : Txt K mg) (EC : EdC K C) (c_is_tuple : Cl P w K mg base 2 "is_tuple" ["thing", "fewest", "most"] sp_isTup) (m__check_spot : C8.Met P w K mg base 5 C "_check_spot" (sp_checkS C) []) (F : Fun K "stretch" "Edition.stretch" s_Edition_stretch f fd) : FnOk P w K mg base CX0 6 f fd ["self", "spot"] (sp_stretch C) := by
  refine F.ok sc_Edition_stretch (fun vs H Q E h => ?_) (fun cdv A outer s H vs Q E hr h => ?_)
  · obtain ⟨S, e, B, L, t, x, n, s, rfl, _⟩ := h
    rfl
  · obtain ⟨S, e, B, L, t, x, n, s, rfl, h, ok, hx, ht, hn, hs, q⟩ := h
    refine ⟨_, (pss_cons (ps_if (pt_not (pt_val (pe_cl c_is_tuple hr (by decide) (by rfl) (pa_cons (pv 1) (pa_cons pe_int (pa_cons pe_int pa_nil)))))) (pss_one ps_never) pss_nil)
      (pss_cons (ps_expr (C8.pe_mt m__check_spot hr (by decide) (pv 0) (pa_cons (pv 1) pa_nil)))
      (pss_one (ps_ret (pe_dget (hu_of hr) (pe_fld (pv 0) rfl) (pv 1) (fun _ _ => rfl)))))), ?_⟩
    obtain ⟨w, hw⟩ := id h
    have lt : (((plK x).take (n + 1)).map kV).length = n + 1 := by
      rw [List.length_map, List.length_take]
      show min (n + 1) 4 = n + 1
      omega
    refine ⟨.ref t, rfl, t, _, 1, 4, rfl, ht, ?_⟩
    rw [lt, decide_eq_true (by omega), decide_eq_true (by omega)]
    refine ⟨_, rfl, ite2 (fun z => absurd z (by decide)) fun _ => ?_⟩
    refine ⟨.ref e, rfl, e, _, _, rfl, hw.at_, rfl, _, rfl, S, e, B, L, t, x, n, rfl, h, ok, hx, ht, hn, ?_⟩
    have hk := hw.c4 ((plK x).take (n + 1))
    rw [hs] at hk
    obtain ⟨v, h1, h2⟩ := hk
    exact ⟨.ref e, rfl, e, C, _, _, _, rfl, hw.at_, EC.cl, EC.n4, rfl, _, rfl, w.ds, _, rfl, h1 ▸ DGet.t hw.h4 ht, q v h2⟩
theorem ok_numberE {C f : Addr} {fd : FuncData} (T : Txt K mg) (EC : EdC K C) (c_is_tuple : Cl P w K mg base 2 "is_tuple" ["thing", "fewest", "most"] sp_isTup) (m_stretch : C8.Met P w K mg base 6 C "stretch" (sp_stretch C) []) (F : Fun K "number" "Edition.number" s_Edition_number f fd) : FnOk P w K mg base CX0 7 f fd ["self", "spot"] (sp_number C) := by
  refine F.ok sc_Edition_number (fun vs H Q E h => ?_) (fun cdv A outer s H vs Q E hr h => ?_)
  · obtain ⟨S, e, B, L, t, x, s, rfl, _⟩ := h
    rfl
  · obtain ⟨S, e, B, L, t, x, s, rfl, h, ok, hx, ht, hs, q⟩ := h
    refine ⟨_, (pss_cons (ps_if (pt_not (pt_val (pe_cl c_is_tuple hr (by decide) (by rfl) (pa_cons (pv 1) (pa_cons pe_int (pa_cons pe_int pa_nil)))))) (pss_one ps_never) pss_nil)
      (pss_cons (ps_asg (C8.pe_mt m_stretch hr (by decide) (pv 0) (pa_cons (pv 1) pa_nil)) (pg_tup rfl (pgs_cons (pg_name (i := 2) sc_Edition_number.nd rfl (.inl rfl)) (pgs_cons (pg_name (i := 3) sc_Edition_number.nd rfl (.inl rfl)) pgs_nil))))
      (pss_one (ps_ret (pv 2))))), ?_⟩
    obtain ⟨w, hw⟩ := id h
    refine ⟨.ref t, rfl, t, _, 4, 4, rfl, ht, _, rfl, ite2 (fun z => absurd (show false = true from z) Bool.false_ne_true) fun _ => ?_⟩
    refine ⟨.ref e, rfl, e, _, _, rfl, hw.at_, rfl, _, rfl, S, e, B, L, t, x, 3, s, rfl, h, ok, hx, ht, by decide, hs, fun v hv => ?_⟩
    obtain ⟨p, rfl, np, ep⟩ := hv.pair
    exact ⟨p, _, rfl, .inl (.inl ep), rfl, _, _, rfl, _, _, rfl, rfl, _, rfl, q⟩
theorem ok_place {C f : Addr} {fd : FuncData} (T : Txt K mg) (EC : EdC K C) (m__check_number : C8.Met P w K mg base 3 C "_check_number" (sp_checkN C) []) (F : Fun K "place" "Edition.place" s_Edition_place f fd) : FnOk P w K mg base CX0 4 f fd ["self", "number"] (sp_place C) := by
  refine F.ok sc_Edition_place (fun vs H Q E h => ?_) (fun cdv A outer s H vs Q E hr h => ?_)
  · obtain ⟨S, e, B, L, n, x, rfl, _⟩ := h
    rfl
  · obtain ⟨S, e, B, L, n, x, rfl, h, hx, q⟩ := h
    refine ⟨_, (pss_cons (ps_expr (C8.pe_mt m__check_number hr (by decide) (pv 0) (pa_cons (pv 1) pa_nil)))
      (pss_one (ps_ret (pe_ix ix_list (pe_fld (pv 0) rfl) (pv 1) (fun _ _ => rfl))))), ?_⟩
    obtain ⟨w, hw⟩ := id h
    have ln : n < (plOf B).length := (List.getElem?_eq_some_iff.mp hx).1
    have lr : w.rows.length = (plOf B).length := by rw [hw.c3.len, List.length_map]
    have hv : w.rows[n]? = some w.rows[n] := List.getElem?_eq_getElem (by omega)
    obtain ⟨x', hx', hat⟩ := hw.c3.at_ hv
    rw [hx] at hx'
    cases hx'
    refine ⟨.ref e, rfl, e, _, _, rfl, hw.at_, rfl, _, rfl, S, e, B, L, _, rfl, h, by omega, by omega, ?_⟩
    exact ⟨.ref e, rfl, e, C, _, _, _, rfl, hw.at_, EC.cl, EC.n3, rfl, _, rfl, _, _, _, _, rfl, rfl, .inl (.inl hw.h3), atI_nat hv, q _ hat⟩
theorem ok_verseOf {C f : Addr} {fd : FuncData} (T : Txt K mg) (EC : EdC K C) (m_place : C8.Met P w K mg base 4 C "place" (sp_place C) []) (F : Fun K "verse_of" "Edition.verse_of" s_Edition_verse_of f fd) : FnOk P w K mg base CX0 5 f fd ["self", "number"] (sp_verseOf C) := by
  refine F.ok sc_Edition_verse_of (fun vs H Q E h => ?_) (fun cdv A outer s H vs Q E hr h => ?_)
  · obtain ⟨S, e, B, L, n, x, rfl, _⟩ := h
    rfl
  · obtain ⟨S, e, B, L, n, x, rfl, h, hx, q⟩ := h
    refine ⟨_, (pss_one (ps_ret (pe_slice sl_tupA (C8.pe_mt m_place hr (by decide) (pv 0) (pa_cons (pv 1) pa_nil)) po_none (po_some pe_int)))), ?_⟩
    obtain ⟨w, hw⟩ := id h
    refine ⟨.ref e, rfl, e, _, _, rfl, hw.at_, rfl, _, rfl, S, e, B, L, n, x, rfl, h, hx, fun v hv => ?_⟩
    obtain ⟨a, rfl, na, ea⟩ := hv.pl
    refine ⟨_, rfl, a, _, rfl, .inl (.inl ea), fun hc => ?_, fun _ t ht => q t ht⟩
    exact absurd (show (3 : Nat) = 4 from hc.2) (by decide)
end
end My
set_option Elab.async false
set_option linter.all false
set_option maxRecDepth 100000
set_option maxHeartbeats 4000000
namespace My
open PySem PySem.Spec PyProof.Rows L2
/-! M2: all spots, level by level; their stretches follow one another. -/
structure Seg (P : List Pl) (k : List Key) (s : Nat) (M : List Pl) : Prop where
  ex : ∃ A C, P = A ++ M ++ C ∧ A.length = s ∧ (∀ y ∈ A, (plK y).take k.length ≠ k) ∧ ∀ y ∈ C, (plK y).take k.length ≠ k
  ne : M ≠ []
  al : ∀ y ∈ M, (plK y).take k.length = k
theorem ends_cons {L : List Int} {x a z : Int} (h : ends L = some (a, z)) : ends (x :: L) = some (x, z) := by
  cases L with
  | nil => cases h
  | cons b t =>
    unfold ends at h ⊢
    rw [List.getLast?_cons_cons]
    cases q : (b :: t).getLast? with
    | none =>
      rw [q] at h
      cases h
    | some y =>
      rw [q] at h
      have h : some (b, y) = some (a, z) := h
      cases h
      rfl
theorem zi_ends : ∀ (M : List Pl) (n : Nat), M ≠ [] → ends ((M.zipIdx n).map fun x => (x.2 : Int)) = some ((n : Int), (n : Int) + (M.length : Int) - 1)
  | [], _, h => absurd rfl h
  | [a], n, _ => by
    show ends [(n : Int)] = _
    have : (n : Int) + (([a] : List Pl).length : Int) - 1 = n := by
      show (n : Int) + 1 - 1 = n
      omega
    rw [this]
    rfl
  | a :: b :: r, n, _ => by
    have h := zi_ends (b :: r) (n + 1) (by simp)
    rw [List.zipIdx_cons, List.map_cons, ends_cons h, List.length_cons (a := a)]
    congr 2
    omega
theorem Seg.st {P : List Pl} {k : List Key} {s : Nat} {M : List Pl} (h : Seg P k s M) {m : Nat} (hk : k.length = m + 1) (hm : m < 4) : stOf P k = some ((s : Int), ((s + M.length : Nat) : Int) - 1) := by
  rw [st_ends P hk hm]
  obtain ⟨A, C, e, ea, ha, hc⟩ := h.ex
  have e2 : insK P k = (M.zipIdx s).map fun x => (x.2 : Int) := by
    unfold insK
    rw [e, List.zipIdx_append, List.zipIdx_append, List.filter_append, List.filter_append]
    have n1 : (A.zipIdx.filter fun x => decide ((plK x.1).take k.length = k)) = [] := List.filter_eq_nil_iff.mpr fun x hx q => ha x.1 (zi_mem hx) (of_decide_eq_true q)
    have n3 : ∀ n, ((C.zipIdx n).filter fun x => decide ((plK x.1).take k.length = k)) = [] := fun n => List.filter_eq_nil_iff.mpr fun x hx q => hc x.1 (by
      have := List.mem_map_of_mem (f := (·.1)) hx
      rwa [zi_fst] at this) (of_decide_eq_true q)
    have n2 : ((M.zipIdx (0 + A.length)).filter fun x => decide ((plK x.1).take k.length = k)) = M.zipIdx (0 + A.length) := List.filter_eq_self.mpr fun x hx => decide_eq_true (h.al x.1 (by
      have := List.mem_map_of_mem (f := (·.1)) hx
      rwa [zi_fst] at this))
    rw [n1, n2, n3, List.nil_append, List.append_nil, Nat.zero_add, ea]
  rw [e2, zi_ends M s h.ne]
  congr 2
theorem zi_split {α : Type} {xs : List α} {i : Nat} {x : α} (h : xs[i]? = some x) : xs.zipIdx = (xs.take i).zipIdx ++ (x, i) :: (xs.drop (i + 1)).zipIdx (i + 1) := by
  have hi : i < xs.length := (List.getElem?_eq_some_iff.mp h).1
  have e : xs = xs.take i ++ x :: xs.drop (i + 1) := by
    have := List.take_append_drop i xs
    rw [List.drop_eq_getElem_cons hi] at this
    rw [← (List.getElem?_eq_some_iff.mp h).2]
    exact this.symm
  conv => lhs; rw [e]
  rw [List.zipIdx_append, List.zipIdx_cons, List.length_take, Nat.min_eq_left (by omega), Nat.zero_add]
theorem take_key {l : List Key} {n : Nat} {k : List Key} {a : Key} (h : l.take (n + 1) = k ++ [a]) (hk : k.length = n) : l.take n = k := by
  have := congrArg (List.take n) h
  rw [List.take_take, Nat.min_eq_left (by omega), List.take_append_of_le_length (by omega), ← hk, List.take_length] at this
  rw [← hk]
  exact this
theorem Seg.kid {P : List Pl} {k : List Key} {s : Nat} {α : Type} {xs : List α} {f : Nat → α → List Pl} (h : Seg P k s (xs.zipIdx.flatMap fun z => f z.2 z.1))
    (ne : ∀ i x, xs[i]? = some x → f i x ≠ []) (key : ∀ i x, xs[i]? = some x → ∀ y ∈ f i x, (plK y).take (k.length + 1) = k ++ [Sum.inl (1 + (i : Int))]) {i : Nat} {x : α} (hx : xs[i]? = some x) :
    Seg P (k ++ [Sum.inl (1 + (i : Int))]) (s + ((xs.take i).zipIdx.flatMap fun z => f z.2 z.1).length) (f i x) := by
  obtain ⟨A, C, e, ea, ha, hc⟩ := h.ex
  have lk : (k ++ [(Sum.inl (1 + (i : Int)) : Key)]).length = k.length + 1 := by
    rw [List.length_append]
    rfl
  have other : ∀ j y, j ≠ i → ∀ x', xs[j]? = some x' → y ∈ f j x' → (plK y).take (k.length + 1) ≠ k ++ [Sum.inl (1 + (i : Int))] := fun j y hj x' hx' hy z => by
    rw [key j x' hx' y hy] at z
    have := (List.append_inj' z rfl).2
    have : (1 : Int) + j = 1 + i := Sum.inl.inj (List.cons.inj this).1
    omega
  refine ⟨⟨A ++ (xs.take i).zipIdx.flatMap fun z => f z.2 z.1, ((xs.drop (i + 1)).zipIdx (i + 1)).flatMap (fun z => f z.2 z.1) ++ C, ?_, ?_, ?_, ?_⟩, ne i x hx, ?_⟩
  · rw [e, zi_split hx, List.flatMap_append, List.flatMap_cons]
    simp only [List.append_assoc]
  · rw [List.length_append, ea]
  · intro y hy
    rw [lk]
    rcases List.mem_append.mp hy with hy | hy
    · exact fun z => ha y hy (take_key z rfl)
    · obtain ⟨⟨x', j⟩, hz, hy⟩ := List.mem_flatMap.mp hy
      have hj := List.mem_zipIdx_iff_getElem?.mp hz
      have hj : (xs.take i)[j]? = some x' := by simpa using hj
      rw [List.getElem?_take] at hj
      split at hj
      · rename_i hji
        exact other j y (by omega) x' hj hy
      · cases hj
  · intro y hy
    rw [lk]
    rcases List.mem_append.mp hy with hy | hy
    · obtain ⟨⟨x', j⟩, hz, hy⟩ := List.mem_flatMap.mp hy
      obtain ⟨h1, h2, h3⟩ := List.mem_zipIdx hz
      have hj : xs[j]? = some x' := by
        rw [h3, List.getElem_drop]
        have : i + 1 + (j - (i + 1)) = j := by omega
        simp only [this]
        rw [List.length_drop] at h2
        exact List.getElem?_eq_getElem (by omega)
      exact other j y (by omega) x' hj hy
    · exact fun z => hc y hy (take_key z rfl)
  · intro y hy
    rw [lk]
    exact key i x hx y hy
/-- spots that follow one another from a to ahead of b -/
def Chn (P : List Pl) (m : Nat) (ys : List Pl) (a b : Nat) : Prop := ∃ g : Nat → Nat, g 0 = a ∧ g ys.length = b ∧ ∀ i y, ys[i]? = some y → y ∈ P ∧ g i < g (i + 1) ∧ stOf P ((plK y).take (m + 1)) = some ((g i : Int), (g (i + 1) : Int) - 1)
theorem Seg.mem {P : List Pl} {k : List Key} {s : Nat} {M : List Pl} (h : Seg P k s M) {y : Pl} (hy : y ∈ M) : y ∈ P := by
  obtain ⟨A, C, e, _⟩ := h.ex
  rw [e]
  simp [hy]
theorem Seg.chn {P : List Pl} {k : List Key} {s : Nat} {α : Type} {xs : List α} {f : Nat → α → List Pl} (h : Seg P k s (xs.zipIdx.flatMap fun z => f z.2 z.1))
    (key : ∀ i x, xs[i]? = some x → ∀ y ∈ f i x, (plK y).take (k.length + 1) = k ++ [Sum.inl (1 + (i : Int))]) (hk : k.length < 4) {ys : List Pl} (ly : ys.length = xs.length) (hys : ∀ i x y, xs[i]? = some x → ys[i]? = some y → y ∈ f i x) :
    Chn P k.length ys s (s + (xs.zipIdx.flatMap fun z => f z.2 z.1).length) := by
  have ne : ∀ i x, xs[i]? = some x → f i x ≠ [] := fun i x hx z => by
    have hi : i < xs.length := (List.getElem?_eq_some_iff.mp hx).1
    have := hys i x _ hx (List.getElem?_eq_getElem (by omega))
    rw [z] at this
    cases this
  refine ⟨fun i => s + ((xs.take i).zipIdx.flatMap fun z => f z.2 z.1).length, rfl, by show s + _ = _; rw [ly, List.take_length], fun i y hy => ?_⟩
  have hi : i < ys.length := (List.getElem?_eq_some_iff.mp hy).1
  have hx : xs[i]? = some xs[i] := List.getElem?_eq_getElem (by omega)
  have S := h.kid ne key hx
  have hm := hys i _ y hx hy
  have e := key i _ hx y hm
  have sl : ((xs.take (i + 1)).zipIdx.flatMap fun z => f z.2 z.1).length = ((xs.take i).zipIdx.flatMap fun z => f z.2 z.1).length + (f i xs[i]).length := by
    rw [zi_succ hx, List.flatMap_append, List.length_append, List.flatMap_cons, List.flatMap_nil, List.append_nil]
  have pos : 0 < (f i xs[i]).length := List.length_pos_iff.mpr (ne i _ hx)
  refine ⟨S.mem hm, ?_, ?_⟩
  · show s + _ < s + _
    rw [sl]
    omega
  · rw [e, S.st (m := k.length) (by rw [List.length_append]; rfl) hk]
    show _ = some (((s + _ : Nat) : Int), ((s + _ : Nat) : Int) - 1)
    rw [sl, Nat.add_assoc]
/-! ### the spots of a level, by the first part of each, and how many lie straight beneath -/
def Nodes (B : Bks) : Nat → List (Pl × Nat)
  | 0 => B.map fun b => (⟨b.1, 1, 1, 1⟩, b.2.length)
  | 1 => B.flatMap fun b => b.2.zipIdx.map fun z => (⟨b.1, 1 + (z.2 : Int), 1, 1⟩, z.1.length)
  | 2 => B.flatMap fun b => b.2.zipIdx.flatMap fun z => z.1.zipIdx.map fun w => (⟨b.1, 1 + (z.2 : Int), 1 + (w.2 : Int), 1⟩, w.1.toNat)
  | _ => (plOf B).map fun x => (x, 0)
def kidP (m : Nat) (x : Pl) (i : Nat) : Pl := match m with
  | 0 => ⟨x.nm, 1 + (i : Int), 1, 1⟩
  | 1 => ⟨x.nm, x.c, 1 + (i : Int), 1⟩
  | _ => ⟨x.nm, x.c, x.v, 1 + (i : Int)⟩
theorem zi_rng {α β : Type} (g : Nat → β) : ∀ (l : List α) (n : Nat), ((l.zipIdx n).map fun z => g z.2) = (List.range l.length).map fun i => g (n + i)
  | [], _ => rfl
  | a :: r, n => by
    rw [List.zipIdx_cons, List.map_cons, zi_rng g r (n + 1), List.length_cons, List.range_succ_eq_map, List.map_cons, List.map_map]
    congr 1
    refine List.map_congr_left fun i _ => ?_
    show g (n + 1 + i) = g (n + (i + 1))
    congr 1
    omega
theorem zi_rng0 {α β : Type} (g : Nat → β) (l : List α) : (l.zipIdx.map fun z => g z.2) = (List.range l.length).map g := by
  rw [zi_rng g l 0]
  refine List.map_congr_left fun i _ => ?_
  rw [Nat.zero_add]
theorem flatc {α β : Type} {f g : α → List β} : ∀ {l : List α}, (∀ x ∈ l, f x = g x) → l.flatMap f = l.flatMap g
  | [], _ => rfl
  | a :: r, h => by rw [List.flatMap_cons, List.flatMap_cons, h a (List.mem_cons_self ..), flatc fun x hx => h x (List.mem_cons_of_mem _ hx)]
theorem flat_one {α β : Type} (f : α → β) : ∀ l : List α, l.map f = l.flatMap fun x => [f x]
  | [] => rfl
  | a :: r => by rw [List.map_cons, List.flatMap_cons, flat_one f r]; rfl
theorem nodes0 (B : Bks) : Nodes B 0 = B.map fun b => (⟨b.1, 1, 1, 1⟩, b.2.length) := rfl
theorem nodes1 (B : Bks) : Nodes B 1 = B.flatMap fun b => b.2.zipIdx.map fun z => (⟨b.1, 1 + (z.2 : Int), 1, 1⟩, z.1.length) := rfl
theorem nodes2 (B : Bks) : Nodes B 2 = B.flatMap fun b => b.2.zipIdx.flatMap fun z => z.1.zipIdx.map fun w => (⟨b.1, 1 + (z.2 : Int), 1 + (w.2 : Int), 1⟩, w.1.toNat) := rfl
theorem nodes3 (B : Bks) : Nodes B 3 = (plOf B).map fun x => (x, 0) := rfl
theorem nodes_succ (B : Bks) {m : Nat} (hm : m < 3) : (Nodes B (m + 1)).map (·.1) = (Nodes B m).flatMap fun z => (List.range z.2).map (kidP m z.1) := by
  rcases (by omega : m = 0 ∨ m = 1 ∨ m = 2) with rfl | rfl | rfl
  · show (Nodes B 1).map _ = (Nodes B 0).flatMap _
    rw [nodes1, nodes0, List.map_flatMap, List.flatMap_map]
    refine flatc fun b _ => ?_
    rw [List.map_map]
    exact zi_rng0 (fun i => (⟨b.1, 1 + (i : Int), 1, 1⟩ : Pl)) b.2
  · show (Nodes B 2).map _ = (Nodes B 1).flatMap _
    rw [nodes2, nodes1, List.map_flatMap, List.flatMap_assoc]
    refine flatc fun b _ => ?_
    rw [List.map_flatMap, List.flatMap_map]
    refine flatc fun z _ => ?_
    rw [List.map_map]
    exact zi_rng0 (fun i => (⟨b.1, 1 + (z.2 : Int), 1 + (i : Int), 1⟩ : Pl)) z.1
  · show (Nodes B 3).map _ = (Nodes B 2).flatMap _
    rw [nodes3, nodes2, List.map_map, List.flatMap_assoc]
    have : (plOf B).map ((fun x => x.1) ∘ fun x => ((x, 0) : Pl × Nat)) = plOf B := List.map_id _
    rw [this]
    refine flatc fun b _ => ?_
    rw [List.flatMap_assoc]
    refine flatc fun z _ => ?_
    rw [List.flatMap_map]
    refine flatc fun w _ => ?_
    rfl
/-- what is wanted of a spot: its stretch, those beneath it in order, and how many they are -/
structure NdOk (B : Bks) (m : Nat) (x : Pl) (n : Nat) : Prop where
  mem : x ∈ plOf B
  st : ∃ s e : Nat, s < e ∧ stOf (plOf B) ((plK x).take (m + 1)) = some ((s : Int), (e : Int) - 1) ∧ Chn (plOf B) (m + 1) ((List.range n).map (kidP m x)) s e
  nn : ∃ b j k c mm, okPl B x b j k c mm ∧ ((m = 0 ∧ n = b.2.length) ∨ (m = 1 ∧ n = c.length) ∨ (m = 2 ∧ n = mm.toNat))
theorem seg_book {B : Bks} (nd : (B.map (·.1)).Nodup) {i : Nat} {b : List Nat × List (List Int)} (h : B[i]? = some b) (ne : plB b ≠ []) : Seg (plOf B) [Sum.inr (SX.S b.1)] (plOf (B.take i)).length (plB b) := by
  have hi : i < B.length := (List.getElem?_eq_some_iff.mp h).1
  have e : B = B.take i ++ b :: B.drop (i + 1) := by
    have := List.take_append_drop i B
    rw [List.drop_eq_getElem_cons hi] at this
    rw [← (List.getElem?_eq_some_iff.mp h).2]
    exact this.symm
  have other : ∀ y ∈ plOf (B.take i) ++ plOf (B.drop (i + 1)), (plK y).take 1 ≠ [Sum.inr (SX.S b.1)] := fun y hy z => by
    have z : y.nm = b.1 := SX.S_inj (Sum.inr.inj (List.cons.inj z).1)
    have nd' := nd
    rw [e, List.map_append, List.map_cons] at nd'
    obtain ⟨_, h2, h3⟩ := List.nodup_append.mp nd'
    rcases List.mem_append.mp hy with hy | hy
    · unfold plOf at hy
      obtain ⟨b', hb', hy⟩ := List.mem_flatMap.mp hy
      have := mem_plB' hy
      exact h3 b'.1 (List.mem_map_of_mem hb') b.1 (List.mem_cons_self ..) (this.symm.trans z)
    · unfold plOf at hy
      obtain ⟨b', hb', hy⟩ := List.mem_flatMap.mp hy
      have := mem_plB' hy
      rw [List.nodup_cons] at h2
      exact h2.1 (List.mem_map.mpr ⟨b', hb', this.symm.trans z⟩)
  refine ⟨⟨plOf (B.take i), plOf (B.drop (i + 1)), ?_, rfl, fun y hy => other y (List.mem_append_left _ hy), fun y hy => other y (List.mem_append_right _ hy)⟩, ne, fun y hy => ?_⟩
  · conv => lhs; rw [e]
    unfold plOf
    rw [List.flatMap_append, List.flatMap_cons, List.append_assoc]
  · show [Sum.inr (SX.S y.nm)] = _
    rw [mem_plB' hy]
theorem mem_plV0 {nm : List Nat} {ci vi : Nat} {m : Int} (h : 1 ≤ m) : (⟨nm, 1 + (ci : Int), 1 + (vi : Int), 1⟩ : Pl) ∈ plV nm ci vi m := by
  unfold plV
  exact List.mem_map.mpr ⟨0, List.mem_range.mpr (by omega), rfl⟩
theorem mem_plC0 {nm : List Nat} {ci : Nat} {c : List Int} (h : okRow c) : (⟨nm, 1 + (ci : Int), 1, 1⟩ : Pl) ∈ plC nm ci c := by
  have l0 := h.l0
  have h0 : c[0]? = some c[0] := List.getElem?_eq_getElem (by omega)
  unfold plC
  exact List.mem_flatMap.mpr ⟨(c[0], 0), List.mem_zipIdx_iff_getElem?.mpr h0, mem_plV0 (vi := 0) (h.x _ (List.getElem_mem _)).1⟩
theorem mem_plB0 {b : List Nat × List (List Int)} (h0 : 1 ≤ b.2.length) (h : ∀ c ∈ b.2, okRow c) : (⟨b.1, 1, 1, 1⟩ : Pl) ∈ plB b := by
  have h1 : b.2[0]? = some b.2[0] := List.getElem?_eq_getElem (by omega)
  unfold plB
  exact List.mem_flatMap.mpr ⟨(b.2[0], 0), List.mem_zipIdx_iff_getElem?.mpr h1, mem_plC0 (ci := 0) (h _ (List.getElem_mem _))⟩
theorem key_plC {nm : List Nat} {ci : Nat} {c : List Int} {y : Pl} (h : y ∈ plC nm ci c) : (plK y).take 2 = [Sum.inr (SX.S nm)] ++ [Sum.inl (1 + (ci : Int))] := by
  obtain ⟨h1, h2⟩ := mem_plC' h
  show [Sum.inr (SX.S y.nm), Sum.inl y.c] = _
  rw [h1, h2]
  rfl
theorem key_plV {nm : List Nat} {ci vi : Nat} {m : Int} {y : Pl} (h : y ∈ plV nm ci vi m) : (plK y).take 3 = [Sum.inr (SX.S nm), Sum.inl (1 + (ci : Int))] ++ [Sum.inl (1 + (vi : Int))] := by
  obtain ⟨h1, h2, h3⟩ := mem_plV' h
  show [Sum.inr (SX.S y.nm), Sum.inl y.c, Sum.inl y.v] = _
  rw [h1, h2, h3]
  rfl
theorem nodes_ok {B : Bks} (ok : okBks B) {m : Nat} (hm : m < 3) {x : Pl} {n : Nat} (h : (x, n) ∈ Nodes B m) : NdOk B m x n := by
  have bk : ∀ b ∈ B, plB b ≠ [] := fun b hb z => by
    have := mem_plB0 (ok.ch b hb).1 (ok.ch b hb).2.2
    rw [z] at this
    cases this
  rcases (by omega : m = 0 ∨ m = 1 ∨ m = 2) with rfl | rfl | rfl
  · obtain ⟨b, hb, e⟩ := List.mem_map.mp h
    cases e
    obtain ⟨i, hi⟩ := List.mem_iff_getElem?.mp hb
    have S := seg_book ok.nd hi (bk b hb)
    have okb := ok.ch b hb
    have hx : (⟨b.1, 1, 1, 1⟩ : Pl) ∈ plOf B := S.mem (mem_plB0 okb.1 okb.2.2)
    have h1 : b.2[0]? = some b.2[0] := List.getElem?_eq_getElem (by omega)
    have okr := okb.2.2 _ (List.getElem_mem (h := (by omega : 0 < b.2.length)))
    have l0 := okr.l0
    have h2 : b.2[0][0]? = some b.2[0][0] := List.getElem?_eq_getElem (by omega)
    refine ⟨hx, ⟨_, _, ?_, S.st (m := 0) rfl (by decide), ?_⟩, ⟨b, 0, 0, b.2[0], b.2[0][0], ⟨hb, rfl, h1, rfl, h2, rfl, Int.le_refl _, (okr.x _ (List.getElem_mem _)).1⟩, .inl ⟨rfl, rfl⟩⟩⟩
    · have := List.length_pos_iff.mpr S.ne
      omega
    · exact Seg.chn (f := fun i c => plC b.1 i c) (xs := b.2) S (fun i c _ y hy => key_plC hy) (by show 1 < 4; decide) (by rw [List.length_map, List.length_range]) (fun i c y hc hy => by
        rw [List.getElem?_map] at hy
        cases q : (List.range b.2.length)[i]? with
        | none =>
          rw [q] at hy
          cases hy
        | some i' =>
          rw [q] at hy
          cases hy
          have : i' = i := by
            have := (List.getElem?_eq_some_iff.mp q).2
            rw [List.getElem_range] at this
            exact this.symm
          subst this
          exact mem_plC0 (okb.2.2 c (List.mem_of_getElem? hc)))
  · obtain ⟨b, hb, h⟩ := List.mem_flatMap.mp h
    obtain ⟨⟨c, j⟩, hc, e⟩ := List.mem_map.mp h
    cases e
    have hc : b.2[j]? = some c := by simpa using List.mem_zipIdx_iff_getElem?.mp hc
    obtain ⟨i, hi⟩ := List.mem_iff_getElem?.mp hb
    have okb := ok.ch b hb
    have okr := okb.2.2 c (List.mem_of_getElem? hc)
    have S1 := seg_book ok.nd hi (bk b hb)
    have S := Seg.kid (f := fun i c => plC b.1 i c) (xs := b.2) S1 (fun i c hc z => by
      have := mem_plC0 (nm := b.1) (ci := i) (okb.2.2 c (List.mem_of_getElem? hc))
      rw [z] at this
      cases this) (fun i c _ y hy => key_plC hy) hc
    have hx : (⟨b.1, 1 + (j : Int), 1, 1⟩ : Pl) ∈ plOf B := S.mem (mem_plC0 okr)
    have l0 := okr.l0
    have h2 : c[0]? = some c[0] := List.getElem?_eq_getElem (by omega)
    refine ⟨hx, ⟨_, _, ?_, S.st (m := 1) rfl (by decide), ?_⟩, ⟨b, j, 0, c, c[0], ⟨hb, rfl, hc, rfl, h2, rfl, Int.le_refl _, (okr.x _ (List.getElem_mem _)).1⟩, .inr (.inl ⟨rfl, rfl⟩)⟩⟩
    · have := List.length_pos_iff.mpr S.ne
      omega
    · exact Seg.chn (f := fun k mm => plV b.1 j k mm) (xs := c) S (fun k mm _ y hy => key_plV hy) (by show 2 < 4; decide) (by rw [List.length_map, List.length_range]) (fun k mm y hk hy => by
        rw [List.getElem?_map] at hy
        cases q : (List.range c.length)[k]? with
        | none =>
          rw [q] at hy
          cases hy
        | some k' =>
          rw [q] at hy
          cases hy
          have : k' = k := by
            have := (List.getElem?_eq_some_iff.mp q).2
            rw [List.getElem_range] at this
            exact this.symm
          subst this
          exact mem_plV0 (okr.x mm (List.mem_of_getElem? hk)).1)
  · obtain ⟨b, hb, h⟩ := List.mem_flatMap.mp h
    obtain ⟨⟨c, j⟩, hc, h⟩ := List.mem_flatMap.mp h
    obtain ⟨⟨mm, k⟩, hk, e⟩ := List.mem_map.mp h
    cases e
    have hc : b.2[j]? = some c := by simpa using List.mem_zipIdx_iff_getElem?.mp hc
    have hk : c[k]? = some mm := by simpa using List.mem_zipIdx_iff_getElem?.mp hk
    obtain ⟨i, hi⟩ := List.mem_iff_getElem?.mp hb
    have okb := ok.ch b hb
    have okr := okb.2.2 c (List.mem_of_getElem? hc)
    have okm := okr.x mm (List.mem_of_getElem? hk)
    have S1 := seg_book ok.nd hi (bk b hb)
    have S2 := Seg.kid (f := fun i c => plC b.1 i c) (xs := b.2) S1 (fun i c hc z => by
      have := mem_plC0 (nm := b.1) (ci := i) (okb.2.2 c (List.mem_of_getElem? hc))
      rw [z] at this
      cases this) (fun i c _ y hy => key_plC hy) hc
    have S := Seg.kid (f := fun k mm => plV b.1 j k mm) (xs := c) S2 (fun k mm hk z => by
      have := mem_plV0 (nm := b.1) (ci := j) (vi := k) (okr.x mm (List.mem_of_getElem? hk)).1
      rw [z] at this
      cases this) (fun k mm _ y hy => key_plV hy) hk
    have hx : (⟨b.1, 1 + (j : Int), 1 + (k : Int), 1⟩ : Pl) ∈ plOf B := S.mem (mem_plV0 okm.1)
    refine ⟨hx, ⟨_, _, ?_, S.st (m := 2) rfl (by decide), ?_⟩, ⟨b, j, k, c, mm, ⟨hb, rfl, hc, rfl, hk, rfl, Int.le_refl _, okm.1⟩, .inr (.inr ⟨rfl, rfl⟩)⟩⟩
    · have := List.length_pos_iff.mpr S.ne
      omega
    · have e1 : plV b.1 j k mm = (List.range mm.toNat).zipIdx.flatMap fun z => [(⟨b.1, 1 + (j : Int), 1 + (k : Int), 1 + (z.1 : Int)⟩ : Pl)] := by
        unfold plV
        have := zi_fst (List.range mm.toNat) 0
        conv => lhs; rw [← this]
        rw [List.map_map, flat_one]
        rfl
      have S' := S
      rw [e1] at S'
      have := Seg.chn (f := fun _ z => [(⟨b.1, 1 + (j : Int), 1 + (k : Int), 1 + (z : Int)⟩ : Pl)]) (xs := List.range mm.toNat) S' (fun p z hz y hy => by
        have : z = p := by
          have := (List.getElem?_eq_some_iff.mp hz).2
          rw [List.getElem_range] at this
          exact this.symm
        subst this
        rw [List.mem_singleton.mp hy]
        rfl) (by show 3 < 4; decide) (ys := (List.range mm.toNat).map (kidP 2 ⟨b.1, 1 + (j : Int), 1 + (k : Int), 1⟩)) (by rw [List.length_map]) (fun p z y hz hy => by
        rw [List.getElem?_map, hz] at hy
        cases hy
        exact List.mem_singleton.mpr rfl)
      rw [← e1] at this
      exact this
end My
set_option Elab.async false
set_option linter.all false
set_option maxRecDepth 100000
set_option maxHeartbeats 4000000
namespace My
open PySem PySem.Spec PyProof.Rows L2
/-! M3: the spots of each level are unlike and all there; which of them begin and end at a part. -/
theorem kidP_key {m : Nat} (hm : m < 3) (x : Pl) (i : Nat) : (plK (kidP m x i)).take (m + 2) = (plK x).take (m + 1) ++ [Sum.inl (1 + (i : Int))] := by
  rcases (by omega : m = 0 ∨ m = 1 ∨ m = 2) with rfl | rfl | rfl <;> rfl
theorem top_chn {B : Bks} (ok : okBks B) : Chn (plOf B) 0 ((Nodes B 0).map (·.1)) 0 (plOf B).length := by
  refine ⟨fun i => (plOf (B.take i)).length, rfl, ?_, fun i y hy => ?_⟩
  · show (plOf (B.take _)).length = _
    rw [List.length_map, nodes0, List.length_map, List.take_length]
  · rw [nodes0, List.map_map, List.getElem?_map] at hy
    cases q : B[i]? with
    | none =>
      rw [q] at hy
      cases hy
    | some b =>
      rw [q] at hy
      cases hy
      have hb := List.mem_of_getElem? q
      have okb := ok.ch b hb
      have h0 := mem_plB0 okb.1 okb.2.2
      have S := seg_book ok.nd q fun z => by
        rw [z] at h0
        cases h0
      have e : plOf (B.take (i + 1)) = plOf (B.take i) ++ plB b := by
        unfold plOf
        rw [List.take_add_one, q, List.flatMap_append]
        simp
      have pos := List.length_pos_iff.mpr S.ne
      refine ⟨S.mem h0, ?_, ?_⟩
      · show (plOf (B.take i)).length < (plOf (B.take (i + 1))).length
        rw [e, List.length_append]
        omega
      · show stOf (plOf B) [Sum.inr (SX.S b.1)] = some (((plOf (B.take i)).length : Int), ((plOf (B.take (i + 1))).length : Int) - 1)
        rw [S.st (m := 0) rfl (by decide), e, List.length_append]
def Km (B : Bks) (m : Nat) : List (List Key) := ((Nodes B m).map (·.1)).map fun y => (plK y).take (m + 1)
theorem Km_succ (B : Bks) {m : Nat} (hm : m < 3) : Km B (m + 1) = (Nodes B m).flatMap fun z => (List.range z.2).map fun (i : Nat) => (plK z.1).take (m + 1) ++ [Sum.inl (1 + (i : Int))] := by
  unfold Km
  rw [nodes_succ B hm, List.map_flatMap]
  refine flatc fun z _ => ?_
  rw [List.map_map]
  exact List.map_congr_left fun i _ => kidP_key hm z.1 i
theorem Km_len {B : Bks} {m : Nat} (hm : m < 4) {k : List Key} (h : k ∈ Km B m) : k.length = m + 1 := by
  obtain ⟨y, _, rfl⟩ := List.mem_map.mp h
  rw [List.length_take, plK_len]
  omega
theorem Km_nodup {B : Bks} (ok : okBks B) : ∀ m, m < 4 → (Km B m).Nodup
  | 0, _ => by
    have e : Km B 0 = (B.map (·.1)).map fun n => [(Sum.inr (SX.S n) : Key)] := by
      unfold Km
      rw [nodes0, List.map_map, List.map_map, List.map_map]
      rfl
    rw [e]
    exact List.pairwise_map.mpr (ok.nd.imp fun {a b} ne z => ne (SX.S_inj (Sum.inr.inj (List.cons.inj z).1)))
  | m + 1, hm => by
    have h := Km_nodup ok m (by omega)
    rw [Km_succ B (by omega)]
    unfold Km at h
    rw [List.map_map] at h
    refine List.pairwise_flatMap.mpr ⟨fun z _ => List.pairwise_map.mpr (List.Pairwise.imp ?_ (List.nodup_range (n := z.2))), (List.pairwise_map.mp h).imp fun {a b} ne => ?_⟩
    · intro i j ne z
      have := (List.append_inj' z rfl).2
      have : (1 : Int) + i = 1 + j := Sum.inl.inj (List.cons.inj this).1
      exact ne (by omega)
    · intro x hx y hy e
      obtain ⟨i, _, rfl⟩ := List.mem_map.mp hx
      obtain ⟨j, _, rfl⟩ := List.mem_map.mp hy
      exact ne (List.append_inj' e rfl).1
theorem Km_all {B : Bks} (ok : okBks B) {m : Nat} (hm : m < 4) {x : Pl} (hx : x ∈ plOf B) : (plK x).take (m + 1) ∈ Km B m := by
  obtain ⟨b, j, k, c, mm, o⟩ := mem_plOf hx
  refine List.mem_map.mpr ?_
  have ec : plK x = [Sum.inr (SX.S b.1), Sum.inl (1 + (j : Int)), Sum.inl (1 + (k : Int)), Sum.inl x.p] := by
    unfold plK
    rw [← o.nm, o.xc, o.xv]
  rcases (by omega : m = 0 ∨ m = 1 ∨ m = 2 ∨ m = 3) with rfl | rfl | rfl | rfl
  · refine ⟨⟨b.1, 1, 1, 1⟩, List.mem_map.mpr ⟨(⟨b.1, 1, 1, 1⟩, b.2.length), ?_, rfl⟩, by rw [ec]; rfl⟩
    rw [nodes0]
    exact List.mem_map.mpr ⟨b, o.hb, rfl⟩
  · refine ⟨⟨b.1, 1 + (j : Int), 1, 1⟩, List.mem_map.mpr ⟨(⟨b.1, 1 + (j : Int), 1, 1⟩, c.length), ?_, rfl⟩, by rw [ec]; rfl⟩
    rw [nodes1]
    exact List.mem_flatMap.mpr ⟨b, o.hb, List.mem_map.mpr ⟨(c, j), List.mem_zipIdx_iff_getElem?.mpr o.hc, rfl⟩⟩
  · refine ⟨⟨b.1, 1 + (j : Int), 1 + (k : Int), 1⟩, List.mem_map.mpr ⟨(⟨b.1, 1 + (j : Int), 1 + (k : Int), 1⟩, mm.toNat), ?_, rfl⟩, by rw [ec]; rfl⟩
    rw [nodes2]
    exact List.mem_flatMap.mpr ⟨b, o.hb, List.mem_flatMap.mpr ⟨(c, j), List.mem_zipIdx_iff_getElem?.mpr o.hc, List.mem_map.mpr ⟨(mm, k), List.mem_zipIdx_iff_getElem?.mpr o.hm, rfl⟩⟩⟩
  · refine ⟨x, List.mem_map.mpr ⟨(x, 0), ?_, rfl⟩, rfl⟩
    rw [nodes3]
    exact List.mem_map.mpr ⟨x, hx, rfl⟩
theorem Km_rep {B : Bks} (ok : okBks B) {m : Nat} (hm : m < 4) {y : Pl} (hy : y ∈ (Nodes B m).map (·.1)) : y ∈ plOf B := by
  obtain ⟨⟨x, n⟩, hz, rfl⟩ := List.mem_map.mp hy
  by_cases h3 : m = 3
  · subst h3
    rw [nodes3] at hz
    obtain ⟨x', hx', e⟩ := List.mem_map.mp hz
    cases e
    exact hx'
  · exact (nodes_ok ok (by omega) hz).mem
theorem ends_atI {l : List Int} (h : l ≠ []) : ∃ a z, ends l = some (a, z) ∧ True ∧ True ∧ a ∈ l ∧ z ∈ l := by
  rcases List.eq_nil_or_concat l with rfl | ⟨r, z, rfl⟩
  · exact absurd rfl h
  · rw [List.concat_eq_append]
    cases r with
    | nil => exact ⟨z, z, rfl, trivial, trivial, by simp, by simp⟩
    | cons a r =>
      refine ⟨a, z, ?_, trivial, trivial, by simp, by simp⟩
      unfold ends
      rw [List.getLast?_concat]
      rfl
/-- the numbers of the first and of the last part -/
def fstK (P : List Pl) (k : List Key) : Int := match stOf P k with | some s => s.1 | none => -1
def lstK (P : List Pl) (k : List Key) : Int := match stOf P k with | some s => s.2 | none => -1
theorem st_some {P : List Pl} {x : Pl} {i : Nat} (hx : P[i]? = some x) {m : Nat} (hm : m < 4) : ∃ a z : Nat, stOf P ((plK x).take (m + 1)) = some ((a : Int), (z : Int)) ∧ a < P.length ∧ z < P.length ∧ (∀ y, P[a]? = some y → (plK y).take (m + 1) = (plK x).take (m + 1)) ∧ ∀ y, P[z]? = some y → (plK y).take (m + 1) = (plK x).take (m + 1) := by
  have lk : ((plK x).take (m + 1)).length = m + 1 := by
    rw [List.length_take, plK_len]
    omega
  have mem := insK_mem hx hm
  obtain ⟨a, z, he, _, _, ma, mz⟩ := ends_atI (l := insK P ((plK x).take (m + 1))) (fun q => by rw [q] at mem; cases mem)
  have pref : ∀ n ∈ insK P ((plK x).take (m + 1)), ∃ n' : Nat, n = (n' : Int) ∧ n' < P.length ∧ ∀ y, P[n']? = some y → (plK y).take (m + 1) = (plK x).take (m + 1) := fun n hn => by
    unfold insK at hn
    obtain ⟨⟨y, i'⟩, hz, rfl⟩ := List.mem_map.mp hn
    obtain ⟨h1, h2⟩ := List.mem_filter.mp hz
    have h1 := List.mem_zipIdx_iff_getElem?.mp h1
    have h2 := of_decide_eq_true h2
    rw [lk] at h2
    refine ⟨i', rfl, (List.getElem?_eq_some_iff.mp h1).1, fun y' hy' => ?_⟩
    have h1 : P[i']? = some y := h1
    rw [h1] at hy'
    cases hy'
    exact h2
  obtain ⟨a', rfl, la, pa⟩ := pref a ma
  obtain ⟨z', rfl, lz, pz⟩ := pref z mz
  exact ⟨a', z', by rw [st_ends P lk hm, he], la, lz, pa, pz⟩
theorem filt_one {Ks : List (List Key)} {p : List Key → Bool} {k0 : List Key} : ∀ (_ : Ks.Nodup) (_ : ∀ k ∈ Ks, p k = true → k = k0), k0 ∈ Ks → Ks.filter p = if p k0 = true then [k0] else [] := by
  induction Ks with
  | nil => intro _ _ h; cases h
  | cons a r ih =>
    intro nd h hm
    rw [List.nodup_cons] at nd
    by_cases e : a = k0
    · subst e
      have rest : r.filter p = [] := List.filter_eq_nil_iff.mpr fun k hk q => nd.1 (h k (List.mem_cons_of_mem _ hk) q ▸ hk)
      rw [List.filter_cons, rest]
    · have hm' : k0 ∈ r := (List.mem_cons.mp hm).resolve_left fun z => e z.symm
      rw [List.filter_cons_of_neg fun q => e (h a (List.mem_cons_self ..) q)]
      exact ih nd.2 (fun k hk q => h k (List.mem_cons_of_mem _ hk) q) hm'
/-- which spots of a level begin, or end, at a part -/
theorem Km_fst {B : Bks} (ok : okBks B) {m n : Nat} (hm : m < 4) {x : Pl} (hx : (plOf B)[n]? = some x) : (Km B m).filter (fun k => decide (fstK (plOf B) k = (n : Int))) = if decide (fstK (plOf B) ((plK x).take (m + 1)) = (n : Int)) = true then [(plK x).take (m + 1)] else [] := by
  refine filt_one (Km_nodup ok m hm) (fun k hk q => ?_) (Km_all ok hm (List.mem_of_getElem? hx))
  have q := of_decide_eq_true q
  obtain ⟨y, hy, rfl⟩ := List.mem_map.mp hk
  obtain ⟨i, hi⟩ := List.mem_iff_getElem?.mp (Km_rep ok hm hy)
  obtain ⟨a, z, h1, h2, h3, h4, h5⟩ := st_some hi hm
  unfold fstK at q
  rw [h1] at q
  have q : (a : Int) = n := q
  exact (h4 x (by rw [show a = n by omega]; exact hx)).symm
theorem Km_lst {B : Bks} (ok : okBks B) {m n : Nat} (hm : m < 4) {x : Pl} (hx : (plOf B)[n]? = some x) : (Km B m).filter (fun k => decide (lstK (plOf B) k = (n : Int))) = if decide (lstK (plOf B) ((plK x).take (m + 1)) = (n : Int)) = true then [(plK x).take (m + 1)] else [] := by
  refine filt_one (Km_nodup ok m hm) (fun k hk q => ?_) (Km_all ok hm (List.mem_of_getElem? hx))
  have q := of_decide_eq_true q
  obtain ⟨y, hy, rfl⟩ := List.mem_map.mp hk
  obtain ⟨i, hi⟩ := List.mem_iff_getElem?.mp (Km_rep ok hm hy)
  obtain ⟨a, z, h1, h2, h3, h4, h5⟩ := st_some hi hm
  unfold lstK at q
  rw [h1] at q
  have q : (z : Int) = n := q
  exact (h5 x (by rw [show z = n by omega]; exact hx)).symm
/-- all spots, the widest level first -/
def AK (B : Bks) : List (List Key) := Km B 0 ++ Km B 1 ++ Km B 2 ++ Km B 3
/-- the spots around a part -/
def around (x : Pl) : List (List Key) := [(plK x).take 1, (plK x).take 2, (plK x).take 3, (plK x).take 4]
theorem filt4 (p : List Key → Bool) (a b c d : List Key) : [a, b, c, d].filter p = (if p a = true then [a] else []) ++ (if p b = true then [b] else []) ++ (if p c = true then [c] else []) ++ (if p d = true then [d] else []) := by
  cases h1 : p a <;> cases h2 : p b <;> cases h3 : p c <;> cases h4 : p d <;> simp [h1, h2, h3, h4]
theorem AK_fst {B : Bks} (ok : okBks B) {n : Nat} {x : Pl} (hx : (plOf B)[n]? = some x) : (AK B).filter (fun k => decide (fstK (plOf B) k = (n : Int))) = (around x).filter fun k => decide (fstK (plOf B) k = (n : Int)) := by
  unfold AK around
  rw [List.filter_append, List.filter_append, List.filter_append, Km_fst ok (by decide) hx, Km_fst ok (by decide) hx, Km_fst ok (by decide) hx, Km_fst ok (by decide) hx, filt4]
theorem AK_lst {B : Bks} (ok : okBks B) {n : Nat} {x : Pl} (hx : (plOf B)[n]? = some x) : (AK B).filter (fun k => decide (lstK (plOf B) k = (n : Int))) = (around x).filter fun k => decide (lstK (plOf B) k = (n : Int)) := by
  unfold AK around
  rw [List.filter_append, List.filter_append, List.filter_append, Km_lst ok (by decide) hx, Km_lst ok (by decide) hx, Km_lst ok (by decide) hx, Km_lst ok (by decide) hx, filt4]
theorem fst4 {B : Bks} (ok : okBks B) {n : Nat} {x : Pl} (hx : (plOf B)[n]? = some x) : stOf (plOf B) ((plK x).take 4) = some ((n : Int), (n : Int)) := by
  rw [st_ends _ (m := 3) rfl (by decide), insK_all (plOf_nodup ok.nd) hx]
  rfl
end My
set_option Elab.async false
set_option linter.all false
set_option maxRecDepth 100000
set_option maxHeartbeats 4000000
namespace My
open PySem PySem.Spec PyProof.Rows L2
def sp_namesE (C : Addr) : Sp := fun vs H Q _ => ∃ (S : Av) (e : Addr) (B : Bks) (L : List Int), vs = [.ref e] ∧ EdAt S H C e B L ∧ ∀ l, H l = none → Q (.ref l) (upd H l (.lst (nmV (B.map (·.1)))))
def sp_chaptersE (C : Addr) : Sp := fun vs H Q _ => ∃ (S : Av) (e : Addr) (B : Bks) (L : List Int) (b : List Nat × List (List Int)), vs = [.ref e, .str (SX.S b.1)] ∧ EdAt S H C e B L ∧ okBks B ∧ b ∈ B ∧ Q (.int (b.2.length : Nat)) H
def sp_versesE (C : Addr) : Sp := fun vs H Q _ => ∃ (S : Av) (e : Addr) (B : Bks) (L : List Int) (b : List Nat × List (List Int)) (j : Nat) (c : List Int), vs = [.ref e, .str (SX.S b.1), .int (1 + (j : Int))] ∧ EdAt S H C e B L ∧ okBks B ∧ b ∈ B ∧ b.2[j]? = some c ∧ Q (.int (c.length : Nat)) H
/-- a list of spots stands at l -/
def SpL (H : Hp) (l : Addr) (us : List (Addr × List Key)) : Prop := H l = some (.lst (us.map fun z => V.ref z.1)) ∧ ∀ z ∈ us, H z.1 = some (.tup (z.2.map kV))
def sp_around (C : Addr) : Sp := fun vs H Q _ => ∃ (S : Av) (e : Addr) (B : Bks) (L : List Int) (n : Nat) (x : Pl), vs = [.ref e, .int (n : Nat)] ∧ EdAt S H C e B L ∧ (plOf B)[n]? = some x ∧ ∀ l us H', H l = none → Same H H' → SpL H' l us → us.map (·.2) = around x → Q (.ref l) H'
def sp_begins (C : Addr) : Sp := fun vs H Q _ => ∃ (S : Av) (e : Addr) (B : Bks) (L : List Int) (n : Nat) (x : Pl), vs = [.ref e, .int (n : Nat)] ∧ EdAt S H C e B L ∧ (plOf B)[n]? = some x ∧ ∀ l us H', H l = none → Same H H' → SpL H' l us → us.map (·.2) = ((around x).filter fun k => decide (fstK (plOf B) k = (n : Int))) → Q (.ref l) H'
def sp_ends (C : Addr) : Sp := fun vs H Q _ => ∃ (S : Av) (e : Addr) (B : Bks) (L : List Int) (n : Nat) (x : Pl), vs = [.ref e, .int (n : Nat)] ∧ EdAt S H C e B L ∧ (plOf B)[n]? = some x ∧ ∀ l us H', H l = none → Same H H' → SpL H' l us → us.map (·.2) = ((around x).filter fun k => decide (lstK (plOf B) k = (n : Int))) → Q (.ref l) H'
theorem around_succ (x : Pl) {i : Nat} (h : i < 4) : (around x).take (i + 1) = (around x).take i ++ [(plK x).take (i + 1)] := by
  rcases (by omega : i = 0 ∨ i = 1 ∨ i = 2 ∨ i = 3) with rfl | rfl | rfl | rfl <;> rfl
theorem around_at (x : Pl) {i : Nat} (h : i < 4) : (around x)[i]? = some ((plK x).take (i + 1)) := by
  rcases (by omega : i = 0 ∨ i = 1 ∨ i = 2 ∨ i = 3) with rfl | rfl | rfl | rfl <;> rfl
section
variable {P : Program} {w : World} {K : PySem.W.Frag} {mg : Str → Option Value} {base : Heap}
theorem ok_namesE {C f : Addr} {fd : FuncData} (T : Txt K mg) (EC : EdC K C) (F : Fun K "names" "Edition.names" s_Edition_names f fd) : FnOk P w K mg base CX0 2 f fd ["self"] (sp_namesE C) := by
  refine F.ok sc_Edition_names (fun vs H Q E h => ?_) (fun cdv A outer s H vs Q E hr h => ?_)
  · obtain ⟨S, e, B, L, rfl, _⟩ := h
    rfl
  · obtain ⟨S, e, B, L, rfl, ⟨w, hw⟩, q⟩ := h
    refine ⟨_, (pss_one (ps_ret (pe_callTy (call_listD rfl) (by rfl) T.b_list (by decide +kernel) (pa_cons (pe_fld (pv 0) rfl) pa_nil)))), ?_⟩
    refine ⟨.ref e, rfl, e, C, _, _, _, rfl, hw.at_, EC.cl, EC.n2, rfl, w.dc, w.ckv, rfl, .inl hw.h2, fun l hl => ?_⟩
    have ek : (w.ckv.map fun kv => kV kv.1) = nmV (B.map (·.1)) := by
      have h1 := hw.c2.k
      have h2 : (w.ckv.map fun kv => kV kv.1) = (w.ckv.map (·.1)).map kV := by rw [List.map_map]; rfl
      rw [h2, h1, List.map_map]
      unfold nmV
      rw [List.map_map]
      rfl
    show Q (.ref l) (upd H l (.lst (w.ckv.map fun kv => kV kv.1)))
    rw [ek]
    exact q l hl
theorem ok_chaptersE {C f : Addr} {fd : FuncData} (T : Txt K mg) (EC : EdC K C) (m__book : C8.Met P w K mg base 2 C "_book" (sp_book C) []) (F : Fun K "chapters" "Edition.chapters" s_Edition_chapters f fd) : FnOk P w K mg base CX0 3 f fd ["self", "name"] (sp_chaptersE C) := by
  refine F.ok sc_Edition_chapters (fun vs H Q E h => ?_) (fun cdv A outer s H vs Q E hr h => ?_)
  · obtain ⟨S, e, B, L, b, rfl, _⟩ := h
    rfl
  · obtain ⟨S, e, B, L, b, rfl, h, ok, hb, q⟩ := h
    refine ⟨_, (pss_one (ps_ret (pe_callB call_len (by rfl) T.b_len (by decide +kernel) (pa_cons (C8.pe_mt m__book hr (by decide) (pv 0) (pa_cons (pv 1) pa_nil)) pa_nil)))), ?_⟩
    obtain ⟨w, hw⟩ := id h
    refine ⟨.ref e, rfl, e, _, _, rfl, hw.at_, rfl, _, rfl, S, e, B, L, b, rfl, h, ok, hb, fun v hv => ?_⟩
    cases hv with
    | tup nt et kt =>
    rename_i t xs
    have lx : xs.length = b.2.length := by rw [kt.len, List.length_map]
    rw [← lx] at q
    exact ⟨_, _, rfl, .inr ⟨_, .inl (.inl et), rfl⟩, q⟩
theorem ok_versesE {C f : Addr} {fd : FuncData} (T : Txt K mg) (EC : EdC K C) (m__chapter : C8.Met P w K mg base 3 C "_chapter" (sp_chap C) []) (F : Fun K "verses" "Edition.verses" s_Edition_verses f fd) : FnOk P w K mg base CX0 4 f fd ["self", "name", "chapter"] (sp_versesE C) := by
  refine F.ok sc_Edition_verses (fun vs H Q E h => ?_) (fun cdv A outer s H vs Q E hr h => ?_)
  · obtain ⟨S, e, B, L, b, j, c, rfl, _⟩ := h
    rfl
  · obtain ⟨S, e, B, L, b, j, c, rfl, h, ok, hb, hc, q⟩ := h
    refine ⟨_, (pss_one (ps_ret (pe_callB call_len (by rfl) T.b_len (by decide +kernel) (pa_cons (C8.pe_mt m__chapter hr (by decide) (pv 0) (pa_cons (pv 1) (pa_cons (pv 2) pa_nil))) pa_nil)))), ?_⟩
    obtain ⟨w, hw⟩ := id h
    refine ⟨.ref e, rfl, e, _, _, rfl, hw.at_, rfl, _, rfl, _, rfl, S, e, B, L, b, j, c, rfl, h, ok, hb, hc, fun v hv => ?_⟩
    obtain ⟨t, rfl, nt, et⟩ := hv.ch
    have lx : (c.map V.int).length = c.length := List.length_map ..
    rw [← lx] at q
    exact ⟨_, _, rfl, .inr ⟨_, .inl (.inl et), rfl⟩, q⟩
theorem ok_around {C f : Addr} {fd : FuncData} (T : Txt K mg) (EC : EdC K C) (m_place : C8.Met P w K mg base 4 C "place" (sp_place C) []) (F : Fun K "_spots_around" "Edition._spots_around" s_Edition__spots_around f fd) : FnOk P w K mg base CX0 5 f fd ["self", "number"] (sp_around C) := by
  refine F.ok sc_Edition__spots_around (fun vs H Q E h => ?_) (fun cdv A outer s H vs Q E hr h => ?_)
  · obtain ⟨S, e, B, L, n, x, rfl, _⟩ := h
    rfl
  · obtain ⟨S, e, B, L, n, x, rfl, h, hx, q⟩ := h
    refine ⟨_, (pss_cons (ps_set (i := 2) sc_Edition__spots_around.nd rfl (.inr rfl) (C8.pe_mt m_place hr (by decide) (pv 0) (pa_cons (pv 1) pa_nil)))
      (pss_one (ps_ret (pe_lc (own := [("many", 3)]) rfl sc_Edition__spots_around.nd (pi_range2 (by rfl) T.b_range (pa_cons pe_int (pa_cons pe_int pa_nil))) (blkOk_by (own := [("many", 3)]) (N := N_Edition__spots_around) (sc := defScope s_Edition__spots_around) (by decide +kernel)) (fun _ _ _ _ _ => (pg_name (i := 3) sc_Edition__spots_around.nd rfl (.inl rfl))) (fun _ _ _ _ _ => pts_nil) (fun _ _ _ _ _ => (pe_slice sl_pl (pv 2) po_none (po_some (pv 3)))))))), ?_⟩
    obtain ⟨w, hw⟩ := id h
    refine ⟨.ref e, rfl, e, _, _, rfl, hw.at_, rfl, _, rfl, S, e, B, L, n, x, rfl, h, hx, fun v hv => ?_⟩
    obtain ⟨a, rfl, na, ea⟩ := hv.pl
    refine ⟨1, 5, rfl, ⟨by decide, by decide, by decide, by decide⟩, fun Dl hDl => ?_⟩
    refine lc_range (lo := 1) (n := 4) (fun i H' => ∃ us : List (Addr × List Key), us.length = i ∧ Same H H' ∧ SpL H' Dl us ∧ us.map (·.2) = (around x).take i) ⟨[], rfl, same_new hDl, ⟨upd_same, fun z hz => nomatch hz⟩, rfl⟩ ?_ ?_
    · rintro i H1 hi ⟨us, lu, S1, ⟨hD, hu⟩, ku⟩
      refine ⟨rfl, _, rfl, _, rfl, _, rfl, a, x, i, rfl, rfl, rfl, hi, S1 _ _ ea, fun b H2 S2 hb => ?_⟩
      have nD : b ≠ Dl := fun z => by
        have := S2 _ _ hD
        rw [← z] at this
        unfold SpAt at hb
        rw [hb] at this
        cases this
      refine ⟨_, S2 _ _ hD, by rw [List.length_map]; exact Evl.sz_lt (by omega), us ++ [(b, (plK x).take (i + 1))], by rw [List.length_append, lu]; rfl, ?_, ⟨by rw [upd_same, List.map_append]; rfl, fun z hz => ?_⟩, ?_⟩
      · exact fun q o e => by
          rw [upd_ne (ne_of_none e hDl)]
          exact S2 _ _ (S1 q o e)
      · rcases List.mem_append.mp hz with hz | hz
        · rw [upd_ne (fun q => by have := S2 _ _ (hu z hz); rw [q, S2 _ _ hD] at this; cases this)]
          exact S2 _ _ (hu z hz)
        · rw [List.mem_singleton.mp hz, upd_ne nD]
          exact hb
      · rw [List.map_append, ku, around_succ x hi]
        rfl
    · rintro H1 ⟨us, lu, S1, sl, ku⟩
      exact q Dl us H1 hDl S1 sl ku
theorem ok_begins {C f : Addr} {fd : FuncData} (T : Txt K mg) (EC : EdC K C) (m__spots_around : C8.Met P w K mg base 5 C "_spots_around" (sp_around C) []) (F : Fun K "begins" "Edition.begins" s_Edition_begins f fd) : FnOk P w K mg base CX0 6 f fd ["self", "number"] (sp_begins C) := by
  refine F.ok sc_Edition_begins (fun vs H Q E h => ?_) (fun cdv A outer s H vs Q E hr h => ?_)
  · obtain ⟨S, e, B, L, n, x, rfl, _⟩ := h
    rfl
  · obtain ⟨S, e, B, L, n, x, rfl, h, hx, q⟩ := h
    refine ⟨_, (pss_one (ps_ret (pe_lc (own := [("spot", 2)]) rfl sc_Edition_begins.nd (pi_list (C8.pe_mt m__spots_around hr (by decide) (pv 0) (pa_cons (pv 1) pa_nil))) (blkOk_by (own := [("spot", 2)]) (N := N_Edition_begins) (sc := defScope s_Edition_begins) (by decide +kernel)) (fun _ _ _ _ _ => (pg_name (i := 2) sc_Edition_begins.nd rfl (.inl rfl))) (fun _ _ _ _ _ => (pts_one (pt_cmpR op_eq (pe_ix (ix_tupK (K := K) rfl) (pe_dget (hu_of hr) (pe_fldK (K := K) rfl (pv 0) rfl) (pv 2) (fun _ _ => rfl)) pe_int (fun _ _ => rfl)) (pv 1) (nomark _)))) (fun _ _ _ _ _ => (pv 2))))), ?_⟩
    obtain ⟨w, hw⟩ := id h
    refine ⟨.ref e, rfl, e, _, _, rfl, hw.at_, rfl, _, rfl, S, e, B, L, n, x, rfl, h, hx, fun l us H1 hl S1 ⟨sl, su⟩ ku => ?_⟩
    have lu : us.length = 4 := by
      have := congrArg List.length ku
      rw [List.length_map] at this
      exact this
    refine ⟨l, rfl, ⟨_, .inl (.inl sl)⟩, fun Dl hDl => ?_⟩
    refine lc_it (walk_list (xs := us.map fun z => V.ref z.1)) (fun i H' => ∃ vs : List (Addr × List Key), vs.length ≤ i ∧ Same H1 H' ∧ SpL H' Dl vs ∧ vs.map (·.2) = ((around x).take i).filter fun k => decide (fstK (plOf B) k = (n : Int))) ⟨[], Nat.zero_le _, same_new hDl, ⟨upd_same, fun z hz => nomatch hz⟩, rfl⟩ (fun i H' _ ⟨_, _, z, _⟩ => .inl (.inl (z _ _ sl))) ?_ ?_
    · rintro i y H2' H2 hi ⟨vs, lv, S2, ⟨hD, hv⟩, kv⟩ ⟨rfl, hy⟩
      rw [List.length_map, lu] at hi
      have hui : us[i]? = some us[i] := List.getElem?_eq_getElem (by omega)
      have hy : (us.map fun z => V.ref z.1)[i]? = some y := hy
      rw [List.getElem?_map, hui] at hy
      cases hy
      have key : us[i].2 = (plK x).take (i + 1) := by
        have h1 : (us.map (·.2))[i]? = some us[i].2 := by
          rw [List.getElem?_map, hui]
          rfl
        rw [ku, around_at x hi] at h1
        exact (Option.some.inj h1).symm
      have hu := su us[i] (List.getElem_mem _)
      rw [key] at hu
      obtain ⟨a, z, hs, _⟩ := st_some hx hi
      have hk := hw.c4 ((plK x).take (i + 1))
      rw [hs] at hk
      obtain ⟨v, h1, h2⟩ := hk
      obtain ⟨p, rfl, np, ep⟩ := h2.pair
      have S12 := S1.trans S2
      have tk := around_succ x hi
      refine ⟨rfl, _, rfl, e, C, _, _, _, rfl, S12 _ _ hw.at_, EC.cl, EC.n4, rfl, _, rfl, w.ds, _, rfl, h1 ▸ DGet.t (S12 _ _ hw.h4) (S2 _ _ hu), p, _, 0, _, rfl, rfl, .inl (.inl (S12 _ _ ep)), rfl, ?_⟩
      refine ⟨_, rfl, rfl, _, rfl, ite2 (fun e8 => ?_) fun e8 => ?_⟩
      · have e9 := V.int.inj (of_decide_eq_true e8)
        have fk : fstK (plOf B) ((plK x).take (i + 1)) = (n : Int) := by
          unfold fstK
          rw [hs]
          exact e9
        refine ⟨_, rfl, _, hD, by rw [List.length_map]; exact Evl.sz_lt (by omega), vs ++ [(us[i].1, (plK x).take (i + 1))], by rw [List.length_append]; show vs.length + 1 ≤ _; omega, ?_, ⟨by rw [upd_same, List.map_append]; rfl, fun z hz => ?_⟩, ?_⟩
        · exact fun q o e => by
            rw [upd_ne (ne_of_none e hDl)]
            exact S2 q o e
        · rcases List.mem_append.mp hz with hz | hz
          · rw [upd_ne (fun q => by have := hv z hz; rw [q, hD] at this; cases this)]
            exact hv z hz
          · rw [List.mem_singleton.mp hz, upd_ne (fun q => by have := S2 _ _ hu; rw [show us[i].1 = Dl from q, hD] at this; cases this)]
            exact S2 _ _ hu
        · rw [List.map_append, kv, tk, List.filter_append, List.filter_cons_of_pos (by simpa using fk)]
          rfl
      · have fk : ¬ fstK (plOf B) ((plK x).take (i + 1)) = (n : Int) := fun q => by
          unfold fstK at q
          rw [hs] at q
          have q : (a : Int) = (n : Int) := q
          exact e8 (decide_eq_true (by rw [q]))
        refine ⟨vs, by omega, S2, ⟨hD, hv⟩, ?_⟩
        rw [kv, tk, List.filter_append, List.filter_cons_of_neg (by simpa using fk), List.filter_nil, List.append_nil]
    · rintro H2 ⟨vs, lv, S2, sl2, kv⟩
      rw [List.length_map, lu] at kv
      exact q Dl vs H2 (Same.fresh S1 hDl) (S1.trans S2) sl2 kv
theorem ok_ends {C f : Addr} {fd : FuncData} (T : Txt K mg) (EC : EdC K C) (m__spots_around : C8.Met P w K mg base 5 C "_spots_around" (sp_around C) []) (F : Fun K "ends" "Edition.ends" s_Edition_ends f fd) : FnOk P w K mg base CX0 6 f fd ["self", "number"] (sp_ends C) := by
  refine F.ok sc_Edition_ends (fun vs H Q E h => ?_) (fun cdv A outer s H vs Q E hr h => ?_)
  · obtain ⟨S, e, B, L, n, x, rfl, _⟩ := h
    rfl
  · obtain ⟨S, e, B, L, n, x, rfl, h, hx, q⟩ := h
    refine ⟨_, (pss_one (ps_ret (pe_lc (own := [("spot", 2)]) rfl sc_Edition_ends.nd (pi_list (C8.pe_mt m__spots_around hr (by decide) (pv 0) (pa_cons (pv 1) pa_nil))) (blkOk_by (own := [("spot", 2)]) (N := N_Edition_ends) (sc := defScope s_Edition_ends) (by decide +kernel)) (fun _ _ _ _ _ => (pg_name (i := 2) sc_Edition_ends.nd rfl (.inl rfl))) (fun _ _ _ _ _ => (pts_one (pt_cmpR op_eq (pe_ix (ix_tupK (K := K) rfl) (pe_dget (hu_of hr) (pe_fldK (K := K) rfl (pv 0) rfl) (pv 2) (fun _ _ => rfl)) pe_int (fun _ _ => rfl)) (pv 1) (nomark _)))) (fun _ _ _ _ _ => (pv 2))))), ?_⟩
    obtain ⟨w, hw⟩ := id h
    refine ⟨.ref e, rfl, e, _, _, rfl, hw.at_, rfl, _, rfl, S, e, B, L, n, x, rfl, h, hx, fun l us H1 hl S1 ⟨sl, su⟩ ku => ?_⟩
    have lu : us.length = 4 := by
      have := congrArg List.length ku
      rw [List.length_map] at this
      exact this
    refine ⟨l, rfl, ⟨_, .inl (.inl sl)⟩, fun Dl hDl => ?_⟩
    refine lc_it (walk_list (xs := us.map fun z => V.ref z.1)) (fun i H' => ∃ vs : List (Addr × List Key), vs.length ≤ i ∧ Same H1 H' ∧ SpL H' Dl vs ∧ vs.map (·.2) = ((around x).take i).filter fun k => decide (lstK (plOf B) k = (n : Int))) ⟨[], Nat.zero_le _, same_new hDl, ⟨upd_same, fun z hz => nomatch hz⟩, rfl⟩ (fun i H' _ ⟨_, _, z, _⟩ => .inl (.inl (z _ _ sl))) ?_ ?_
    · rintro i y H2' H2 hi ⟨vs, lv, S2, ⟨hD, hv⟩, kv⟩ ⟨rfl, hy⟩
      rw [List.length_map, lu] at hi
      have hui : us[i]? = some us[i] := List.getElem?_eq_getElem (by omega)
      have hy : (us.map fun z => V.ref z.1)[i]? = some y := hy
      rw [List.getElem?_map, hui] at hy
      cases hy
      have key : us[i].2 = (plK x).take (i + 1) := by
        have h1 : (us.map (·.2))[i]? = some us[i].2 := by
          rw [List.getElem?_map, hui]
          rfl
        rw [ku, around_at x hi] at h1
        exact (Option.some.inj h1).symm
      have hu := su us[i] (List.getElem_mem _)
      rw [key] at hu
      obtain ⟨a, z, hs, _⟩ := st_some hx hi
      have hk := hw.c4 ((plK x).take (i + 1))
      rw [hs] at hk
      obtain ⟨v, h1, h2⟩ := hk
      obtain ⟨p, rfl, np, ep⟩ := h2.pair
      have S12 := S1.trans S2
      have tk := around_succ x hi
      refine ⟨rfl, _, rfl, e, C, _, _, _, rfl, S12 _ _ hw.at_, EC.cl, EC.n4, rfl, _, rfl, w.ds, _, rfl, h1 ▸ DGet.t (S12 _ _ hw.h4) (S2 _ _ hu), p, _, 1, _, rfl, rfl, .inl (.inl (S12 _ _ ep)), rfl, ?_⟩
      refine ⟨_, rfl, rfl, _, rfl, ite2 (fun e8 => ?_) fun e8 => ?_⟩
      · have e9 := V.int.inj (of_decide_eq_true e8)
        have fk : lstK (plOf B) ((plK x).take (i + 1)) = (n : Int) := by
          unfold lstK
          rw [hs]
          exact e9
        refine ⟨_, rfl, _, hD, by rw [List.length_map]; exact Evl.sz_lt (by omega), vs ++ [(us[i].1, (plK x).take (i + 1))], by rw [List.length_append]; show vs.length + 1 ≤ _; omega, ?_, ⟨by rw [upd_same, List.map_append]; rfl, fun z hz => ?_⟩, ?_⟩
        · exact fun q o e => by
            rw [upd_ne (ne_of_none e hDl)]
            exact S2 q o e
        · rcases List.mem_append.mp hz with hz | hz
          · rw [upd_ne (fun q => by have := hv z hz; rw [q, hD] at this; cases this)]
            exact hv z hz
          · rw [List.mem_singleton.mp hz, upd_ne (fun q => by have := S2 _ _ hu; rw [show us[i].1 = Dl from q, hD] at this; cases this)]
            exact S2 _ _ hu
        · rw [List.map_append, kv, tk, List.filter_append, List.filter_cons_of_pos (by simpa using fk)]
          rfl
      · have fk : ¬ lstK (plOf B) ((plK x).take (i + 1)) = (n : Int) := fun q => by
          unfold lstK at q
          rw [hs] at q
          have q : (z : Int) = (n : Int) := q
          exact e8 (decide_eq_true (by rw [q]))
        refine ⟨vs, by omega, S2, ⟨hD, hv⟩, ?_⟩
        rw [kv, tk, List.filter_append, List.filter_cons_of_neg (by simpa using fk), List.filter_nil, List.append_nil]
    · rintro H2 ⟨vs, lv, S2, sl2, kv⟩
      rw [List.length_map, lu] at kv
      exact q Dl vs H2 (Same.fresh S1 hDl) (S1.trans S2) sl2 kv
end
end My
set_option Elab.async false
set_option linter.all false
set_option maxRecDepth 100000
set_option maxHeartbeats 4000000
namespace My
open PySem PySem.Spec PyProof.Rows L2
def sp_size0 : Sp := fun vs H Q _ => ∃ (S0 : Av) (a : Addr) (Sh : List (List (List Int))), vs = [.ref a] ∧ At S0 H (.ref a) (shD Sh) ∧ okSh Sh ∧ ∀ H', Same H H' → Q (.int (Sh.map fun b => (b.map List.sum).sum).sum) H'
theorem At.row {S : Av} {H : Hp} {v : V} {c : List Int} (h : At S H v (rowD c)) : ∃ a, v = .ref a ∧ ¬ S a ∧ H a = some (.lst (c.map V.int)) := by
  cases h with
  | lst n e k => exact ⟨_, rfl, n, by rw [e, AtAll.ints_inv _ _ k]⟩
theorem At.book {S : Av} {H : Hp} {v : V} {b : List (List Int)} (h : At S H v (bookD b)) : ∃ a xs, v = .ref a ∧ ¬ S a ∧ H a = some (.lst xs) ∧ AtAll S H xs (b.map rowD) := by
  cases h with
  | lst n e k => exact ⟨_, _, rfl, n, e, k⟩
section
variable {P : Program} {w : World} {K : PySem.W.Frag} {mg : Str → Option Value} {base : Heap}
theorem ok_size0 (T : Txt K mg) (D : Df K mg "_law_size" s__law_size ["shapes"]) : Cl P w K mg base 2 "_law_size" ["shapes"] sp_size0 := by
  refine ok_of D sc__law_size (fun vs H Q E h => ?_) (fun f cdv A outer s H vs Q E hr h => ?_)
  · obtain ⟨S0, a, Sh, rfl, _⟩ := h
    rfl
  · obtain ⟨S0, a, Sh, rfl, ha, ok, q⟩ := h
    refine ⟨_, (pss_one (ps_ret (pe_callB (cr_sum rfl) (by rfl) T.b_sum (by decide +kernel) (pa_cons (pe_lc (own := [("chapters", 2)]) rfl sc__law_size.nd (pi_list (pv 0)) (blkOk_by (own := [("chapters", 2)]) (N := N__law_size) (sc := defScope s__law_size) (by decide +kernel)) (fun _ _ _ _ _ => (pg_name (i := 2) sc__law_size.nd rfl (.inl rfl))) (fun _ _ _ _ _ => pts_nil) (fun _ _ _ _ _ => (pe_callB (cr_sumK (K := K) rfl rfl) (by rfl) T.b_sum (by decide +kernel) (pa_cons (pe_lc (own := [("verses", 1)]) rfl sc__law_size.nd (pi_listK (K := K) rfl (pv 2)) (blkOk_by (own := [("verses", 1)]) (N := N__law_size) (by kernel_rfl)) (fun _ _ _ _ _ => (pg_name (i := 1) sc__law_size.nd rfl (.inl rfl))) (fun _ _ _ _ _ => pts_nil) (fun _ _ _ _ _ => (pe_callB (cr_sumK (K := K) rfl rfl) (by rfl) T.b_sum (by decide +kernel) (pa_cons (pv 1) pa_nil)))) pa_nil)))) pa_nil)))), ?_⟩
    cases ha with
    | lst na ea ka =>
    rename_i xs
    have lx : xs.length = Sh.length := by rw [ka.len, List.length_map]
    have s6 := ok.s1
    refine ⟨.ref a, rfl, a, rfl, ⟨_, .inl (.inl ea)⟩, fun D1 hD1 => ?_⟩
    refine lc_it (walk_list (xs := xs)) (fun i H' => Same H H' ∧ H' D1 = some (.lst (((Sh.take i).map fun b => (b.map List.sum).sum).map V.int))) ⟨same_new hD1, upd_same⟩ (fun i H' _ ⟨z, _⟩ => z.seq (.inl (.inl ea))) ?_ ?_
    · rintro i x H1 H1' hi ⟨S1, h1⟩ ⟨rfl, hx⟩
      obtain ⟨b, hb, hv⟩ := ka.at_ hx
      have okb := ok.b b (List.mem_of_getElem? hb)
      obtain ⟨a2, zs, rfl, n2, e2, k2⟩ := (At.same hv S1).book
      have lz : zs.length = b.length := by rw [k2.len, List.length_map]
      refine ⟨rfl, .ref a2, rfl, a2, rfl, ⟨_, .inl (.inl e2)⟩, fun D2 hD2 => ?_⟩
      have n21 : D1 ≠ D2 := ne_of_none h1 hD2
      refine lc_it (walk_list (xs := zs)) (fun j H' => Same H1' H' ∧ H' D2 = some (.lst (((b.take j).map List.sum).map V.int))) ⟨same_new hD2, upd_same⟩ (fun i H' _ ⟨z, _⟩ => z.seq (.inl (.inl e2))) ?_ ?_
      · rintro j y H2 H2' hj ⟨S2, h2⟩ ⟨rfl, hy⟩
        obtain ⟨c, hc, hcv⟩ := k2.at_ hy
        obtain ⟨a3, rfl, n3, e3⟩ := (At.same hcv S2).row
        refine ⟨rfl, .ref a3, rfl, a3, c, rfl, .inl (.inl e3), _, h2, ?_, ?_, ?_⟩
        · rw [List.length_map, List.length_map, List.length_take]
          exact Evl.sz_lt (by omega)
        · exact fun q o e => by
            rw [upd_ne (ne_of_none e hD2)]
            exact S2 q o e
        · rw [upd_same, List.take_add_one, hc, List.map_append, List.map_append]
          rfl
      · rintro H2 ⟨S2, h2⟩
        rw [lz, List.take_length] at h2
        refine ⟨D2, b.map List.sum, rfl, .inl (.inl h2), _, S2 _ _ h1, ?_, ?_, ?_⟩
        · rw [List.length_map, List.length_map, List.length_take]
          exact Evl.sz_lt (by omega)
        · exact fun q o e => by
            rw [upd_ne (ne_of_none e hD1)]
            exact S2 _ _ (S1 q o e)
        · rw [upd_same, List.take_add_one, hb, List.map_append, List.map_append]
          rfl
    · rintro H1 ⟨S1, h1⟩
      rw [lx, List.take_length] at h1
      exact ⟨D1, _, rfl, .inl (.inl h1), q H1 S1⟩
end
theorem hu80 {k : Nat} {A : Around} (r : Room k A) : A.units + 80 < cLine := by
  have := r.un
  omega
def lns (L : List Int) : Prop := ∀ z ∈ L, 0 ≤ z ∧ z < 10000
theorem short_int {z : Int} (h0 : 0 ≤ z) (h1 : z < 10000) : (PyData.shown (.int z)).length ≤ 13 := Nat.le_trans (toString_length_le h0 (k := 10) (by decide) (by omega)) (by decide)
theorem shown_ints {L : List Int} (h : lns L) (hl : L.length ≤ 1000) : (PyData.shown (.list (L.map PyData.int))).length ≤ sizeLine := by
  refine PyData.shown_fits_bulk (B := 13) (by decide) (by decide) ?_ ?_
  · show PyData.leavesShortAll 13 (L.map PyData.int) = true
    clear hl
    induction L with
    | nil => rfl
    | cons z r ih =>
      show (decide ((PyData.shown (.int z)).length ≤ 13) && PyData.leavesShortAll 13 (r.map PyData.int)) = true
      have hz := h z (List.mem_cons_self ..)
      rw [decide_eq_true (short_int hz.1 hz.2), Bool.true_and]
      exact ih fun x hx => h x (List.mem_cons_of_mem _ hx)
  · have e : ∀ r : List Int, PyData.bulkAll (r.map PyData.int) = r.length := fun r => by
      induction r with
      | nil => rfl
      | cons z r ih =>
        show 0 + 1 + PyData.bulkAll (r.map PyData.int) = _
        rw [ih, List.length_cons]
        omega
    show PyData.bulkAll (L.map PyData.int) ≤ 2 ^ 20
    rw [e]
    omega
theorem able_ints : ∀ {L : List Int}, lns L → PyData.showableAll (L.map PyData.int) = true
  | [], _ => rfl
  | z :: r, h => by
    show (decide (z.natAbs.log2 < 1920) && PyData.showableAll (r.map PyData.int)) = true
    have hz := h z (List.mem_cons_self ..)
    have : z.natAbs.log2 < 1920 := by
      by_cases e : z.natAbs = 0
      · rw [e]
        decide
      · rw [Nat.log2_lt e]
        exact Nat.lt_of_lt_of_le (show z.natAbs < 2 ^ 14 by omega) (Nat.pow_le_pow_right (by decide) (by decide))
    rw [decide_eq_true this, Bool.true_and]
    exact able_ints fun x hx => h x (List.mem_cons_of_mem _ hx)
theorem nod_ints : ∀ L : List Int, PyData.hasDict (.list (L.map PyData.int)) = false := fun L => by
  show PyData.hasDictAll (L.map PyData.int) = false
  induction L with
  | nil => rfl
  | cons z r ih => exact ih
theorem dep_ints (L : List Int) : PyData.depth (.list (L.map PyData.int)) ≤ 64 := by
  have := dep_map PyData.int 0 L fun x _ => Nat.le_refl _
  show PyData.depthAll _ + 1 ≤ 64
  omega
def shV : V → Str
  | .int i => toString i
  | _ => "None"
theorem call_repr_ni {X : Cx} : CallR X (.builtin "repr") (fun xs H Q => ∃ x, xs = [x] ∧ (x = .non ∨ ∃ i : Int, x = .int i ∧ i.natAbs.log2 < 1920) ∧ Q (.str (shV x)) H) := by
  intro pins s σ H xs us Q I r h
  obtain ⟨x, rfl, h, q⟩ := h
  rcases h with rfl | ⟨i, rfl, hz⟩
  · exact call_repr_none pins s σ H _ us Q I r ⟨rfl, q⟩
  · obtain ⟨u, rfl, t, rfl⟩ := vals1 r
    exact PySem.P.repr_of_int hz ⟨.str _, H, I.tok _, ⟨_, rfl⟩, q⟩
section
variable {P : Program} {w : World} {K : PySem.W.Frag} {mg : Str → Option Value} {base : Heap}
theorem ok_cell (T : Txt K mg) (D : Df K mg "_law_cell" s__law_cell ["script", "k"]) : Cl P w K mg base 2 "_law_cell" ["script", "k"] (sp_cell K) := by
  refine ok_of D sc__law_cell (fun vs H Q E h => ?_) (fun f cdv A outer s H vs Q E hr h => ?_)
  · obtain ⟨a, ns, k, rfl, _⟩ := h
    rfl
  · obtain ⟨a, ns, k, rfl, hS, hk, q⟩ := h
    refine ⟨_, (pss_cons (ps_if (pt_cmpR op_lt (pv 1) (pe_callB call_len (by rfl) T.b_len (by decide +kernel) (pa_cons (pv 0) pa_nil)) (nomark _)) (pss_one (ps_ret (pe_ix ix_list (pv 0) (pv 1) (fun _ _ => rfl)))) pss_nil)
      (pss_one (ps_ret (pe_op op_add (pe_op op_mul pe_int (pv 1)) pe_int)))), ?_⟩
    refine ⟨.int k, rfl, .ref a, rfl, _, _, rfl, .inl ⟨_, hS, rfl⟩, k, _, rfl, rfl, _, rfl, ite2 (fun e => ?_) (fun e => ?_)⟩
    · have e1 : k < ((ns.map V.int).length : Int) := of_decide_eq_true e
      rw [List.length_map] at e1
      have hj : k.toNat < ns.length := by omega
      have hx : (ns.map V.int)[k.toNat]? = some (.int ns[k.toNat]) := by
        rw [List.getElem?_map, List.getElem?_eq_getElem hj]
        rfl
      exact ⟨.ref a, rfl, .int k, rfl, a, _, k, _, rfl, rfl, hS, at_of (j := k.toNat) (by omega) hx, q _⟩
    · exact ⟨.int k, rfl, 6007, k, rfl, rfl, .inl (by decide), 6007 * k, 41, rfl, rfl, q _⟩
theorem ok_box (T : Txt K mg) (D : Df K mg "_law_box" s__law_box ["cell"]) : Cl P w K mg base 2 "_law_box" ["cell"] sp_box := by
  refine ok_of D sc__law_box (fun vs H Q E h => ?_) (fun f cdv A outer s H vs Q E hr h => ?_)
  · obtain ⟨a, rfl, _⟩ := h
    rfl
  · obtain ⟨c, rfl, q⟩ := h
    refine ⟨_, (pss_one (ps_ret (pe_lst (pa_cons (pe_callB (call_max2 rfl) (by rfl) T.b_max (by decide +kernel) (pa_cons pe_int (pa_cons (pe_op op_sub (pv 0) (pe_op op_pow pe_int pe_int)) pa_nil))) (pa_cons (pe_op op_mod (pv 0) pe_int) (pa_cons pe_int pa_nil)))))), ?_⟩
    refine ⟨.int c, rfl, 10, 18, rfl, rfl, ⟨by decide, by decide, by decide⟩, c, _, rfl, rfl, 0, _, rfl, .int c, rfl, c, _, rfl, rfl, (by show (0 : Int) < 2147483587; decide), (by show 3 ≤ sizeLine; decide), fun p hp => ?_⟩
    refine q p _ hp (same_new hp) ⟨_, _, _, upd_same, ?_, Int.emod_nonneg _ (by decide), Int.emod_lt_of_pos _ (by decide), Int.le_refl _, Int.le_refl _⟩
    split <;> omega
theorem ok_take (T : Txt K mg) (D : Df K mg "_law_take" s__law_take ["box", "many"]) : Cl P w K mg base 2 "_law_take" ["box", "many"] sp_take := by
  refine ok_of D sc__law_take (fun vs H Q E h => ?_) (fun f cdv A outer s H vs Q E hr h => ?_)
  · obtain ⟨a, n, m, rfl, _⟩ := h
    rfl
  · obtain ⟨p, n, m, rfl, ⟨i, j, k, hp, hi, hj0, hj1, hk0, hk1⟩, hn, hm0, hm1, q⟩ := h
    refine ⟨_, (pss_cons (ps_if (pt_cmpR op_gt (pe_ix ix_list (pv 0) pe_int (fun _ _ => rfl)) pe_int (nomark _)) (pss_cons (ps_set (i := 2) sc__law_take.nd rfl (.inl rfl) (pe_op op_mod (pe_ix ix_list (pv 0) pe_int (fun _ _ => rfl)) (pv 1)))
        (pss_cons (ps_asg (pe_op op_fdiv (pe_ix ix_list (pv 0) pe_int (fun _ _ => rfl)) (pv 1)) (pg_sub (pv 0) pe_int set_list))
        (pss_one (ps_ret (pv 2))))) pss_nil)
      (pss_cons (ps_asg (pe_op op_add (pe_ix ix_list (pv 0) pe_int (fun _ _ => rfl)) pe_int) (pg_sub (pv 0) pe_int set_list))
      (pss_cons (ps_set (i := 3) sc__law_take.nd rfl (.inl rfl) (pe_op op_mod (pe_op op_pow (pe_op op_add (pe_op op_add (pe_ix ix_list (pv 0) pe_int (fun _ _ => rfl)) (pe_op op_mul pe_int (pe_ix ix_list (pv 0) pe_int (fun _ _ => rfl)))) pe_int) pe_int) pe_int))
      (pss_cons (ps_set (i := 3) sc__law_take.nd rfl (.inl rfl) (pe_op op_mod (pe_op op_pow (pe_op op_add (pv 3) (pe_op op_mul pe_int (pe_ix ix_list (pv 0) pe_int (fun _ _ => rfl)))) pe_int) pe_int))
      (pss_one (ps_ret (pe_op op_mod (pe_op op_fdiv (pv 3) pe_int) (pv 1)))))))), ?_⟩
    have L : SqL K H p [.int i, .int j, .int k] := .inl (.inl hp)
    refine ⟨.ref p, rfl, p, _, 0, .int i, rfl, rfl, L, atI_nat (j := 0) rfl, i, 0, rfl, rfl, _, rfl, ite2 (fun e => ?_) (fun e => ?_)⟩
    · -- digit = box[0] % many; box[0] = box[0] // many; return digit
      refine ⟨.ref p, rfl, p, _, 0, .int i, rfl, rfl, L, atI_nat (j := 0) rfl, .int m, rfl, i, m, rfl, rfl, hm0, ?_⟩
      refine ⟨.ref p, rfl, p, _, 0, .int i, rfl, rfl, L, atI_nat (j := 0) rfl, .int m, rfl, i, m, rfl, rfl, ⟨hm0, hm1⟩, .ref p, rfl, p, _, 0, 0, rfl, rfl, hp, rfl, ?_⟩
      refine ⟨_, rfl, q _ _ (Int.emod_nonneg _ (by omega)) (Int.emod_lt_of_pos _ hm0) ⟨⟨i / m, j, k, upd_same, Int.ediv_nonneg hi (by omega), hj0, hj1, hk0, by omega⟩, Bt.upd⟩⟩
    · -- box[2] = box[2] + 1
      refine ⟨.ref p, rfl, p, _, 2, .int k, rfl, rfl, L, atI_nat (j := 2) rfl, k, 1, rfl, rfl, .ref p, rfl, p, _, 2, 2, rfl, rfl, hp, rfl, ?_⟩
      have hp1 : (upd H p (.lst [V.int i, V.int j, V.int (k + 1)])) p = some (.lst [V.int i, V.int j, V.int (k + 1)]) := upd_same
      have L1 : SqL K (upd H p (.lst [V.int i, V.int j, V.int (k + 1)])) p [.int i, .int j, .int (k + 1)] := .inl (.inl hp1)
      have b1 : (j + 40503 * (k + 1) + 3).natAbs < 2 ^ 64 := by omega
      refine ⟨.ref p, rfl, p, _, 1, .int j, rfl, rfl, L1, atI_nat (j := 1) rfl, .ref p, rfl, p, _, 2, .int (k + 1), rfl, rfl, L1, atI_nat (j := 2) rfl, 40503, k + 1, rfl, rfl, .inl (by decide), j, _, rfl, rfl, _, 3, rfl, rfl, _, 5, rfl, rfl, ⟨by decide, by decide, b1⟩, _, 2147483647, rfl, rfl, (by show (0 : Int) < 2147483647; decide), ?_⟩
      have c0 := Int.emod_nonneg ((j + 40503 * (k + 1) + 3) ^ (5 : Int).toNat) (show (2147483647 : Int) ≠ 0 by decide)
      have c1 := Int.emod_lt_of_pos ((j + 40503 * (k + 1) + 3) ^ (5 : Int).toNat) (show (0 : Int) < 2147483647 by decide)
      have b2 : ((j + 40503 * (k + 1) + 3) ^ (5 : Int).toNat % 2147483647 + 75011 * (k + 1)).natAbs < 2 ^ 64 := by
        generalize (j + 40503 * (k + 1) + 3) ^ (5 : Int).toNat % 2147483647 = x1 at c0 c1 ⊢
        omega
      refine ⟨_, rfl, .ref p, rfl, p, _, 2, .int (k + 1), rfl, rfl, L1, atI_nat (j := 2) rfl, 75011, k + 1, rfl, rfl, .inl (by decide), _, _, rfl, rfl, _, 5, rfl, rfl, ⟨by decide, by decide, b2⟩, _, 2147483629, rfl, rfl, (by show (0 : Int) < 2147483629; decide), ?_⟩
      refine ⟨_, rfl, _, 32, rfl, rfl, ⟨by decide, by decide⟩, .int m, rfl, _, m, rfl, rfl, hm0, ?_⟩
      exact q _ _ (Int.emod_nonneg _ (by omega)) (Int.emod_lt_of_pos _ hm0) ⟨⟨i, j, k + 1, hp1, hi, hj0, hj1, by omega, by omega⟩, Bt.upd⟩
theorem plC_sum (nm : List Nat) (ci : Nat) : ∀ (c : List Int) (k : Nat), (∀ m ∈ c, 0 ≤ m) → ((((c.zipIdx k).flatMap fun x => plV nm ci x.2 x.1).length : Nat) : Int) = c.sum
  | [], _, _ => rfl
  | m :: r, k, h => by
    have h1 := plC_sum nm ci r (k + 1) fun x hx => h x (List.mem_cons_of_mem _ hx)
    have h2 := h m (List.mem_cons_self ..)
    rw [List.zipIdx_cons, List.flatMap_cons, List.length_append, plV_len, List.sum_cons]
    omega
theorem plB_sum (nm : List Nat) : ∀ (C : List (List Int)) (k : Nat), (∀ c ∈ C, ∀ m ∈ c, 0 ≤ m) → ((((C.zipIdx k).flatMap fun x => plC nm x.2 x.1).length : Nat) : Int) = (C.map List.sum).sum
  | [], _, _ => rfl
  | c :: r, k, h => by
    have h1 := plB_sum nm r (k + 1) fun x hx => h x (List.mem_cons_of_mem _ hx)
    have h2 := plC_sum nm k c 0 (h c (List.mem_cons_self ..))
    rw [List.zipIdx_cons, List.flatMap_cons, List.length_append, List.map_cons, List.sum_cons]
    show ((((c.zipIdx 0).flatMap fun x => plV nm k x.2 x.1).length + _ : Nat) : Int) = _
    omega
theorem plOf_sum : ∀ B : Bks, (∀ b ∈ B, ∀ c ∈ b.2, ∀ m ∈ c, 0 ≤ m) → (((plOf B).length : Nat) : Int) = (B.map fun b => (b.2.map List.sum).sum).sum
  | [], _ => rfl
  | b :: r, h => by
    have h1 := plOf_sum r fun x hx => h x (List.mem_cons_of_mem _ hx)
    have h2 := plB_sum b.1 b.2 0 (h b (List.mem_cons_self ..))
    unfold plOf at h1 ⊢
    rw [List.flatMap_cons, List.length_append, List.map_cons, List.sum_cons]
    show ((((b.2.zipIdx 0).flatMap fun x => plC b.1 x.2 x.1).length + _ : Nat) : Int) = _
    omega
theorem okBks_of {nms : List (List Nat)} {Sh : List (List (List Int))} (hN : okNames nms) (hS : okSh Sh) (hl : nms.length = Sh.length) : okBks (nms.zip Sh) := by
  have e1 : (nms.zip Sh).map (·.1) = nms := List.map_fst_zip (by omega)
  have e2 : (nms.zip Sh).map (·.2) = Sh := List.map_snd_zip (by omega)
  have lz : (nms.zip Sh).length = Sh.length := by rw [List.length_zip]; omega
  refine ⟨?_, ?_, ?_, ?_, ?_, ?_, ?_⟩
  · rw [lz]
    exact hS.s0
  · rw [lz]
    exact hS.s1
  · rw [e1]
    exact hN.nd
  · exact fun b hb => hN.ok _ (List.of_mem_zip hb).1
  · exact fun b hb => hS.b _ (List.of_mem_zip hb).2
  · have : (nms.zip Sh).map (fun b => b.2.length) = Sh.map List.length := by
      rw [← e2, List.map_map, e2]
      rfl
    rw [this]
    exact hS.chs
  · have : (nms.zip Sh).map (fun b => (b.2.map List.sum).sum) = Sh.map fun b => (b.map List.sum).sum := by
      rw [← e2, List.map_map, e2]
      rfl
    rw [this]
    exact hS.prs
theorem zip_sum {nms : List (List Nat)} {Sh : List (List (List Int))} (hS : okSh Sh) (hl : nms.length = Sh.length) : (((plOf (nms.zip Sh)).length : Nat) : Int) = (Sh.map fun b => (b.map List.sum).sum).sum := by
  have e2 : (nms.zip Sh).map (·.2) = Sh := List.map_snd_zip (by omega)
  rw [plOf_sum]
  · have : (nms.zip Sh).map (fun b => (b.2.map List.sum).sum) = Sh.map fun b => (b.map List.sum).sum := by
      rw [← e2, List.map_map, e2]
      rfl
    rw [this]
  · intro b hb c hc m hm
    have := ((hS.b _ (List.of_mem_zip hb).2).2.2 c hc).x m hm
    omega
/-- lines handed in, as data -/
def optD : Option (List (Int × Int)) → PyData
  | none => .none
  | some ps => .list (ps.map prD)
theorem optD_in {S : Av} {H : Hp} {v : V} {o : Option (List (Int × Int))} (h : At S H v (optD o)) : LnIn H v o := by
  cases o with
  | none =>
    cases h
    rfl
  | some ps =>
    cases h with
    | lst n e k =>
      refine ⟨_, _, rfl, .inl e, by rw [k.len, List.length_map], fun i x s h1 h2 => ?_⟩
      obtain ⟨s', h3, h4⟩ := k.at_ h1
      rw [h2] at h3
      cases h3
      obtain ⟨t, e1, _, e2⟩ := h4.pair
      exact ⟨t, e1, e2⟩
theorem chs_in {S : Av} {H : Hp} {v : V} {b : List (List Int)} (h : At S H v (bookD b)) : ∃ c xs, v = .ref c ∧ Rw H c xs ∧ ChsIn S H xs b := by
  obtain ⟨c, xs, e, n, h1, k⟩ := h.book
  refine ⟨c, xs, e, .inl h1, by rw [k.len, List.length_map], fun i x c' h2 h3 => ?_⟩
  obtain ⟨c2, h4, h5⟩ := k.at_ h2
  rw [h3] at h4
  cases h4
  obtain ⟨a, e1, n1, e2⟩ := h5.row
  exact ⟨a, e1, n1, .inl e2⟩
theorem lnP_nodup (s : Int × Int) : (lnP s).Nodup := by
  unfold lnP
  refine List.pairwise_map.mpr (List.Pairwise.imp ?_ (List.nodup_range (n := s.2.toNat)))
  intro a b h e
  exact h (by omega)
theorem lns_ok {o : Option (List (Int × Int))} {n : Int} (h : okLn o n) : (lnsD o n).Nodup ∧ ((lnsD o n).length : Int) = n ∧ lns (lnsD o n) := by
  obtain ⟨n0, n1, h⟩ := h
  cases o with
  | none =>
    refine ⟨lnP_nodup _, ?_, fun z hz => ?_⟩
    · show ((lnP (0, n)).length : Int) = n
      rw [lnP_len]
      show (n.toNat : Int) = n
      omega
    · have := mem_lnP (s := (0, n)) hz
      have h1 : (0 : Int) ≤ z := this.1
      have h2 : z < 0 + n := this.2
      omega
  | some ps =>
    have h : okPairs ps n := h
    refine ⟨?_, (lnOf_len ps fun s hs => (h.x s hs).2.1).trans h.sum, fun z hz => ?_⟩
    · show (ps.flatMap lnP).Nodup
      refine List.pairwise_flatMap.mpr ⟨fun s _ => lnP_nodup s, h.ap.imp fun {s t} ap => ?_⟩
      intro x hs y ht e
      have a := mem_lnP hs
      have b := mem_lnP ht
      rcases ap with ap | ap <;> omega
    · obtain ⟨s, hs, hz⟩ := List.mem_flatMap.mp hz
      have a := mem_lnP hz
      have b := h.x s hs
      omega
theorem LcA.occ1 {p : Addr} {n : Nat} {H H' : Hp} {D : Addr} {xs : List V} {ds : List PyData} (c : LcA (O1 p) p n H D xs ds H') : Occ (Plus (O1 p) D) H' := fun b z e => z.elim (fun q => by
  obtain ⟨i, j, k, e2, _⟩ := c.l.dr.box
  rw [q, e2] at e
  cases e) fun q => by
  rw [q, c.l.at_] at e
  cases e
theorem BksIn.plusN {S : Av} {H : Hp} {v : V} {B : Bks} {D : Addr} (h : BksIn S H v B) (g : H D = none) : BksIn (Plus S D) H v B := by
  obtain ⟨a, xs, e, r, l, k⟩ := h
  exact ⟨a, xs, e, r, l, fun i y b h1 h2 => (k i y b h1 h2).plusN g⟩
theorem occ1 {p : Addr} {n : Nat} {H : Hp} (h : Box n H p) : Occ (O1 p) H := fun b q e => by
  obtain ⟨i, j, k, e2, _⟩ := h
  rw [q, e2] at e
  cases e
/-- books handed in last where only the box changes -/
theorem BksIn.btp {p : Addr} {n : Nat} {H H' : Hp} {v : V} {B : Bks} (h : BksIn (O1 p) H v B) (ok : okBks B) (b : Bt p H H') (bx : Box n H p) : BksIn (O1 p) H' v B := by
  obtain ⟨i0, j0, k0, eb, _⟩ := bx
  obtain ⟨a, xs, e, r, l, k⟩ := h
  obtain ⟨b0, B0⟩ : ∃ b0, B[0]? = some b0 := ⟨_, List.getElem?_eq_getElem (show 0 < B.length from ok.l0)⟩
  have rowp : ∀ {a : Addr} {xs : List V}, Rw H a xs → (∀ x, xs[0]? = some x → ∃ q, x = .ref q) → 0 < xs.length → Rw H' a xs := by
    intro a xs r hx hl
    have na : a ≠ p := fun q => by
      obtain ⟨y, hy⟩ : ∃ y, xs[0]? = some y := ⟨_, List.getElem?_eq_getElem hl⟩
      obtain ⟨q', e'⟩ := hx y hy
      rcases r with r | r
      · rw [q, eb] at r
        cases r
        cases hy
        cases e'
      · rw [q, eb] at r
        cases r
    exact r.elim (fun r => .inl (b _ _ na r)) fun r => .inr (b _ _ na r)
  refine ⟨a, xs, e, rowp r (fun x hx => ?_) (by have := ok.l0; omega), l, fun i x bb h1 h2 => ?_⟩
  · obtain ⟨a2, _, _, e2, _⟩ := k 0 x _ hx B0
    exact ⟨a2, e2⟩
  · obtain ⟨a2, c2, ys, e2, f2, r2, l2, k2⟩ := k i x bb h1 h2
    have okc := ok.ch bb (List.mem_of_getElem? h2)
    refine ⟨a2, c2, ys, e2, b _ _ (fun q => by rw [q, eb] at f2; cases f2) f2, rowp r2 (fun y hy => ?_) (by omega), l2, fun j y c h3 h4 => ?_⟩
    · obtain ⟨a3, e3, _⟩ := k2 0 y _ hy (List.getElem?_eq_getElem (by omega))
      exact ⟨a3, e3⟩
    · obtain ⟨a3, e3, n3, r3⟩ := k2 j y c h3 h4
      exact ⟨a3, e3, n3, r3.elim (fun r => .inl (b _ _ n3 r)) fun r => .inr (b _ _ n3 r)⟩
theorem size_pos {B : Bks} (h : okBks B) : 1 ≤ (plOf B).length := by
  have e := plOf_sum B fun b hb c hc m hm => by
    have := (((h.ch b hb).2.2 c hc).x m hm).1
    omega
  have h1 := len_sum (B.map fun b => (b.2.map List.sum).sum) fun x hx => by
    obtain ⟨b, hb, rfl⟩ := List.mem_map.mp hx
    have h2 := len_sum (b.2.map List.sum) fun y hy => by
      obtain ⟨c, hc, rfl⟩ := List.mem_map.mp hy
      have okc := (h.ch b hb).2.2 c hc
      have h3 := len_sum c fun m hm => (okc.x m hm).1
      have := okc.l0
      omega
    have := (h.ch b hb).1
    rw [List.length_map] at h2
    omega
  have := h.l0
  rw [List.length_map] at h1
  omega
theorem EdAt.weak {S S' : Av} {H : Hp} {C e : Addr} {B : Bks} {L : List Int} (h : EdAt S H C e B L) (W : ∀ b, S' b → S b) : EdAt S' H C e B L := by
  obtain ⟨w, h⟩ := h
  exact ⟨w, { h with n0 := fun z => h.n0 (W _ z), n2 := fun z => h.n2 (W _ z), n3 := fun z => h.n3 (W _ z), n4 := fun z => h.n4 (W _ z), n5 := fun z => h.n5 (W _ z), n6 := fun z => h.n6 (W _ z), h1 := At.weak W _ _ h.h1, c2 := ⟨h.c2.k, AtAll.weak W _ _ h.c2.v⟩, c3 := AtAll.weak W _ _ h.c3, c4 := h.c4.weak W, h7 := At.weak W _ _ h.h7 }⟩
theorem eqv_intsL : ∀ L M : List Int, PyData.eqvAll (L.map PyData.int) (M.map PyData.int) = decide (L = M)
  | [], [] => rfl
  | [], _ :: _ => rfl
  | _ :: _, [] => rfl
  | a :: r, b :: t => by
    show ((a == b) && PyData.eqvAll (r.map PyData.int) (t.map PyData.int)) = _
    rw [eqv_intsL r t]
    by_cases e : a = b
    · subst e
      rw [beq_self_eq_true, Bool.true_and]
      exact decide_eq_decide.mpr ⟨fun h => by rw [h], fun h => (List.cons.inj h).2⟩
    · rw [beq_false_of_ne e, Bool.false_and]
      exact (decide_eq_false fun h => e (List.cons.inj h).1).symm
end
end My
set_option Elab.async false
set_option linter.all false
set_option maxRecDepth 100000
set_option maxHeartbeats 4000000
namespace My
open PySem PySem.Spec PyProof.Rows L2
def keyD : Key → PyData
  | .inl i => .int i
  | .inr s => .str s
theorem eqv_key (a b : Key) : PyData.eqv (keyD a) (keyD b) = decide (a = b) := by
  cases a with
  | inl i =>
    cases b with
    | inl j =>
      show (i == j) = _
      by_cases e : i = j
      · subst e
        rw [beq_self_eq_true, decide_eq_true rfl]
      · rw [beq_false_of_ne e, decide_eq_false fun z => e (Sum.inl.inj z)]
    | inr s =>
      rw [decide_eq_false fun z => nomatch z]
      rfl
  | inr s =>
    cases b with
    | inl j =>
      rw [decide_eq_false fun z => nomatch z]
      rfl
    | inr t =>
      show (s == t) = _
      by_cases e : s = t
      · subst e
        rw [beq_self_eq_true, decide_eq_true rfl]
      · rw [beq_false_of_ne e, decide_eq_false fun z => e (Sum.inr.inj z)]
theorem eqv_keys : ∀ ks js : List Key, PyData.eqvAll (ks.map keyD) (js.map keyD) = decide (ks = js)
  | [], [] => rfl
  | [], _ :: _ => rfl
  | _ :: _, [] => rfl
  | a :: r, b :: t => by
    show (PyData.eqv (keyD a) (keyD b) && PyData.eqvAll (r.map keyD) (t.map keyD)) = _
    rw [eqv_keys r t, eqv_key]
    by_cases e : a = b
    · subst e
      rw [decide_eq_true rfl, Bool.true_and]
      exact decide_eq_decide.mpr ⟨fun h => by rw [h], fun h => (List.cons.inj h).2⟩
    · rw [decide_eq_false e, Bool.false_and]
      exact (decide_eq_false fun h => e (List.cons.inj h).1).symm
theorem dp_key {K : PySem.W.Frag} {H : Hp} : ∀ ks : List Key, DpAll K H (ks.map kV) (ks.map keyD)
  | [] => .nil
  | .inl i :: r => .cons (.int i) (dp_key r)
  | .inr s :: r => .cons (.str s) (dp_key r)
theorem lay_keys : ∀ ks : List Key, (∀ k ∈ ks, (keyD k).canLay0 = true) → SeqAt.shaped (.tuple (ks.map keyD)) = true := fun ks h => by
  unfold SeqAt.shaped
  rw [Bool.and_eq_true]
  refine ⟨lay_map keyD ks h, decide_eq_true ?_⟩
  have := dep_map keyD 0 ks fun k _ => by cases k <;> exact Nat.le_refl _
  show PyData.depthAll _ + 1 ≤ 64
  omega
/-- a name, a small number -/
def smD (d : PyData) : Prop := (∃ w : List Nat, d = .str (SX.S w) ∧ w.length ≤ 6 ∧ ∀ c ∈ w, c < 128) ∨ ∃ z : Int, d = .int z ∧ 0 ≤ z ∧ z < 10000
theorem sm_all : ∀ ds : List PyData, (∀ d ∈ ds, smD d) → PyData.showableAll ds = true ∧ PyData.hasDictAll ds = false ∧ PyData.depthAll ds = 0 ∧ PyData.leavesShortAll 13 ds = true ∧ PyData.bulkAll ds ≤ 7 * ds.length
  | [], _ => ⟨rfl, rfl, rfl, rfl, Nat.zero_le _⟩
  | d :: r, h => by
    obtain ⟨h1, h2, h3, h4, h5⟩ := sm_all r fun x hx => h x (List.mem_cons_of_mem _ hx)
    rcases h d (List.mem_cons_self ..) with ⟨w, rfl, hw, hc⟩ | ⟨z, rfl, z0, z1⟩
    · refine ⟨h1, h2, ?_, ?_, ?_⟩
      · show max 0 (PyData.depthAll r) = 0
        omega
      · show ((SX.S w).cps.toList.all (fun c => decide (c < 16 ^ 8)) && PyData.leavesShortAll 13 r) = true
        rw [h4, Bool.and_true, List.all_eq_true]
        exact fun c k => decide_eq_true (Nat.lt_trans (hc c k) (by decide))
      · show (SX.S w).cps.size + 1 + PyData.bulkAll r ≤ _
        have : (SX.S w).cps.size = w.length := SX.S_len w
        rw [List.length_cons]
        omega
    · refine ⟨?_, h2, ?_, ?_, ?_⟩
      · show (decide (z.natAbs.log2 < 1920) && PyData.showableAll r) = true
        rw [h1, Bool.and_true]
        exact (Bool.and_eq_true _ _ ▸ able_ints (L := [z]) fun y hy => by rw [List.mem_singleton.mp hy]; exact ⟨z0, z1⟩ : _ ∧ _).1
      · show max 0 (PyData.depthAll r) = 0
        omega
      · show (decide ((PyData.shown (.int z)).length ≤ 13) && PyData.leavesShortAll 13 r) = true
        rw [h4, Bool.and_true]
        exact decide_eq_true (short_int z0 z1)
      · show 0 + 1 + PyData.bulkAll r ≤ _
        rw [List.length_cons]
        omega
structure RpOk (d : PyData) : Prop where
  a : d.showable = true
  b : d.hasDict = false
  c : d.depth ≤ 64
  e : d.shown.length ≤ sizeLine
theorem sm_tup {ds : List PyData} (h : ∀ d ∈ ds, smD d) (hl : ds.length ≤ 1000) : RpOk (.tuple ds) := by
  obtain ⟨h1, h2, h3, h4, h5⟩ := sm_all ds h
  refine ⟨h1, h2, ?_, PyData.shown_fits_bulk (B := 13) (by decide) (by decide) h4 ?_⟩
  · show PyData.depthAll ds + 1 ≤ 64
    omega
  · show PyData.bulkAll ds ≤ 2 ^ 20
    omega
theorem log_small {z : Int} (z0 : 0 ≤ z) (z1 : z < 10000) : z.natAbs.log2 < 1920 := of_decide_eq_true (Bool.and_eq_true _ _ ▸ able_ints (L := [z]) fun y hy => by rw [List.mem_singleton.mp hy]; exact ⟨z0, z1⟩ : _ ∧ _).1
theorem okPl.small {B : Bks} {x : Pl} {b : List Nat × List (List Int)} {j k : Nat} {c : List Int} {m : Int} (o : okPl B x b j k c m) (ok : okBks B) : smD (.str (SX.S x.nm)) ∧ smD (.int x.c) ∧ smD (.int x.v) ∧ smD (.int x.p) := by
  have hn := ok.nm b o.hb
  have h1 := ok.ch b o.hb
  have hj := (List.getElem?_eq_some_iff.mp o.hc).1
  have hr := h1.2.2 c (List.mem_of_getElem? o.hc)
  have hk := (List.getElem?_eq_some_iff.mp o.hm).1
  have hm := hr.x m (List.mem_of_getElem? o.hm)
  have l30 := hr.l1
  have xc := o.xc
  have xv := o.xv
  have p1 := o.p1
  have pm := o.pm
  rw [← o.nm]
  exact ⟨.inl ⟨b.1, rfl, hn.l1, fun c hc => let128 c (hn.a c hc)⟩, .inr ⟨_, rfl, by omega, by omega⟩, .inr ⟨_, rfl, by omega, by omega⟩, .inr ⟨_, rfl, by omega, by omega⟩⟩
theorem okPl.lay {B : Bks} {x : Pl} {b : List Nat × List (List Int)} {j k : Nat} {c : List Int} {m : Int} (o : okPl B x b j k c m) (ok : okBks B) : ∀ y ∈ plK x, (keyD y).canLay0 = true := by
  have hn := ok.nm b o.hb
  have e : PyData.strOk (SX.S x.nm) = true := by
    rw [← o.nm]
    show (b.1.toArray.all fun c => decide (c < 0x110000)) = true
    rw [← Array.all_toList, List.all_eq_true]
    intro c hc
    have := let128 c (hn.a c hc)
    exact decide_eq_true (by omega)
  intro y hy
  unfold plK at hy
  simp only [List.mem_cons, List.not_mem_nil, or_false] at hy
  rcases hy with rfl | rfl | rfl | rfl
  · exact e
  · rfl
  · rfl
  · rfl
theorem ends_at {l : List Int} (h : l ≠ []) : ∃ a z, ends l = some (a, z) ∧ atI (l.map V.int) 0 = some (.int a) ∧ atI (l.map V.int) (-1) = some (.int z) ∧ a ∈ l ∧ z ∈ l := by
  rcases List.eq_nil_or_concat l with rfl | ⟨r, z, rfl⟩
  · exact absurd rfl h
  · rw [List.concat_eq_append]
    cases r with
    | nil => exact ⟨z, z, rfl, atI_nat (j := 0) rfl, atI_last [] (V.int z), by simp, by simp⟩
    | cons a r =>
      refine ⟨a, z, ?_, atI_nat (j := 0) rfl, ?_, by simp, by simp⟩
      · unfold ends
        rw [List.getLast?_concat]
        rfl
      · rw [List.map_append]
        exact atI_last _ _
theorem insK_lt {P : List Pl} {k : List Key} {z : Int} (h : z ∈ insK P k) : 0 ≤ z ∧ z < P.length := by
  unfold insK at h
  obtain ⟨⟨x, i⟩, hx, rfl⟩ := List.mem_map.mp h
  have := List.mem_zipIdx (List.mem_filter.mp hx).1
  show (0 : Int) ≤ (i : Int) ∧ (i : Int) < _
  omega
theorem insK_len (P : List Pl) (k : List Key) : (insK P k).length ≤ P.length := by
  unfold insK
  rw [List.length_map]
  have := List.length_filter_le (fun x : Pl × Nat => decide ((plK x.1).take k.length = k)) P.zipIdx
  rw [List.length_zipIdx] at this
  exact this
theorem dp_spot {K : PySem.W.Frag} {H : Hp} {b : Addr} {y : Pl} {m : Nat} (h : SpAt H b y m) : Dp K H (.ref b) (.tuple (((plK y).take m).map keyD)) := .tup (.inl (.inl h)) (dp_key _)
theorem SpAt.same {H H' : Hp} {b : Addr} {y : Pl} {m : Nat} (h : SpAt H b y m) (s : Same H H') : SpAt H' b y m := s _ _ h
theorem pr_ok {s : Int × Int} (h0 : 0 ≤ s.1) (h1 : s.1 < 10000) (h2 : 0 ≤ s.2) (h3 : s.2 < 10000) : RpOk (prD s) := sm_tup (ds := [.int s.1, .int s.2]) (fun d hd => by
  simp only [List.mem_cons, List.not_mem_nil, or_false] at hd
  rcases hd with rfl | rfl
  · exact .inr ⟨_, rfl, h0, h1⟩
  · exact .inr ⟨_, rfl, h2, h3⟩) (by show 2 ≤ 1000; decide)
end My
set_option Elab.async false
set_option linter.all false
set_option maxRecDepth 100000
set_option maxHeartbeats 4000000
namespace My
open PySem PySem.Spec PyProof.Rows L2
theorem num_val {L : List Int} (nd : L.Nodup) {i : Nat} {z : Int} (h : L[i]? = some z) : valV (numD L) (Sum.inl z : Key) = some (.int (i : Nat)) := by
  have e : ∀ n, i < n → valV (numD (L.take n)) (Sum.inl z : Key) = some (.int (i : Nat)) := by
    intro n
    induction n with
    | zero => intro h; omega
    | succ n ih =>
      intro hn
      by_cases q : n < L.length
      · have hq : L[n]? = some L[n] := List.getElem?_eq_getElem q
        have new : valV (numD (L.take n)) (Sum.inl L[n] : Key) = none := by
          refine val_no ?_
          rw [numD_keys]
          intro y
          obtain ⟨z', hz', e'⟩ := List.mem_map.mp y
          rw [Sum.inl.inj e'] at hz'
          exact nodup_take_not nd hq hz'
        rw [numD_succ hq, valV_snoc _ _ _ _ new]
        by_cases e : i = n
        · subst e
          rw [hq] at h
          cases h
          rw [if_pos rfl]
        · rw [if_neg (fun y => ?_), ih (by omega)]
          have y := Sum.inl.inj y
          rw [y] at h
          exact e ((List.getElem?_inj (i := i) (List.getElem?_eq_some_iff.mp h).1 nd).mp (h.trans hq.symm))
      · rw [List.take_of_length_le (by omega), ← List.take_of_length_le (l := L) (i := n) (by omega)]
        exact ih (by have := (List.getElem?_eq_some_iff.mp h).1; omega)
  have := e L.length (List.getElem?_eq_some_iff.mp h).1
  rwa [List.take_length] at this
theorem num_no {L : List Int} {z : Int} (h : z ∉ L) : valV (numD L) (Sum.inl z : Key) = none := by
  refine val_no ?_
  rw [numD_keys]
  intro y
  obtain ⟨z', hz', e'⟩ := List.mem_map.mp y
  rw [Sum.inl.inj e'] at hz'
  exact h hz'
end My
set_option Elab.async false
set_option linter.all false
set_option maxRecDepth 100000
set_option maxHeartbeats 4000000
namespace My
open PySem PySem.Spec PyProof.Rows L2
/-- t + (v,) -/
def rCatS : R2 := fun x y H Q => ∃ (a b : Addr) (xs : List V) (v : V), x = .ref a ∧ y = .ref b ∧ H a = some (.tup xs) ∧ H b = some (.tup [v]) ∧ xs ≠ [] ∧ xs.length + 1 ≤ sizeLine ∧ ∀ p, H p = none → Q (.ref p) (upd H p (.tup (xs ++ [v])))
theorem op_catS {X : Cx} : OpR X (binaryOp .Add) rCatS := by
  intro pins s σ H x y v u Q I rx ry h
  obtain ⟨a, b, xs, w, rfl, rfl, ha, hb, hx, hz, q⟩ := h
  exact op_catA pins s σ H _ _ v u Q I rx ry ⟨a, b, xs, [w], rfl, rfl, .inl (.inl ha), .inl (.inl hb), hz, fun e => absurd e hx, fun _ e => absurd e (by simp), fun _ _ p hp => q p hp⟩
def sp_beneath (C : Addr) : Sp := fun vs H Q _ => ∃ (S : Av) (e : Addr) (B : Bks) (L : List Int) (t : Addr) (x : Pl) (m n : Nat), vs = [.ref e, .ref t] ∧ EdAt S H C e B L ∧ okBks B ∧ SpAt H t x (m + 1) ∧ m < 3 ∧ NdOk B m x n ∧ Q (.int (n : Nat)) H
def sp_laid (C : Addr) : Sp := fun vs H Q _ => ∃ (S : Av) (e : Addr) (B : Bks) (L : List Int) (l : Addr) (us : List (Addr × List Key)) (ys : List Pl) (m a b : Nat), vs = [.ref e, .ref l, .int (a : Nat), .int ((b : Nat) - 1)] ∧ EdAt S H C e B L ∧ okBks B ∧ SpL H l us ∧ us.map (·.2) = ys.map (fun y => (plK y).take (m + 1)) ∧ m < 4 ∧ Chn (plOf B) m ys a b ∧ Q (.bl true) H
def sp_allSpots (C : Addr) : Sp := fun vs H Q _ => ∃ (S : Av) (e : Addr) (B : Bks) (L : List Int), vs = [.ref e] ∧ EdAt S H C e B L ∧ okBks B ∧ (plOf B).length ≤ 400 ∧ ∀ l us H', H l = none → Same H H' → SpL H' l us → us.map (·.2) = AK B → Q (.ref l) H'
theorem SpL.same {H H' : Hp} {l : Addr} {us : List (Addr × List Key)} (h : SpL H l us) (s : Same H H') : SpL H' l us := ⟨s _ _ h.1, fun z hz => s _ _ (h.2 z hz)⟩
section
variable {P : Program} {w : World} {K : PySem.W.Frag} {mg : Str → Option Value} {base : Heap}
theorem ok_beneath {C : Addr} (T : Txt K mg) (m_chapters : C8.Met P w K mg base 3 C "chapters" (sp_chaptersE C) []) (m_verses : C8.Met P w K mg base 4 C "verses" (sp_versesE C) []) (m_parts : C8.Met P w K mg base 4 C "parts" (sp_parts C) []) (D : Df K mg "_law_beneath" s__law_beneath ["edition", "spot"]) : Cl P w K mg base 5 "_law_beneath" ["edition", "spot"] (sp_beneath C) := by
  refine ok_of D sc__law_beneath (fun vs H Q E h => ?_) (fun f cdv A outer s H vs Q E hr h => ?_)
  · obtain ⟨S, e, B, L, t, x, m, n, rfl, _⟩ := h
    rfl
  · obtain ⟨S, e, B, L, t, x, m, n, rfl, h, ok, ht, hm, nd, q⟩ := h
    refine ⟨_, (pss_cons (ps_if (pt_cmpR op_eq (pe_callB call_len (by rfl) T.b_len (by decide +kernel) (pa_cons (pv 1) pa_nil)) pe_int (nomark _)) (pss_one (ps_ret (C8.pe_mt m_chapters hr (by decide) (pv 0) (pa_cons (pe_ix ix_tup (pv 1) pe_int (fun _ _ => rfl)) pa_nil)))) pss_nil)
      (pss_cons (ps_if (pt_cmpR op_eq (pe_callB call_len (by rfl) T.b_len (by decide +kernel) (pa_cons (pv 1) pa_nil)) pe_int (nomark _)) (pss_one (ps_ret (C8.pe_mt m_verses hr (by decide) (pv 0) (pa_cons (pe_ix ix_tup (pv 1) pe_int (fun _ _ => rfl)) (pa_cons (pe_ix ix_tup (pv 1) pe_int (fun _ _ => rfl)) pa_nil))))) pss_nil)
      (pss_cons (ps_if (pt_cmpR op_eq (pe_callB call_len (by rfl) T.b_len (by decide +kernel) (pa_cons (pv 1) pa_nil)) pe_int (nomark _)) (pss_one (ps_ret (C8.pe_mt m_parts hr (by decide) (pv 0) (pa_cons (pe_ix ix_tup (pv 1) pe_int (fun _ _ => rfl)) (pa_cons (pe_ix ix_tup (pv 1) pe_int (fun _ _ => rfl)) (pa_cons (pe_ix ix_tup (pv 1) pe_int (fun _ _ => rfl)) pa_nil)))))) pss_nil)
      (pss_one (ps_ret pe_int))))), ?_⟩
    obtain ⟨w, hw⟩ := id h
    obtain ⟨b, j, k, c, mm, o, hn⟩ := nd.nn
    have ht' : H t = some (.tup ([.str (SX.S x.nm), .int x.c, .int x.v, .int x.p].take (m + 1))) := by
      have := ht
      unfold SpAt at this
      rw [plK_kV] at this
      exact this
    rw [show V.str (SX.S x.nm) = .str (SX.S b.1) by rw [o.nm], o.xc, o.xv] at ht'
    rcases (by omega : m = 0 ∨ m = 1 ∨ m = 2) with rfl | rfl | rfl
    · have ht1 : H t = some (.tup [.str (SX.S b.1)]) := ht'
      have hn : n = b.2.length := by omega
      subst hn
      refine ⟨.ref t, rfl, _, _, rfl, .inr ⟨_, .inl (.inl ht1), rfl⟩, rfl, _, rfl, ite2 (fun _ => ?_) fun z => (z (lyes rfl)).elim⟩
      exact ⟨.ref e, rfl, e, _, _, rfl, hw.at_, rfl, .ref t, rfl, t, _, _, _, rfl, rfl, .inl (.inl ht1), atI_nat (j := 0) rfl, S, e, B, L, b, rfl, h, ok, o.hb, q⟩
    · have ht1 : H t = some (.tup [.str (SX.S b.1), .int (1 + (j : Int))]) := ht'
      have hn : n = c.length := by omega
      subst hn
      refine ⟨.ref t, rfl, _, _, rfl, .inr ⟨_, .inl (.inl ht1), rfl⟩, rfl, _, rfl, ite2 (fun z => absurd z (lno (n := 2) (by decide))) fun _ => ?_⟩
      refine ⟨.ref t, rfl, _, _, rfl, .inr ⟨_, .inl (.inl ht1), rfl⟩, rfl, _, rfl, ite2 (fun _ => ?_) fun z => (z (lyes rfl)).elim⟩
      exact ⟨.ref e, rfl, e, _, _, rfl, hw.at_, rfl, .ref t, rfl, t, _, _, _, rfl, rfl, .inl (.inl ht1), atI_nat (j := 0) rfl, .ref t, rfl, t, _, _, _, rfl, rfl, .inl (.inl ht1), atI_nat (j := 1) rfl, S, e, B, L, b, j, c, rfl, h, ok, o.hb, o.hc, q⟩
    · have ht1 : H t = some (.tup [.str (SX.S b.1), .int (1 + (j : Int)), .int (1 + (k : Int))]) := ht'
      have h1 := (((ok.ch b o.hb).2.2 c (List.mem_of_getElem? o.hc)).x mm (List.mem_of_getElem? o.hm)).1
      have hn : ((n : Nat) : Int) = mm := by omega
      rw [hn] at q
      refine ⟨.ref t, rfl, _, _, rfl, .inr ⟨_, .inl (.inl ht1), rfl⟩, rfl, _, rfl, ite2 (fun z => absurd z (lno (n := 3) (by decide))) fun _ => ?_⟩
      refine ⟨.ref t, rfl, _, _, rfl, .inr ⟨_, .inl (.inl ht1), rfl⟩, rfl, _, rfl, ite2 (fun z => absurd z (lno (n := 3) (by decide))) fun _ => ?_⟩
      refine ⟨.ref t, rfl, _, _, rfl, .inr ⟨_, .inl (.inl ht1), rfl⟩, rfl, _, rfl, ite2 (fun _ => ?_) fun z => (z (lyes rfl)).elim⟩
      exact ⟨.ref e, rfl, e, _, _, rfl, hw.at_, rfl, .ref t, rfl, t, _, _, _, rfl, rfl, .inl (.inl ht1), atI_nat (j := 0) rfl, .ref t, rfl, t, _, _, _, rfl, rfl, .inl (.inl ht1), atI_nat (j := 1) rfl, .ref t, rfl, t, _, _, _, rfl, rfl, .inl (.inl ht1), atI_nat (j := 2) rfl, S, e, B, L, b, j, c, k, mm, rfl, h, ok, o.hb, o.hc, o.hm, q⟩
theorem ok_laid {C : Addr} (T : Txt K mg) (m_stretch : C8.Met P w K mg base 6 C "stretch" (sp_stretch C) []) (D : Df K mg "_law_laid" s__law_laid ["edition", "spots", "first", "last"]) : Cl P w K mg base 7 "_law_laid" ["edition", "spots", "first", "last"] (sp_laid C) := by
  refine ok_of D sc__law_laid (fun vs H Q E h => ?_) (fun f cdv A outer s H vs Q E hr h => ?_)
  · obtain ⟨S, e, B, L, l, us, ys, m, a, b, rfl, _⟩ := h
    rfl
  · obtain ⟨S, e, B, L, l, us, ys, m, a, b, rfl, h, ok, ⟨hl, hu⟩, ku, hm, ⟨g, g0, gn, gs⟩, q⟩ := h
    refine ⟨_, (pss_cons (ps_set (i := 4) sc__law_laid.nd rfl (.inl rfl) (pv 2))
      (pss_cons (ps_for PassesOwn.never rfl (pi_list (pv 1)) (pg_name (i := 5) sc__law_laid.nd rfl (.inl rfl))
        (pss_cons (ps_set (i := 6) sc__law_laid.nd rfl (.inl rfl) (C8.pe_mt m_stretch hr (by decide) (pv 0) (pa_cons (pv 5) pa_nil)))
        (pss_cons (ps_if (PW.pt (pw_or (pt_not (pt_val (pe_callB call_isb (by rfl) T.b_isinstance (by decide +kernel) (pa_cons (pv 6) (pa_cons (pe_bltn (v := .ty "tuple") (u := .type "tuple") (by rfl) T.b_tuple (by decide +kernel) rfl) pa_nil))))) (pw_or (pt_cmpR op_ne (pe_callB call_len (by rfl) T.b_len (by decide +kernel) (pa_cons (pv 6) pa_nil)) pe_int (nomark _)) (pw_or (pt_cmpR op_ne (pe_ix ix_tup (pv 6) pe_int (fun _ _ => rfl)) (pv 4) (nomark _)) (pw_or1 (pt_cmpR op_lt (pe_ix ix_tup (pv 6) pe_int (fun _ _ => rfl)) (pv 4) (nomark _))))))) (pss_one (ps_ret pe_bl)) pss_nil)
        (pss_one (ps_set (i := 4) sc__law_laid.nd rfl (.inl rfl) (pe_op op_add (pe_ix ix_tup (pv 6) pe_int (fun _ _ => rfl)) pe_int))))))
      (pss_one (ps_ret (pe_cmpR op_eq (pv 4) (pe_op op_add (pv 3) pe_int) (nomark _)))))), ?_⟩
    obtain ⟨w, hw⟩ := id h
    have lu : us.length = ys.length := by
      have := congrArg List.length ku
      rwa [List.length_map, List.length_map] at this
    refine ⟨_, rfl, ?_⟩
    refine ⟨_, rfl, l, rfl, ⟨_, .inl (.inl hl)⟩, for_it (walk_list (xs := us.map fun z => V.ref z.1)) (fun i σ H' => ∃ (t5 t6 : Option V), σ = [some (.ref e), some (.ref l), some (.int (a : Nat)), some (.int ((b : Nat) - 1)), some (.int (g i : Nat)), t5, t6] ∧ H' = H) ⟨_, _, by rw [g0]; rfl, rfl⟩ (fun i σ H' _ ⟨_, _, _, z⟩ => .inl (.inl (z ▸ hl))) ?_ ?_⟩
    · rintro i y σ H1 H1' hi ⟨t5, t6, rfl, rfl⟩ ⟨rfl, hy⟩
      rw [List.length_map] at hi
      have hui : us[i]? = some us[i] := List.getElem?_eq_getElem hi
      have hyi : ys[i]? = some ys[i] := List.getElem?_eq_getElem (by omega)
      have hy : (us.map fun z => V.ref z.1)[i]? = some y := hy
      rw [List.getElem?_map, hui] at hy
      cases hy
      have key : us[i].2 = (plK ys[i]).take (m + 1) := by
        have h1 : (us.map (·.2))[i]? = some us[i].2 := by
          rw [List.getElem?_map, hui]
          rfl
        rw [ku, List.getElem?_map, hyi] at h1
        exact (Option.some.inj h1).symm
      have ht := hu us[i] (List.getElem_mem _)
      rw [key] at ht
      obtain ⟨hp, hg, hs⟩ := gs i _ hyi
      refine ⟨.ref e, rfl, e, _, _, rfl, hw.at_, rfl, _, rfl, S, e, B, L, us[i].1, ys[i], m, _, rfl, h, ok, hp, ht, hm, hs, fun v hv => ?_⟩
      obtain ⟨p, rfl, np, ep⟩ := hv.pair
      refine ⟨_, rfl, isi_b (b := true) (.tup ep) (by decide +kernel) ⟨_, rfl, ite2 (fun z => absurd (show (!true) = true from z) (by decide)) fun _ => ?_⟩⟩
      refine ⟨_, rfl, _, _, rfl, .inr ⟨_, .inl (.inl ep), rfl⟩, rfl, _, rfl, ite2 (fun z => absurd z (by show ¬ (!decide (V.int ((2 : Nat) : Int) = V.int 2)) = true; decide)) fun _ => ?_⟩
      refine ⟨_, rfl, p, _, 0, _, rfl, rfl, .inl (.inl ep), atI_nat (j := 0) rfl, _, rfl, rfl, _, rfl, ite2 (fun z => absurd z (by simp)) fun _ => ?_⟩
      refine ⟨_, rfl, p, _, 1, _, rfl, rfl, .inl (.inl ep), atI_nat (j := 1) rfl, _, rfl, _, _, rfl, rfl, _, rfl, ite2 (fun z => ?_) fun _ => ?_⟩
      · have := of_decide_eq_true z
        omega
      · exact ⟨_, rfl, p, _, 1, _, rfl, rfl, .inl (.inl ep), atI_nat (j := 1) rfl, _, 1, rfl, rfl, _, some (.ref p), by
          show [some (V.ref e), some (V.ref l), some (V.int (a : Nat)), some (V.int ((b : Nat) - 1)), some (V.int (((g (i + 1) : Nat) : Int) - 1 + 1)), some (V.ref us[i].1), some (V.ref p)] = _
          rw [show ((g (i + 1) : Nat) : Int) - 1 + 1 = (g (i + 1) : Nat) by omega], rfl⟩
    · rintro σ H1 ⟨t5, t6, rfl, rfl⟩
      rw [List.length_map, lu, gn]
      refine ⟨_, rfl, _, rfl, _, _, rfl, rfl, rfl, ?_⟩
      have e1 : decide (V.int ((b : Nat) : Int) = V.int (((b : Nat) : Int) - 1 + 1)) = true := decide_eq_true (by rw [show ((b : Nat) : Int) - 1 + 1 = b by omega])
      show Q (.bl (decide (V.int ((b : Nat) : Int) = V.int (((b : Nat) : Int) - 1 + 1)))) H1
      rw [e1]
      exact q
theorem Chn.nil_lt {P : List Pl} {m : Nat} {ys : List Pl} {a b : Nat} (h : Chn P m ys a b) : a ≤ b := by
  obtain ⟨g, g0, gn, gs⟩ := h
  have key : ∀ i, i ≤ ys.length → a ≤ g i := by
    intro i
    induction i with
    | zero => intro _; omega
    | succ i ih =>
      intro hi
      have := (gs i _ (List.getElem?_eq_getElem (show i < ys.length by omega))).2.1
      have := ih (by omega)
      omega
  have := key _ (Nat.le_refl _)
  omega
theorem NdOk.len {B : Bks} (ok : okBks B) {m n : Nat} {x : Pl} (h : NdOk B m x n) : n ≤ 30 := by
  obtain ⟨b, j, k, c, mm, o, hn⟩ := h.nn
  have h1 := ok.ch b o.hb
  have h2 := h1.2.2 c (List.mem_of_getElem? o.hc)
  have h3 := h2.l1
  have h4 := (h2.x mm (List.mem_of_getElem? o.hm)).2
  omega
theorem tsucc {α : Type} {l : List α} {k : Nat} {a : α} (h : l[k]? = some a) : l.take (k + 1) = l.take k ++ [a] := by
  rw [List.take_add_one, h]
  rfl
/-- the keys beneath -/
def kidK (m : Nat) (z : Pl × Nat) : List (List Key) := (List.range z.2).map fun (i : Nat) => (plK z.1).take (m + 1) ++ [Sum.inl (1 + (i : Int))]
def KmU (B : Bks) : Nat → List (List Key)
  | 0 => Km B 0
  | m + 1 => KmU B m ++ Km B (m + 1)
theorem KmU3 (B : Bks) : KmU B 3 = AK B := rfl
theorem Km_length {B : Bks} (ok : okBks B) (h4 : (plOf B).length ≤ 400) {m : Nat} (hm : m < 4) : (Km B m).length ≤ 6000 := by
  have l0 : (Km B 0).length ≤ 6 := by
    unfold Km
    rw [nodes0, List.length_map, List.length_map, List.length_map]
    exact ok.l1
  have step : ∀ m, m < 3 → (Km B (m + 1)).length ≤ 30 * (Km B m).length := fun m hm => by
    rw [Km_succ B hm]
    have := flat_le (fun z : Pl × Nat => (List.range z.2).map fun (i : Nat) => (plK z.1).take (m + 1) ++ [(Sum.inl (1 + (i : Int)) : Key)]) 30 (Nodes B m) fun z hz => by
      rw [List.length_map, List.length_range]
      exact (nodes_ok ok hm (x := z.1) (n := z.2) hz).len ok
    unfold Km
    rw [List.length_map, List.length_map]
    exact this
  rcases (by omega : m = 0 ∨ m = 1 ∨ m = 2 ∨ m = 3) with rfl | rfl | rfl | rfl
  · omega
  · have s1 : (Km B 1).length ≤ 30 * (Km B 0).length := step 0 (by decide)
    omega
  · have s1 : (Km B 1).length ≤ 30 * (Km B 0).length := step 0 (by decide)
    have s2 : (Km B 2).length ≤ 30 * (Km B 1).length := step 1 (by decide)
    omega
  · unfold Km
    rw [nodes3, List.length_map, List.length_map, List.length_map]
    omega
theorem ok_allSpots {C : Addr} (T : Txt K mg) (m_names : C8.Met P w K mg base 2 C "names" (sp_namesE C) []) (m_size : C8.Met P w K mg base 2 C "size" (sp_size C) []) (m_stretch : C8.Met P w K mg base 6 C "stretch" (sp_stretch C) []) (c__law_laid : Cl P w K mg base 7 "_law_laid" ["edition", "spots", "first", "last"] (sp_laid C)) (c__law_beneath : Cl P w K mg base 5 "_law_beneath" ["edition", "spot"] (sp_beneath C)) (D : Df K mg "_law_all_spots" s__law_all_spots ["edition"]) : Cl P w K mg base 8 "_law_all_spots" ["edition"] (sp_allSpots C) := by
  refine ok_of D sc__law_all_spots (fun vs H Q E h => ?_) (fun f cdv A outer s H vs Q E hr h => ?_)
  · obtain ⟨S, e, B, L, rfl, _⟩ := h
    rfl
  · obtain ⟨S, e, B, L, rfl, h, ok, l4, q⟩ := h
    refine ⟨_, (pss_cons (ps_setLc (i := 1) (own := [("name", 8)]) rfl sc__law_all_spots.nd rfl rfl (sw_true rfl rfl rfl (by decide +kernel)) (pi_list (C8.pe_mt0 m_names hr (by decide) (pv 0))) (blkOk_by (own := [("name", 8)]) (N := N__law_all_spots) (sc := defScope s__law_all_spots) (by decide +kernel)) (fun _ _ _ _ _ => (pg_name (i := 8) sc__law_all_spots.nd rfl (.inl rfl))) (fun _ _ _ _ _ => pts_nil) (fun _ _ _ _ _ => (pe_tup (pa_cons (pv 8) pa_nil))))
      (pss_cons (ps_if (pt_not (pt_val (pe_cl c__law_laid hr (by decide) (by rfl) (pa_cons (pv 0) (pa_cons (pv 1) (pa_cons pe_int (pa_cons (pe_op op_sub (C8.pe_mt0 m_size hr (by decide) (pv 0)) pe_int) pa_nil))))))) (pss_one (ps_ret pe_non)) pss_nil)
      (pss_cons (ps_set (i := 2) sc__law_all_spots.nd rfl (.inl rfl) (pe_callTy call_list_of (by rfl) T.b_list (by decide +kernel) (pa_cons (pv 1) pa_nil)))
      (pss_cons (ps_for PassesOwn.never rfl (pi_range1 (by rfl) T.b_range (pa_cons pe_int pa_nil)) (pg_name (i := 3) sc__law_all_spots.nd rfl (.inl rfl))
        (pss_cons (ps_set (i := 4) sc__law_all_spots.nd rfl (.inl rfl) (pe_lst pa_nil))
        (pss_cons (ps_for PassesOwn.never rfl (pi_list (pv 1)) (pg_name (i := 5) sc__law_all_spots.nd rfl (.inr rfl))
          (pss_cons (ps_setLc (i := 6) (own := [("k", 9)]) rfl sc__law_all_spots.nd rfl rfl (sw_true rfl rfl rfl (by decide +kernel)) (pi_range2 (by rfl) T.b_range (pa_cons pe_int (pa_cons (pe_op op_add (pe_cl c__law_beneath hr (by decide) (by rfl) (pa_cons (pv 0) (pa_cons (pv 5) pa_nil))) pe_int) pa_nil))) (blkOk_by (own := [("k", 9)]) (N := N__law_all_spots) (sc := defScope s__law_all_spots) (by decide +kernel)) (fun _ _ _ _ _ => (pg_name (i := 9) sc__law_all_spots.nd rfl (.inl rfl))) (fun _ _ _ _ _ => pts_nil) (fun _ _ _ _ _ => (pe_op op_catS (pv 5) (pe_tup (pa_cons (pv 9) pa_nil)))))
          (pss_cons (ps_set (i := 7) sc__law_all_spots.nd rfl (.inl rfl) (C8.pe_mt m_stretch hr (by decide) (pv 0) (pa_cons (pv 5) pa_nil)))
          (pss_cons (ps_if (pt_not (pt_val (pe_cl c__law_laid hr (by decide) (by rfl) (pa_cons (pv 0) (pa_cons (pv 6) (pa_cons (pe_ix ix_tup (pv 7) pe_int (fun _ _ => rfl)) (pa_cons (pe_ix ix_tup (pv 7) pe_int (fun _ _ => rfl)) pa_nil))))))) (pss_one (ps_ret pe_non)) pss_nil)
          (pss_one (ps_expr (pe_bm PySem.F.plainAttrs_list PySem.F.slot_list_extend PySem.F.type_list_extend mt_extend (pv 4) (pa_cons (pv 6) pa_nil))))))))
        (pss_cons (ps_set (i := 1) sc__law_all_spots.nd rfl (.inl rfl) (pv 4))
        (pss_one (ps_expr (pe_bm PySem.F.plainAttrs_list PySem.F.slot_list_extend PySem.F.type_list_extend mt_extend (pv 2) (pa_cons (pv 1) pa_nil))))))))
      (pss_one (ps_ret (pv 2))))))), ?_⟩
    obtain ⟨w, hw⟩ := id h
    refine ⟨.ref e, rfl, e, _, _, rfl, hw.at_, rfl, S, e, B, L, rfl, h, fun nl hnl => ?_⟩
    have S1 := same_new (o := .lst (nmV (B.map (·.1)))) hnl
    have en := upd_same (H := H) (a := nl) (o := .lst (nmV (B.map (·.1))))
    generalize upd H nl (.lst (nmV (B.map (·.1)))) = H1 at S1 en ⊢
    refine ⟨nl, rfl, ⟨_, .inl (.inl en)⟩, fun Dl hDl => ?_⟩
    have okl := ok.l1
    refine lc_it (walk_list (xs := nmV (B.map (·.1)))) (fun i H' => ∃ us : List (Addr × List Key), us.length = i ∧ Same H1 H' ∧ SpL H' Dl us ∧ us.map (·.2) = (Km B 0).take i) ⟨[], rfl, same_new hDl, ⟨upd_same, fun z hz => nomatch hz⟩, rfl⟩ (fun i H' _ ⟨_, _, z, _⟩ => .inl (.inl (z _ _ en))) ?_ ?_
    · rintro i y H2' H2 hi ⟨us, lu, S2, ⟨hD, hu⟩, ku⟩ ⟨rfl, hy⟩
      unfold nmV at hi hy
      rw [List.length_map, List.length_map] at hi
      have hbi : B[i]? = some B[i] := List.getElem?_eq_getElem hi
      have hy : ((B.map (·.1)).map fun l => V.str (SX.S l))[i]? = some y := hy
      rw [List.getElem?_map, List.getElem?_map, hbi] at hy
      cases hy
      refine ⟨rfl, _, rfl, by show 1 ≤ sizeLine; decide, fun b hb => ?_⟩
      have S3 := same_new (o := .tup [.str (SX.S B[i].1)]) hb
      have nD : b ≠ Dl := fun z => by
        rw [z, hD] at hb
        cases hb
      refine ⟨_, S3 _ _ hD, by rw [List.length_map]; exact Evl.sz_lt (by omega), us ++ [(b, [Sum.inr (SX.S B[i].1)])], by rw [List.length_append, lu]; rfl, ?_, ⟨by rw [upd_same, List.map_append]; rfl, fun z hz => ?_⟩, ?_⟩
      · exact fun q o e => by
          rw [upd_ne (ne_of_none e hDl)]
          exact S3 _ _ (S2 q o e)
      · rcases List.mem_append.mp hz with hz | hz
        · rw [upd_ne (fun q => by have := hu z hz; rw [q, hD] at this; cases this)]
          exact S3 _ _ (hu z hz)
        · rw [List.mem_singleton.mp hz, upd_ne nD]
          exact upd_same
      · have hk : (Km B 0)[i]? = some [Sum.inr (SX.S B[i].1)] := by
          unfold Km
          rw [nodes0, List.map_map, List.map_map, List.getElem?_map, hbi]
          rfl
        rw [List.map_append, ku, List.take_add_one, hk]
        rfl
    · rintro H2 ⟨us, lu, S2, sl, ku⟩
      have lk0 : (Km B 0).length = B.length := by
        unfold Km
        rw [nodes0, List.length_map, List.length_map, List.length_map]
      have ku : us.map (·.2) = Km B 0 := by
        rw [ku]
        unfold nmV
        rw [List.length_map, List.length_map, ← lk0, List.take_length]
      have S02 := S1.trans S2
      -- laid from 0
      have h2 := h.bt (Same.btS S02)
      refine ⟨.ref e, rfl, .ref Dl, rfl, .ref e, rfl, e, _, _, rfl, S02 _ _ hw.at_, rfl, S, e, B, L, rfl, h2, _, 1, rfl, rfl, S, e, B, L, Dl, us, (Nodes B 0).map (fun (z : Pl × Nat) => z.1), 0, 0, (plOf B).length, rfl, h2, ok, sl, ku, by decide, top_chn ok, _, rfl, ite2 (fun z => absurd z (by decide)) fun _ => ?_⟩
      refine ⟨.ref Dl, rfl, Dl, _, rfl, .inl (.inl (.inl sl.1)), fun fd hfd => ?_⟩
      have S3 := same_new (o := .lst (us.map fun z => V.ref z.1)) hfd
      have fdD : fd ≠ Dl := fun z => by
        rw [z, sl.1] at hfd
        cases hfd
      refine ⟨3, rfl, by decide, by decide, for_range (n := 3) (lo := 0) (fun i σ H' => ∃ (t3 t4 t5 t6 t7 t8 t9 : Option V) (lv : Addr) (us vs : List (Addr × List Key)), σ = [some (.ref e), some (.ref lv), some (.ref fd), t3, t4, t5, t6, t7, t8, t9] ∧ lv ≠ fd ∧ Same H2 H' ∧ SpL H' lv us ∧ us.map (·.2) = Km B i ∧ SpL H' fd vs ∧ vs.map (·.2) = KmU B i) ⟨_, _, _, _, _, _, _, Dl, us, us, rfl, fdD.symm, S3, sl.same S3, ku, ⟨upd_same, fun z hz => S3 _ _ (sl.2 z hz)⟩, ku⟩ ?_ ?_⟩
      · rintro i σ H3 hi ⟨t3, t4, t5, t6, t7, t8, t9, lv, us, vs, rfl, lvf, S3, sl, ku, sv, kv⟩
        have S03 := S02.trans S3
        have h3 := h.bt (Same.btS S03)
        have lKi := Km_length ok l4 (m := i) (by omega)
        have lus : us.length = (Nodes B i).length := by
          have := congrArg List.length ku
          unfold Km at this
          rwa [List.length_map, List.length_map, List.length_map] at this
        refine ⟨Nat.zero_le _, fun bn hbn => ?_⟩
        have S4 := same_new (o := .lst []) hbn
        refine ⟨.ref lv, rfl, lv, rfl, ⟨_, .inl (.inl (S4 _ _ sl.1))⟩, for_it (walk_list (xs := us.map fun z => V.ref z.1)) (fun j σ H' => ∃ (t5 t6 t7 t8 t9 : Option V) (ws : List (Addr × List Key)), σ = [some (.ref e), some (.ref lv), some (.ref fd), some (.int (0 + (i : Int))), some (.ref bn), t5, t6, t7, t8, t9] ∧ Same H3 H' ∧ SpL H' bn ws ∧ ws.map (·.2) = ((Nodes B i).take j).flatMap (kidK i)) ⟨_, _, _, _, _, [], rfl, S4, ⟨upd_same, fun z hz => nomatch hz⟩, rfl⟩ (fun j σ H' _ ⟨_, _, _, _, _, _, _, z, _⟩ => .inl (.inl (z _ _ sl.1))) ?_ ?_⟩
        · rintro j y σ H5' H5 hj ⟨t5, t6, t7, t8, t9, ws, rfl, S5, sw, kw⟩ ⟨rfl, hy⟩
          rw [List.length_map] at hj
          have huj : us[j]? = some us[j] := List.getElem?_eq_getElem hj
          have hnj : (Nodes B i)[j]? = some (Nodes B i)[j] := List.getElem?_eq_getElem (by omega)
          have hy : (us.map fun z => V.ref z.1)[j]? = some y := hy
          rw [List.getElem?_map, huj] at hy
          cases hy
          have hnm : ((Nodes B i)[j].1, (Nodes B i)[j].2) ∈ Nodes B i := List.getElem_mem _
          generalize (Nodes B i)[j] = nd at hnj hnm
          obtain ⟨x, n⟩ := nd
          have ok3 := nodes_ok ok hi hnm
          have n30 := ok3.len ok
          obtain ⟨s, e', se, hst, chn⟩ := ok3.st
          have key : us[j].2 = (plK x).take (i + 1) := by
            have h1 : (us.map (·.2))[j]? = some us[j].2 := by
              rw [List.getElem?_map, huj]
              rfl
            rw [ku] at h1
            unfold Km at h1
            rw [List.getElem?_map, List.getElem?_map, hnj] at h1
            exact (Option.some.inj h1).symm
          have ht := (sl.same S5).2 us[j] (List.getElem_mem _)
          rw [key] at ht
          have S05 := S03.trans S5
          have h5 := h.bt (Same.btS S05)
          have lws : ws.length ≤ 6000 := by
            have := congrArg List.length kw
            rw [List.length_map] at this
            rw [this]
            have h1 := Km_length ok l4 (m := i + 1) (by omega)
            rw [Km_succ B hi] at h1
            have h2 : (Nodes B i).flatMap (kidK i) = ((Nodes B i).take j).flatMap (kidK i) ++ ((Nodes B i).drop j).flatMap (kidK i) := by
              rw [← List.flatMap_append, List.take_append_drop]
            have h1 : ((Nodes B i).flatMap (kidK i)).length ≤ 6000 := h1
            rw [h2, List.length_append] at h1
            omega
          -- the inner ones
          refine ⟨.ref e, rfl, _, rfl, S, e, B, L, us[j].1, x, i, n, rfl, h5, ok, ht, hi, ok3, _, 1, rfl, rfl, 1, (n : Nat) + 1, rfl, ⟨by decide, by decide, by omega, by omega⟩, fun inn hinn => ?_⟩
          have en1 : ((n : Nat) : Int) + 1 - 1 = n := by omega
          rw [show (((n : Nat) : Int) + 1 - 1).toNat = n by omega]
          refine lc_range (lo := 1) (n := n) (fun k H' => ∃ zs : List (Addr × List Key), zs.length = k ∧ Same H5 H' ∧ SpL H' inn zs ∧ zs.map (·.2) = (kidK i (x, n)).take k) ⟨[], rfl, same_new hinn, ⟨upd_same, fun z hz => nomatch hz⟩, rfl⟩ ?_ ?_
          · rintro k H6 hk ⟨zs, lz, S6, ⟨hD, hz⟩, kz⟩
            refine ⟨rfl, _, rfl, _, rfl, by show 1 ≤ sizeLine; decide, fun t1 ht1 => ?_⟩
            have S7 := S6.trans (same_new (o := .tup [.int (1 + (k : Int))]) ht1)
            have ht7 := S7 _ _ ht
            have nx : (((plK x).take (i + 1)).map kV) ≠ [] := fun z => by
              have := congrArg List.length z
              rw [List.length_map, List.length_take, plK_len] at this
              have : min (i + 1) 4 = 0 := this
              omega
            refine ⟨us[j].1, t1, _, _, rfl, rfl, ht7, upd_same, nx, by rw [List.length_map, List.length_take, plK_len]; exact Nat.le_of_lt (Evl.sz_lt (by omega)), fun p hp => ?_⟩
            have S8 := same_new (o := .tup (((plK x).take (i + 1)).map kV ++ [.int (1 + (k : Int))])) hp
            have hD8 := S8 _ _ (same_new (o := .tup [.int (1 + (k : Int))]) ht1 _ _ hD)
            have np : p ≠ inn := fun z => by
              rw [← z, upd_same] at hD8
              cases hD8
            have kk : (kidK i (x, n))[k]? = some ((plK x).take (i + 1) ++ [Sum.inl (1 + (k : Int))]) := by
              unfold kidK
              rw [List.getElem?_map, List.getElem?_range hk]
              rfl
            refine ⟨_, hD8, by rw [List.length_map]; exact Evl.sz_lt (by omega), zs ++ [(p, (plK x).take (i + 1) ++ [Sum.inl (1 + (k : Int))])], by rw [List.length_append, lz]; rfl, ?_, ⟨by rw [upd_same, List.map_append]; rfl, fun z hz' => ?_⟩, ?_⟩
            · exact fun q o e => by
                rw [upd_ne (ne_of_none e hinn)]
                exact S8 _ _ (same_new (o := .tup [.int (1 + (k : Int))]) ht1 _ _ (S6 q o e))
            · rcases List.mem_append.mp hz' with hz' | hz'
              · have hz8 := S8 _ _ (same_new (o := .tup [.int (1 + (k : Int))]) ht1 _ _ (hz z hz'))
                rw [upd_ne (fun q => by rw [q, hD8] at hz8; cases hz8)]
                exact hz8
              · rw [List.mem_singleton.mp hz', upd_ne np, upd_same, List.map_append]
                rfl
            · rw [List.map_append, kz, tsucc kk]
              rfl
          · rintro H6 ⟨zs, lz, S6, sz, kz⟩
            have lkk : (kidK i (x, n)).length = n := by
              unfold kidK
              rw [List.length_map, List.length_range]
            have kz : zs.map (·.2) = kidK i (x, n) := by
              rw [kz]
              exact List.take_of_length_le (Nat.le_of_eq lkk)
            have S06 := S05.trans S6
            have h6 := h.bt (Same.btS S06)
            have ht6 := S6 _ _ ht
            refine ⟨.ref e, rfl, e, _, _, rfl, S06 _ _ hw.at_, rfl, _, rfl, S, e, B, L, us[j].1, x, i, _, rfl, h6, ok, ok3.mem, ht6, by omega, hst, fun v hv => ?_⟩
            obtain ⟨p, rfl, np, ep⟩ := hv.pair
            have kids : zs.map (·.2) = ((List.range n).map (kidP i x)).map fun y => (plK y).take (i + 1 + 1) := by
              rw [kz, List.map_map]
              unfold kidK
              refine List.map_congr_left fun k _ => ?_
              exact (kidP_key hi x k).symm
            refine ⟨_, rfl, _, rfl, _, rfl, p, _, 0, _, rfl, rfl, .inl (.inl ep), atI_nat (j := 0) rfl, _, rfl, p, _, 1, _, rfl, rfl, .inl (.inl ep), atI_nat (j := 1) rfl, S, e, B, L, inn, zs, (List.range n).map (kidP i x), i + 1, s, e', rfl, h6, ok, sz, kids, by omega, chn, _, rfl, ite2 (fun z => absurd z (by decide)) fun _ => ?_⟩
            have sw6 := sw.same S6
            have nbi : bn ≠ inn := fun z => by
              rw [← z, sw.1] at hinn
              cases hinn
            refine ⟨.ref bn, rfl, .inl ⟨rfl, _, .inl (.inl sw6.1)⟩, _, rfl, bn, inn, _, _, rfl, rfl, sw6.1, sz.1, ?_, ?_⟩
            · rw [List.length_map, List.length_map, lz]
              exact Nat.le_of_lt (Evl.sz_lt (by omega))
            · have sep : ∀ {H' : Hp} {l : Addr} {us : List (Addr × List Key)} {z : Addr × List Key}, SpL H' l us → H' z.1 = some (.tup (z.2.map kV)) → z.1 ≠ l := fun sl hz q => by
                rw [q, sl.1] at hz
                cases hz
              refine ⟨_, _, _, _, _, ws ++ zs, rfl, fun b o' eo => ?_, ⟨by rw [upd_same, List.map_append], fun z hz => ?_⟩, ?_⟩
              · rw [upd_ne (ne_of_none eo hbn)]
                exact S6 _ _ (S5 b o' eo)
              · rcases List.mem_append.mp hz with hz | hz
                · have := sw6.2 z hz
                  rw [upd_ne (sep sw6 this)]
                  exact this
                · have := sz.2 z hz
                  rw [upd_ne (sep sw6 this)]
                  exact this
              · rw [List.map_append, kw, kz, List.take_add_one, hnj, List.flatMap_append]
                simp
        · rintro σ H5 ⟨t5, t6, t7, t8, t9, ws, rfl, S5, sw, kw⟩
          rw [List.length_map, lus, List.take_length] at kw
          have kw : ws.map (·.2) = Km B (i + 1) := by
            rw [kw, Km_succ B hi]
            rfl
          have lKs := Km_length ok l4 (m := i + 1) (by omega)
          have lws : ws.length = (Km B (i + 1)).length := by
            rw [← kw, List.length_map]
          have lKU : ∀ m, m < 4 → (KmU B m).length ≤ 6000 * (m + 1) := by
            intro m
            induction m with
            | zero => intro hm; exact Km_length ok l4 hm
            | succ m ih =>
              intro hm
              have h1 := ih (by omega)
              have h2 := Km_length ok l4 (m := m + 1) hm
              show (KmU B m ++ Km B (m + 1)).length ≤ _
              rw [List.length_append]
              omega
          have lvs : vs.length = (KmU B i).length := by
            rw [← kv, List.length_map]
          have lKi' := lKU i (by omega)
          have sv5 := sv.same S5
          have nfb : bn ≠ fd := fun z => by
            rw [z, sv.1] at hbn
            cases hbn
          refine ⟨_, rfl, .ref fd, rfl, .inl ⟨rfl, _, .inl (.inl sv5.1)⟩, _, rfl, fd, bn, _, _, rfl, rfl, sv5.1, sw.1, ?_, ?_⟩
          · rw [List.length_map, List.length_map]
            exact Nat.le_of_lt (Evl.sz_lt (by omega))
          · have sep : ∀ {H' : Hp} {l : Addr} {us : List (Addr × List Key)} {z : Addr × List Key}, SpL H' l us → H' z.1 = some (.tup (z.2.map kV)) → z.1 ≠ l := fun sl hz q => by
              rw [q, sl.1] at hz
              cases hz
            refine ⟨_, _, _, _, _, _, _, bn, ws, vs ++ ws, rfl, nfb, fun b o' eo => ?_, ⟨?_, fun z hz => ?_⟩, kw, ⟨by rw [upd_same, List.map_append], fun z hz => ?_⟩, by rw [List.map_append, kv, kw]; rfl⟩
            · rw [upd_ne (ne_of_none eo hfd)]
              exact S5 _ _ (S3 b o' eo)
            · rw [upd_ne nfb]
              exact sw.1
            · have := sw.2 z hz
              rw [upd_ne (sep sv5 this)]
              exact this
            · rcases List.mem_append.mp hz with hz | hz
              · have := sv5.2 z hz
                rw [upd_ne (sep sv5 this)]
                exact this
              · have := sw.2 z hz
                rw [upd_ne (sep sv5 this)]
                exact this
      · rintro σ H3 ⟨t3, t4, t5, t6, t7, t8, t9, lv, us, vs, rfl, lvf, S3, sl, ku, sv, kv⟩
        exact ⟨.ref fd, rfl, q fd vs H3 (Same.fresh S02 hfd) (S02.trans S3) sv kv⟩
end
end My
set_option Elab.async false
set_option linter.all false
set_option maxRecDepth 100000
set_option maxHeartbeats 4000000
namespace My
open PySem PySem.Spec PyProof.Rows L2
/-- data that can be shown: its depth, its bulk -/
structure Rp0 (d : PyData) (n b : Nat) : Prop where
  a : d.showable = true
  h : d.hasDict = false
  c : d.depth ≤ n
  l : d.leavesShort 13 = true
  k : d.bulk ≤ b
theorem Rp0.ok {d : PyData} {n b : Nat} (h : Rp0 d n b) (hn : n ≤ 64) (hb : b ≤ 2 ^ 20) : RpOk d := ⟨h.a, h.h, Nat.le_trans h.c hn, PyData.shown_fits_bulk (B := 13) (by decide) (by decide) h.l (Nat.le_trans h.k hb)⟩
theorem Rp0.all {n b : Nat} : ∀ {ds : List PyData}, (∀ d ∈ ds, Rp0 d n b) → PyData.showableAll ds = true ∧ PyData.hasDictAll ds = false ∧ PyData.depthAll ds ≤ n ∧ PyData.leavesShortAll 13 ds = true ∧ PyData.bulkAll ds ≤ (b + 1) * ds.length
  | [], _ => ⟨rfl, rfl, Nat.zero_le _, rfl, Nat.zero_le _⟩
  | d :: r, h => by
    obtain ⟨h1, h2, h3, h4, h5⟩ := Rp0.all (ds := r) fun x hx => h x (List.mem_cons_of_mem _ hx)
    have hd := h d (List.mem_cons_self ..)
    refine ⟨?_, ?_, ?_, ?_, ?_⟩
    · show (d.showable && PyData.showableAll r) = true
      rw [hd.a, h1]
      rfl
    · show (d.hasDict || PyData.hasDictAll r) = false
      rw [hd.h, h2]
      rfl
    · show max d.depth (PyData.depthAll r) ≤ n
      have := hd.c
      omega
    · show (d.leavesShort 13 && PyData.leavesShortAll 13 r) = true
      rw [hd.l, h4]
      rfl
    · show d.bulk + 1 + PyData.bulkAll r ≤ _
      have := hd.k
      rw [List.length_cons, Nat.mul_add]
      omega
theorem Rp0.list {n b : Nat} {ds : List PyData} (h : ∀ d ∈ ds, Rp0 d n b) : Rp0 (.list ds) (n + 1) ((b + 1) * ds.length) := by
  obtain ⟨h1, h2, h3, h4, h5⟩ := Rp0.all h
  exact ⟨h1, h2, Nat.succ_le_succ h3, h4, h5⟩
theorem Rp0.tuple {n b : Nat} {ds : List PyData} (h : ∀ d ∈ ds, Rp0 d n b) : Rp0 (.tuple ds) (n + 1) ((b + 1) * ds.length) := by
  obtain ⟨h1, h2, h3, h4, h5⟩ := Rp0.all h
  exact ⟨h1, h2, Nat.succ_le_succ h3, h4, h5⟩
theorem Rp0.mono {d : PyData} {n b n' b' : Nat} (h : Rp0 d n b) (hn : n ≤ n') (hb : b ≤ b') : Rp0 d n' b' := ⟨h.a, h.h, Nat.le_trans h.c hn, h.l, Nat.le_trans h.k hb⟩
theorem smD.rp {d : PyData} (h : smD d) : Rp0 d 0 6 := by
  have h1 := sm_all [d] (fun x hx => by rw [List.mem_singleton.mp hx]; exact h)
  rcases h with ⟨w, rfl, hw, hc⟩ | ⟨z, rfl, z0, z1⟩
  · refine ⟨rfl, rfl, Nat.le_refl _, ?_, ?_⟩
    · show ((SX.S w).cps.toList.all fun c => decide (c < 16 ^ 8)) = true
      rw [List.all_eq_true]
      exact fun c k => decide_eq_true (Nat.lt_trans (hc c k) (by decide))
    · show (SX.S w).cps.size ≤ 6
      have : (SX.S w).cps.size = w.length := SX.S_len w
      omega
  · refine ⟨decide_eq_true (log_small z0 z1), rfl, Nat.le_refl _, decide_eq_true (short_int z0 z1), Nat.zero_le _⟩
/-- the data of a list of spots -/
def spsD (ks : List (List Key)) : PyData := .list (ks.map fun k => .tuple (k.map keyD))
theorem sps_dp {K : PySem.W.Frag} {H : Hp} {l : Addr} {us : List (Addr × List Key)} (h : SpL H l us) : Dp K H (.ref l) (spsD (us.map (·.2))) := by
  have key : ∀ us : List (Addr × List Key), (∀ z ∈ us, H z.1 = some (.tup (z.2.map kV))) → DpAll K H (us.map fun z => V.ref z.1) ((us.map (·.2)).map fun k => PyData.tuple (k.map keyD)) := by
    intro us
    induction us with
    | nil => intro _; exact .nil
    | cons z r ih =>
      intro h
      exact .cons (.tup (.inl (.inl (h z (List.mem_cons_self ..)))) (dp_key _)) (ih fun y hy => h y (List.mem_cons_of_mem _ hy))
  exact .lst (.inl (.inl h.1)) (key us h.2)
theorem around_rp {B : Bks} (ok : okBks B) {x : Pl} (hx : x ∈ plOf B) (p : List Key → Bool) : Rp0 (spsD ((around x).filter p)) 2 ((28 + 1) * 4) := by
  obtain ⟨b, j, k, c, m, o⟩ := mem_plOf hx
  have sm := o.small ok
  have each : ∀ q ∈ (around x).filter p, Rp0 (.tuple (q.map keyD)) 1 28 := fun q hq => by
    have hq := (List.mem_filter.mp hq).1
    have al : ∀ y ∈ plK x, Rp0 (keyD y) 0 6 := fun y hy => by
      unfold plK at hy
      simp only [List.mem_cons, List.not_mem_nil, or_false] at hy
      rcases hy with rfl | rfl | rfl | rfl
      · exact sm.1.rp
      · exact sm.2.1.rp
      · exact sm.2.2.1.rp
      · exact sm.2.2.2.rp
    have lq : q.length ≤ 4 ∧ ∀ y ∈ q, y ∈ plK x := by
      unfold around at hq
      simp only [List.mem_cons, List.not_mem_nil, or_false] at hq
      rcases hq with rfl | rfl | rfl | rfl <;> exact ⟨by rw [List.length_take, plK_len]; omega, fun y hy => List.mem_of_mem_take hy⟩
    refine (Rp0.tuple (n := 0) (b := 6) (ds := q.map keyD) fun d hd => ?_).mono (Nat.le_refl _) ?_
    · obtain ⟨y, hy, rfl⟩ := List.mem_map.mp hd
      exact al y (lq.2 y hy)
    · rw [List.length_map]
      omega
  refine (Rp0.list (n := 1) (b := 28) fun d hd => ?_).mono (Nat.le_refl _) ?_
  · obtain ⟨q, hq, rfl⟩ := List.mem_map.mp hd
    exact each q hq
  · rw [List.length_map]
    have : ((around x).filter p).length ≤ 4 := Nat.le_trans (List.length_filter_le ..) (Nat.le_refl 4)
    omega
/-- lists of spots, one for each part, kept in a list -/
structure Bg (H : Hp) (bg : Addr) (bs : List Addr) (N : Nat) (F : Nat → List (Addr × List Key)) : Prop where
  at_ : H bg = some (.lst (bs.map V.ref))
  len : bs.length = N
  nd : bs.Nodup
  ne : bg ∉ bs
  it : ∀ (n : Nat) (b : Addr), bs[n]? = some b → H b = some (.lst ((F n).map fun z => V.ref z.1))
theorem Bg.same {H H' : Hp} {bg : Addr} {bs : List Addr} {N : Nat} {F : Nat → List (Addr × List Key)} (h : Bg H bg bs N F) (s : Same H H') : Bg H' bg bs N F := ⟨s _ _ h.at_, h.len, h.nd, h.ne, fun n b e => s _ _ (h.it n b e)⟩
/-- one thing more in the list of the part n -/
theorem Bg.put {H : Hp} {bg : Addr} {bs : List Addr} {N : Nat} {F : Nat → List (Addr × List Key)} (h : Bg H bg bs N F) {n : Nat} {b : Addr} (e : bs[n]? = some b) (z : Addr × List Key) :
    Bg (upd H b (.lst (((F n).map fun z => V.ref z.1) ++ [V.ref z.1]))) bg bs N (fun m => if m = n then F m ++ [z] else F m) := by
  have hbm := List.mem_of_getElem? e
  refine ⟨?_, h.len, h.nd, h.ne, fun m b' e' => ?_⟩
  · rw [upd_ne (fun q : bg = b => h.ne (by rw [q]; exact hbm))]
    exact h.at_
  · by_cases q : m = n
    · subst q
      rw [e] at e'
      cases e'
      rw [upd_same, if_pos rfl, List.map_append]
      rfl
    · have nb : b' ≠ b := fun w => by
        rw [w] at e'
        have hm : m < bs.length := (List.getElem?_eq_some_iff.mp e').1
        exact q ((List.getElem?_inj hm h.nd).mp (e'.trans e.symm))
      rw [upd_ne nb, if_neg q]
      exact h.it m b' e'
/-- a change at another object -/
theorem Bg.other {H : Hp} {bg : Addr} {bs : List Addr} {N : Nat} {F : Nat → List (Addr × List Key)} (h : Bg H bg bs N F) {b : Addr} {o : HO} (n1 : b ≠ bg) (n2 : b ∉ bs) : Bg (upd H b o) bg bs N F := ⟨by rw [upd_ne n1.symm]; exact h.at_, h.len, h.nd, h.ne, fun n b' e => by rw [upd_ne (fun q : b' = b => n2 (by rw [← q]; exact List.mem_of_getElem? e))]; exact h.it n b' e⟩
theorem Bg.cong {H : Hp} {bg : Addr} {bs : List Addr} {N : Nat} {F G : Nat → List (Addr × List Key)} (h : Bg H bg bs N F) (e : ∀ n, F n = G n) : Bg H bg bs N G := by
  have : F = G := funext e
  rwa [← this]
def sp_right10 (C : Addr) : Sp := fun vs H Q _ => ∃ (S : Av) (e : Addr) (B : Bks) (L : List Int), vs = [.ref e, .int ((plOf B).length : Nat)] ∧ Occ S H ∧ EdAt S H C e B L ∧ okBks B ∧ (plOf B).length ≤ 400 ∧ L.length = (plOf B).length ∧ L.Nodup ∧ lns L ∧ ∀ H', Same H H' → Q (.bl true) H'
section
variable {P : Program} {w : World} {K : PySem.W.Frag} {mg : Str → Option Value} {base : Heap}
theorem ok_right10 {C : Addr} (T : Txt K mg) (m_size : C8.Met P w K mg base 2 C "size" (sp_size C) []) (m_stretch : C8.Met P w K mg base 6 C "stretch" (sp_stretch C) []) (m_begins : C8.Met P w K mg base 6 C "begins" (sp_begins C) []) (m_ends : C8.Met P w K mg base 6 C "ends" (sp_ends C) []) (m_place : C8.Met P w K mg base 4 C "place" (sp_place C) []) (m_number : C8.Met P w K mg base 7 C "number" (sp_number C) []) (m_verse_of : C8.Met P w K mg base 5 C "verse_of" (sp_verseOf C) []) (m_part_of : C8.Met P w K mg base 3 C "part_of" (sp_partOf K C) []) (m_line_at : C8.Met P w K mg base 4 C "line_at" (sp_lineAt C) []) (c__law_all_spots : Cl P w K mg base 8 "_law_all_spots" ["edition"] (sp_allSpots C)) (D : Df K mg "_law_right" s__law_right ["edition", "size"]) : ClG P w K mg base 9 "_law_right" ["edition", "size"] (sp_right10 C) := by
  refine okG_of D sc__law_right (fun vs H Q E h => ?_) (fun f cdv A outer s H vs Q E hr gd h => ?_)
  · obtain ⟨S, e, B, L, rfl, _⟩ := h
    rfl
  · obtain ⟨S, e, B, L, rfl, ho, h, ok, l4, lL, ndL, hL, q⟩ := h
    refine ⟨_, (pss_cons (ps_set (i := 2) sc__law_right.nd rfl (.inl rfl) (pe_cl c__law_all_spots hr (by decide) (by rfl) (pa_cons (pv 0) pa_nil)))
      (pss_cons (ps_if (PW.pt (pw_or (pt_cmpR op_isN (pv 2) pe_non (nomark _)) (pw_or1 (pt_cmpR op_ne (pe_callB call_repr_ni (by rfl) T.b_repr (by decide +kernel) (pa_cons (C8.pe_mt0 m_size hr (by decide) (pv 0)) pa_nil)) (pe_callB call_repr_ni (by rfl) T.b_repr (by decide +kernel) (pa_cons (pv 1) pa_nil)) (nomark _))))) (pss_one (ps_ret pe_bl)) pss_nil)
      (pss_cons (ps_setLc (i := 3) (own := [("k", 12)]) rfl sc__law_right.nd rfl rfl (sw_true rfl rfl rfl (by decide +kernel)) (pi_range1 (by rfl) T.b_range (pa_cons (pv 1) pa_nil)) (blkOk_by (own := [("k", 12)]) (N := N__law_right) (sc := defScope s__law_right) (by decide +kernel)) (fun _ _ _ _ _ => (pg_name (i := 12) sc__law_right.nd rfl (.inl rfl))) (fun _ _ _ _ _ => pts_nil) (fun _ _ _ _ _ => (pe_lst pa_nil)))
      (pss_cons (ps_setLc (i := 4) (own := [("k", 12)]) rfl sc__law_right.nd rfl rfl (sw_true rfl rfl rfl (by decide +kernel)) (pi_range1 (by rfl) T.b_range (pa_cons (pv 1) pa_nil)) (blkOk_by (own := [("k", 12)]) (N := N__law_right) (sc := defScope s__law_right) (by decide +kernel)) (fun _ _ _ _ _ => (pg_name (i := 12) sc__law_right.nd rfl (.inl rfl))) (fun _ _ _ _ _ => pts_nil) (fun _ _ _ _ _ => (pe_lst pa_nil)))
      (pss_cons (ps_for PassesOwn.never rfl (pi_list (pv 2)) (pg_name (i := 5) sc__law_right.nd rfl (.inl rfl))
        (pss_cons (ps_asg (C8.pe_mt m_stretch hr (by decide) (pv 0) (pa_cons (pv 5) pa_nil)) (pg_tup rfl (pgs_cons (pg_name (i := 6) sc__law_right.nd rfl (.inl rfl)) (pgs_cons (pg_name (i := 7) sc__law_right.nd rfl (.inl rfl)) pgs_nil))))
        (pss_cons (ps_expr (pe_bm PySem.F.plainAttrs_list PySem.F.slot_list_append PySem.F.type_list_append mt_append (pe_ix ix_list (pv 3) (pv 6) (fun _ _ => rfl)) (pa_cons (pv 5) pa_nil)))
        (pss_one (ps_expr (pe_bm PySem.F.plainAttrs_list PySem.F.slot_list_append PySem.F.type_list_append mt_append (pe_ix ix_list (pv 4) (pv 7) (fun _ _ => rfl)) (pa_cons (pv 5) pa_nil)))))))
      (pss_cons (ps_for PassesOwn.never rfl (pi_range1 (by rfl) T.b_range (pa_cons (pv 1) pa_nil)) (pg_name (i := 8) sc__law_right.nd rfl (.inl rfl))
        (pss_cons (ps_for PassesOwn.never rfl (pi_range1 (by rfl) T.b_range (pa_cons pe_int pa_nil)) (pg_name (i := 9) sc__law_right.nd rfl (.inl rfl))
          (pss_cons (ps_set (i := 10) sc__law_right.nd rfl (.inl rfl) (pe_lst (pa_cons (C8.pe_mt m_begins hr (by decide) (pv 0) (pa_cons (pv 8) pa_nil)) (pa_cons (C8.pe_mt m_ends hr (by decide) (pv 0) (pa_cons (pv 8) pa_nil)) pa_nil))))
          (pss_cons (ps_if (pt_cmpR op_ne (pe_callB (call_repr_data gd (hu80 hr)) (by rfl) T.b_repr (by decide +kernel) (pa_cons (pv 10) pa_nil)) (pe_callB (call_repr_data gd (hu80 hr)) (by rfl) T.b_repr (by decide +kernel) (pa_cons (pe_lst (pa_cons (pe_ix ix_list (pv 3) (pv 8) (fun _ _ => rfl)) (pa_cons (pe_ix ix_list (pv 4) (pv 8) (fun _ _ => rfl)) pa_nil))) pa_nil)) (nomark _)) (pss_one (ps_ret pe_bl)) pss_nil)
          (pss_cons (ps_expr (pe_bm0 PySem.F.plainAttrs_list PySem.F.slot_list_pop PySem.F.type_list_pop mt_pop (pe_ix ix_list (pv 10) pe_int (fun _ _ => rfl))))
          (pss_one (ps_expr (pe_bm PySem.F.plainAttrs_list PySem.F.slot_list_append PySem.F.type_list_append mt_append (pe_ix ix_list (pv 10) pe_int (fun _ _ => rfl)) (pa_cons (pe_ix ix_list (pv 10) pe_int (fun _ _ => rfl)) pa_nil))))))))
        (pss_cons (ps_set (i := 11) sc__law_right.nd rfl (.inl rfl) (pe_ix ix_list (pe_ix ix_list (pv 3) (pv 8) (fun _ _ => rfl)) (pe_un un_neg pe_int) (fun _ _ => rfl)))
        (pss_cons (ps_if (PW.pt (pw_or (pt_cmpR op_ne (pe_callB (call_repr_data gd (hu80 hr)) (by rfl) T.b_repr (by decide +kernel) (pa_cons (C8.pe_mt m_place hr (by decide) (pv 0) (pa_cons (pv 8) pa_nil)) pa_nil)) (pe_callB (call_repr_data gd (hu80 hr)) (by rfl) T.b_repr (by decide +kernel) (pa_cons (pv 11) pa_nil)) (nomark _)) (pw_or1 (pt_cmpR op_ne (pe_callB call_repr_ni (by rfl) T.b_repr (by decide +kernel) (pa_cons (C8.pe_mt m_number hr (by decide) (pv 0) (pa_cons (pv 11) pa_nil)) pa_nil)) (pe_callB call_repr_ni (by rfl) T.b_repr (by decide +kernel) (pa_cons (pv 8) pa_nil)) (nomark _))))) (pss_one (ps_ret pe_bl)) pss_nil)
        (pss_one (ps_if (PW.pt (pw_or (pt_cmpR op_ne (pe_callB (call_repr_data gd (hu80 hr)) (by rfl) T.b_repr (by decide +kernel) (pa_cons (C8.pe_mt m_verse_of hr (by decide) (pv 0) (pa_cons (pv 8) pa_nil)) pa_nil)) (pe_callB (call_repr_data gd (hu80 hr)) (by rfl) T.b_repr (by decide +kernel) (pa_cons (pe_slice sl_pl (pv 11) po_none (po_some pe_int)) pa_nil)) (nomark _)) (pw_or1 (pt_cmpR op_ne (C8.pe_mt m_part_of hr (by decide) (pv 0) (pa_cons (C8.pe_mt m_line_at hr (by decide) (pv 0) (pa_cons (pv 8) pa_nil)) pa_nil)) (pv 8) (nomark _))))) (pss_one (ps_ret pe_bl)) pss_nil))))))
      (pss_one (ps_ret pe_bl)))))))), ?_⟩
    obtain ⟨w, hw⟩ := id h
    have lgs : (((plOf B).length : Nat) : Int).natAbs.log2 < 1920 := log_small (by omega) (by omega)
    refine ⟨_, rfl, S, e, B, L, rfl, h, ok, l4, fun sp us H1 hsp S1 su ku => ?_⟩
    refine ⟨_, rfl, rfl, _, rfl, ite2 (fun z => nomatch (show V.ref sp = V.non from of_decide_eq_true z)) fun _ => ?_⟩
    refine ⟨.ref e, rfl, e, _, _, rfl, S1 _ _ hw.at_, rfl, S, e, B, L, rfl, h.bt (Same.btS S1), _, rfl, .inr ⟨_, rfl, lgs⟩, _, rfl, _, rfl, .inr ⟨_, rfl, lgs⟩, rfl, _, rfl, ite2 (fun z => absurd z (by simp)) fun _ => ?_⟩
    -- empty lists
    have mk : ∀ (H0 : Hp) (bg : Addr), H0 bg = none → True := fun _ _ _ => trivial
    refine ⟨_, rfl, _, rfl, by omega, by omega, fun bg hbg => ?_⟩
    have nN : (((plOf B).length : Nat) : Int).toNat = (plOf B).length := Int.toNat_natCast _
    rw [nN]
    refine lc_range (lo := 0) (n := (plOf B).length) (fun i H' => ∃ bs : List Addr, Same H1 H' ∧ (∀ b ∈ bs, H1 b = none) ∧ Bg H' bg bs i (fun _ => [])) ⟨[], same_new hbg, (fun _ z => nomatch z), ⟨upd_same, rfl, .nil, (fun z => nomatch z), fun n b z => by rw [List.getElem?_nil] at z; cases z⟩⟩ ?_ ?_
    · rintro i H2 hi ⟨bs, S2, fr, bb⟩
      refine ⟨rfl, Nat.zero_le _, fun b hb => ?_⟩
      have S3 := same_new (o := .lst []) hb
      have bb3 := bb.same S3
      have nb : b ≠ bg := fun z => by
        rw [z, bb.at_] at hb
        cases hb
      have nm : b ∉ bs := fun z => by
        obtain ⟨n, hn⟩ := List.mem_iff_getElem?.mp z
        have := bb.it n b hn
        rw [hb] at this
        cases this
      refine ⟨_, bb3.at_, by rw [List.length_map, bb.len]; exact Evl.sz_lt (by omega), bs ++ [b], ?_, fun c hc => ?_, ⟨by rw [upd_same, List.map_append]; rfl, by rw [List.length_append, bb.len]; rfl, ?_, ?_, fun n c hc => ?_⟩⟩
      · exact fun q o e => by
          rw [upd_ne (ne_of_none e hbg)]
          exact S3 _ _ (S2 q o e)
      · rcases List.mem_append.mp hc with hc | hc
        · exact fr c hc
        · rw [List.mem_singleton.mp hc]
          exact Same.fresh S2 hb
      · exact List.nodup_append.mpr ⟨bb.nd, (.cons (fun _ z => nomatch z) .nil), fun x hx y hy => by rw [List.mem_singleton.mp hy]; exact fun z => nm (z ▸ hx)⟩
      · intro z
        rcases List.mem_append.mp z with z | z
        · exact bb.ne z
        · exact nb (List.mem_singleton.mp z).symm
      · have nc : c ≠ bg := fun z => by
          have hc' := List.mem_of_getElem? hc
          rcases List.mem_append.mp hc' with hc' | hc'
          · exact bb.ne (z ▸ hc')
          · exact nb ((List.mem_singleton.mp hc').symm.trans z)
        rw [upd_ne nc]
        by_cases hn : n < bs.length
        · rw [List.getElem?_append_left hn] at hc
          exact bb3.it n c hc
        · have hlt := (List.getElem?_eq_some_iff.mp hc).1
          rw [List.length_append, List.length_singleton] at hlt
          have : n = bs.length := by omega
          subst this
          rw [List.getElem?_concat_length] at hc
          cases hc
          exact upd_same
    · rintro H2 ⟨bs, S2, frb, bb⟩
      refine ⟨_, rfl, _, rfl, by omega, by omega, fun en hen => ?_⟩
      rw [nN]
      have nbe : en ≠ bg := fun z => by
        rw [z, bb.at_] at hen
        cases hen
      have neb : en ∉ bs := fun z => by
        obtain ⟨n, hn⟩ := List.mem_iff_getElem?.mp z
        have := bb.it n en hn
        rw [hen] at this
        cases this
      refine lc_range (lo := 0) (n := (plOf B).length) (fun i H' => ∃ es : List Addr, Same H2 H' ∧ (∀ b ∈ es, H2 b = none) ∧ Bg H' en es i (fun _ => [])) ⟨[], same_new hen, (fun _ z => nomatch z), ⟨upd_same, rfl, .nil, (fun z => nomatch z), fun n b z => by rw [List.getElem?_nil] at z; cases z⟩⟩ ?_ ?_
      · rintro i H3 hi ⟨es, S3, fr, bb2⟩
        refine ⟨rfl, Nat.zero_le _, fun b hb => ?_⟩
        have S4 := same_new (o := .lst []) hb
        have bb3 := bb2.same S4
        have nb : b ≠ en := fun z => by
          rw [z, bb2.at_] at hb
          cases hb
        have nm : b ∉ es := fun z => by
          obtain ⟨n, hn⟩ := List.mem_iff_getElem?.mp z
          have := bb2.it n b hn
          rw [hb] at this
          cases this
        refine ⟨_, bb3.at_, by rw [List.length_map, bb2.len]; exact Evl.sz_lt (by omega), es ++ [b], ?_, fun c hc => ?_, ⟨by rw [upd_same, List.map_append]; rfl, by rw [List.length_append, bb2.len]; rfl, ?_, ?_, fun n c hc => ?_⟩⟩
        · exact fun q o e => by
            rw [upd_ne (ne_of_none e hen)]
            exact S4 _ _ (S3 q o e)
        · rcases List.mem_append.mp hc with hc | hc
          · exact fr c hc
          · rw [List.mem_singleton.mp hc]
            exact Same.fresh S3 hb
        · exact List.nodup_append.mpr ⟨bb2.nd, (.cons (fun _ z => nomatch z) .nil), fun x hx y hy => by rw [List.mem_singleton.mp hy]; exact fun z => nm (z ▸ hx)⟩
        · intro z
          rcases List.mem_append.mp z with z | z
          · exact bb2.ne z
          · exact nb (List.mem_singleton.mp z).symm
        · have nc : c ≠ en := fun z => by
            have hc' := List.mem_of_getElem? hc
            rcases List.mem_append.mp hc' with hc' | hc'
            · exact bb2.ne (z ▸ hc')
            · exact nb ((List.mem_singleton.mp hc').symm.trans z)
          rw [upd_ne nc]
          by_cases hn : n < es.length
          · rw [List.getElem?_append_left hn] at hc
            exact bb3.it n c hc
          · have hlt := (List.getElem?_eq_some_iff.mp hc).1
            rw [List.length_append, List.length_singleton] at hlt
            have : n = es.length := by omega
            subst this
            rw [List.getElem?_concat_length] at hc
            cases hc
            exact upd_same
      · rintro H3 ⟨es, S3, fre, bb2⟩
        have S13 := S2.trans S3
        have S03 := S1.trans S13
        have apart : ∀ b ∈ es, b ∉ bs := fun b hb z => by
          obtain ⟨n, hn⟩ := List.mem_iff_getElem?.mp z
          have h1 := fre b hb
          rw [bb.it n b hn] at h1
          cases h1
        have bges : bg ∉ es := fun z => by
          have h1 := fre bg z
          rw [bb.at_] at h1
          cases h1
        have bb := bb.same S3
        have sl : SpL H1 sp us := su
        have lus : us.length ≤ 24000 := by
          have := congrArg List.length ku
          rw [List.length_map] at this
          rw [this]
          unfold AK
          rw [List.length_append, List.length_append, List.length_append]
          have h0 := Km_length ok l4 (m := 0) (by decide)
          have h1 := Km_length ok l4 (m := 1) (by decide)
          have h2 := Km_length ok l4 (m := 2) (by decide)
          have h3 := Km_length ok l4 (m := 3) (by decide)
          omega
        have flen : ∀ (p : Addr × List Key → Bool) (l : List (Addr × List Key)), (l.filter p).length ≤ l.length := fun p l => List.length_filter_le ..
        refine ⟨_, rfl, sp, rfl, ⟨_, .inl (.inl (S13 _ _ sl.1))⟩, for_it (walk_list (xs := us.map fun z => V.ref z.1)) (fun i σ H' => ∃ (t5 t6 t7 t8 t9 t10 t11 t12 : Option V), σ = [some (.ref e), some (.int ((plOf B).length : Nat)), some (.ref sp), some (.ref bg), some (.ref en), t5, t6, t7, t8, t9, t10, t11, t12] ∧ Same H1 H' ∧ Bg H' bg bs (plOf B).length (fun n => (us.take i).filter fun z => decide (fstK (plOf B) z.2 = (n : Int))) ∧ Bg H' en es (plOf B).length (fun n => (us.take i).filter fun z => decide (lstK (plOf B) z.2 = (n : Int)))) ⟨_, _, _, _, _, _, _, _, rfl, S13, bb, bb2⟩ (fun i σ H' _ ⟨_, _, _, _, _, _, _, _, _, z, _⟩ => .inl (.inl (z _ _ sl.1))) ?_ ?_⟩
        · rintro i y σ H4' H4 hi ⟨t5, t6, t7, t8, t9, t10, t11, t12, rfl, S4, bB, bE⟩ ⟨rfl, hy⟩
          rw [List.length_map] at hi
          have hui : us[i]? = some us[i] := List.getElem?_eq_getElem hi
          have hy : (us.map fun z => V.ref z.1)[i]? = some y := hy
          rw [List.getElem?_map, hui] at hy
          cases hy
          have hk : us[i].2 ∈ AK B := by
            rw [← ku]
            exact List.mem_map_of_mem (List.getElem_mem hi)
          obtain ⟨m, x, hm, hxP, hkx⟩ : ∃ m x, m < 4 ∧ x ∈ plOf B ∧ us[i].2 = (plK x).take (m + 1) := by
            unfold AK at hk
            have each : ∀ m, m < 4 → us[i].2 ∈ Km B m → ∃ m x, m < 4 ∧ x ∈ plOf B ∧ us[i].2 = (plK x).take (m + 1) := fun m hm h => by
              obtain ⟨y, hy, e⟩ := List.mem_map.mp h
              exact ⟨m, y, hm, Km_rep ok hm hy, e.symm⟩
            rcases List.mem_append.mp hk with hk | hk
            · rcases List.mem_append.mp hk with hk | hk
              · rcases List.mem_append.mp hk with hk | hk
                · exact each 0 (by decide) hk
                · exact each 1 (by decide) hk
              · exact each 2 (by decide) hk
            · exact each 3 (by decide) hk
          obtain ⟨ix, hix⟩ := List.mem_iff_getElem?.mp hxP
          obtain ⟨a, z, hs, la, lz, _, _⟩ := st_some hix hm
          have ht := (sl.same S4).2 us[i] (List.getElem_mem _)
          rw [hkx] at ht
          have S04 := S1.trans S4
          refine ⟨.ref e, rfl, e, _, _, rfl, S04 _ _ hw.at_, rfl, _, rfl, S, e, B, L, us[i].1, x, m, _, rfl, h.bt (Same.btS S04), ok, hxP, ht, hm, hs, fun v hv => ?_⟩
          obtain ⟨p, rfl, np, ep⟩ := hv.pair
          refine ⟨p, _, rfl, .inl (.inl ep), rfl, _, _, rfl, _, _, rfl, rfl, ?_⟩
          have fa : fstK (plOf B) us[i].2 = (a : Int) := by
            unfold fstK
            rw [hkx, hs]
          have fz : lstK (plOf B) us[i].2 = (z : Int) := by
            unfold lstK
            rw [hkx, hs]
          obtain ⟨ba, hba⟩ : ∃ b, bs[a]? = some b := ⟨_, List.getElem?_eq_getElem (by rw [bB.len]; exact la)⟩
          obtain ⟨ez, hez⟩ : ∃ b, es[z]? = some b := ⟨_, List.getElem?_eq_getElem (by rw [bE.len]; exact lz)⟩
          have ib := bB.it a _ hba
          refine ⟨_, rfl, _, rfl, bg, _, (a : Int), .ref ba, rfl, rfl, .inl (.inl bB.at_), atI_nat (by rw [List.getElem?_map, hba]; rfl), .inl ⟨rfl, _, .inl (.inl ib)⟩, _, rfl, ba, _, _, rfl, rfl, ib, ?_, ?_⟩
          · rw [List.length_map]
            have := flen (fun z => decide (fstK (plOf B) z.2 = (a : Int))) (us.take i)
            rw [List.length_take] at this
            have h2 : min i us.length ≤ us.length := Nat.min_le_right ..
            exact Evl.sz_lt (by omega)
          · have mb : ba ∈ bs := List.mem_of_getElem? hba
            have me : ez ∈ es := List.mem_of_getElem? hez
            have bB1 := bB.put hba us[i]
            have bE1 : Bg (upd H4 ba (.lst ((((us.take i).filter fun z => decide (fstK (plOf B) z.2 = (a : Int))).map fun z => V.ref z.1) ++ [V.ref us[i].1]))) en es (plOf B).length (fun n => (us.take i).filter fun z => decide (lstK (plOf B) z.2 = (n : Int))) := bE.other (fun q => neb (q ▸ mb)) (fun q => apart _ q mb)
            have S5 : Same H1 (upd H4 ba (.lst ((((us.take i).filter fun z => decide (fstK (plOf B) z.2 = (a : Int))).map fun z => V.ref z.1) ++ [V.ref us[i].1]))) := fun b o eo => by
              rw [upd_ne (ne_of_none eo (frb _ mb))]
              exact S4 b o eo
            generalize upd H4 ba (.lst ((((us.take i).filter fun z => decide (fstK (plOf B) z.2 = (a : Int))).map fun z => V.ref z.1) ++ [V.ref us[i].1])) = H5 at bB1 bE1 S5 ⊢
            have ie := bE1.it z _ hez
            refine ⟨_, rfl, _, rfl, en, _, (z : Int), .ref ez, rfl, rfl, .inl (.inl bE1.at_), atI_nat (by rw [List.getElem?_map, hez]; rfl), .inl ⟨rfl, _, .inl (.inl ie)⟩, _, rfl, ez, _, _, rfl, rfl, ie, ?_, ?_⟩
            · rw [List.length_map]
              have := flen (fun y => decide (lstK (plOf B) y.2 = (z : Int))) (us.take i)
              rw [List.length_take] at this
              have h2 : min i us.length ≤ us.length := Nat.min_le_right ..
              exact Evl.sz_lt (by omega)
            · have bE2 := bE1.put hez us[i]
              have bB2 := bB1.other (b := ez) (o := .lst ((((us.take i).filter fun y => decide (lstK (plOf B) y.2 = (z : Int))).map fun z => V.ref z.1) ++ [V.ref us[i].1])) (fun q => bges (q ▸ me)) (fun q => apart _ me q)
              refine ⟨_, _, _, _, _, _, _, _, rfl, fun b o eo => ?_, bB2.cong fun n => ?_, bE2.cong fun n => ?_⟩
              · rw [upd_ne (ne_of_none eo (Same.fresh S2 (fre _ me)))]
                exact S5 b o eo
              · rw [tsucc hui, List.filter_append]
                by_cases hn : n = a
                · rw [if_pos hn, List.filter_cons_of_pos (by simpa [hn] using fa)]
                  rfl
                · rw [if_neg hn, List.filter_cons_of_neg (by rw [fa]; simp; omega), List.filter_nil, List.append_nil]
              · rw [tsucc hui, List.filter_append]
                by_cases hn : n = z
                · rw [if_pos hn, List.filter_cons_of_pos (by simpa [hn] using fz)]
                  rfl
                · rw [if_neg hn, List.filter_cons_of_neg (by rw [fz]; simp; omega), List.filter_nil, List.append_nil]
        · rintro σ H4 ⟨t5, t6, t7, t8, t9, t10, t11, t12, rfl, S4, bB, bE⟩
          rw [List.length_map, List.take_length] at bB bE
          have S04 := S1.trans S4
          have hwN : ∀ {H' : Hp}, Same H4 H' → H' e = some (.ins C w.dx (edF w)) := fun s => s _ _ (S04 _ _ hw.at_)
          refine ⟨_, rfl, _, rfl, by omega, by omega, ?_⟩
          rw [nN]
          refine for_range (lo := 0) (n := (plOf B).length) (fun n σ H' => ∃ (t5 t6 t7 t8 t9 t10 t11 t12 : Option V), σ = [some (.ref e), some (.int ((plOf B).length : Nat)), some (.ref sp), some (.ref bg), some (.ref en), t5, t6, t7, t8, t9, t10, t11, t12] ∧ Same H4 H') ⟨_, _, _, _, _, _, _, _, rfl, Same.refl _⟩ ?_ ?_
          · rintro n σ H5 hn ⟨t5, t6, t7, t8, t9, t10, t11, t12, rfl, S5⟩
            obtain ⟨x, hx⟩ : ∃ x, (plOf B)[n]? = some x := ⟨_, List.getElem?_eq_getElem hn⟩
            have xm : x ∈ plOf B := List.mem_of_getElem? hx
            obtain ⟨b, j, k, c, mm, o⟩ := mem_plOf xm
            have sm := o.small ok
            obtain ⟨bn, hbn⟩ : ∃ b, bs[n]? = some b := ⟨_, List.getElem?_eq_getElem (by rw [bB.len]; exact hn)⟩
            obtain ⟨ez, hez⟩ : ∃ b, es[n]? = some b := ⟨_, List.getElem?_eq_getElem (by rw [bE.len]; exact hn)⟩
            have tup4 : ∀ z ∈ us, H4 z.1 = some (.tup (z.2.map kV)) := (sl.same S4).2
            have slB : SpL H4 bn (us.filter fun z => decide (fstK (plOf B) z.2 = (n : Int))) := ⟨bB.it n bn hbn, fun z hz => tup4 z (List.mem_filter.mp hz).1⟩
            have slE : SpL H4 ez (us.filter fun z => decide (lstK (plOf B) z.2 = (n : Int))) := ⟨bE.it n ez hez, fun z hz => tup4 z (List.mem_filter.mp hz).1⟩
            have kB : (us.filter fun z => decide (fstK (plOf B) z.2 = (n : Int))).map (·.2) = (around x).filter fun k => decide (fstK (plOf B) k = (n : Int)) := by
              rw [← AK_fst ok hx, ← ku, List.filter_map]
              rfl
            have kE : (us.filter fun z => decide (lstK (plOf B) z.2 = (n : Int))).map (·.2) = (around x).filter fun k => decide (lstK (plOf B) k = (n : Int)) := by
              rw [← AK_lst ok hx, ← ku, List.filter_map]
              rfl
            have rp : RpOk (.list [spsD ((around x).filter fun k => decide (fstK (plOf B) k = (n : Int))), spsD ((around x).filter fun k => decide (lstK (plOf B) k = (n : Int)))]) := (Rp0.list (n := 2) (b := (28 + 1) * 4) fun d hd => by
              simp only [List.mem_cons, List.not_mem_nil, or_false] at hd
              rcases hd with rfl | rfl
              · exact around_rp ok xm _
              · exact around_rp ok xm _).ok (by decide) (by show (116 + 1) * 2 ≤ 2 ^ 20; decide)
            have z0 : (0 : Int) + (n : Int) = (n : Nat) := Int.zero_add _
            -- asked twice
            refine ⟨2, rfl, by decide, by decide, for_range (lo := 0) (n := 2) (fun i σ H' => ∃ (t9 t10 t11 t12 : Option V), σ = [some (.ref e), some (.int ((plOf B).length : Nat)), some (.ref sp), some (.ref bg), some (.ref en), t5, t6, t7, some (.int (0 + (n : Int))), t9, t10, t11, t12] ∧ Same H4 H') ⟨_, _, _, _, rfl, S5⟩ ?_ ?_⟩
            · rintro i σ H6 hi ⟨t9, t10, t11, t12, rfl, S6⟩
              have S06 := S04.trans S6
              refine ⟨.ref e, rfl, e, _, _, rfl, hwN S6, rfl, _, rfl, S, e, B, L, n, x, (by rw [z0]; rfl), h.bt (Same.btS S06), hx, fun l1 us1 H7 hl1 S7 sl10 k1 => ?_⟩
              have S67 := S6.trans S7
              refine ⟨.ref e, rfl, e, _, _, rfl, hwN S67, rfl, _, rfl, S, e, B, L, n, x, (by rw [z0]; rfl), h.bt (Same.btS (S04.trans S67)), hx, fun l2 us2 H8 hl2 S8 sl20 k2 => ?_⟩
              have S68 := S67.trans S8
              refine ⟨by show 2 ≤ sizeLine; decide, fun t ht => ?_⟩
              have S9 := same_new (o := .lst [.ref l1, .ref l2]) ht
              have et := upd_same (H := H8) (a := t) (o := .lst [.ref l1, .ref l2])
              generalize upd H8 t (.lst [.ref l1, .ref l2]) = H9 at S9 et ⊢
              have S69 := S68.trans S9
              have sl1 := (sl10.same S8).same S9
              have sl2 := sl20.same S9
              have dp1 : Dp K H9 (.ref t) (.list [spsD ((around x).filter fun k => decide (fstK (plOf B) k = (n : Int))), spsD ((around x).filter fun k => decide (lstK (plOf B) k = (n : Int)))]) := .lst (.inl (.inl et)) (.cons (k1 ▸ sps_dp sl1) (.cons (k2 ▸ sps_dp sl2) .nil))
              refine ⟨_, rfl, t, _, rfl, dp1, rp.a, rp.b, rp.c, rp.e, ?_⟩
              have hb9 := S69 _ _ bB.at_
              have he9 := S69 _ _ bE.at_
              refine ⟨_, rfl, _, rfl, bg, _, _, .ref bn, rfl, rfl, .inl (.inl hb9), (by rw [z0]; exact atI_nat (by rw [List.getElem?_map, hbn]; rfl)), _, rfl, _, rfl, en, _, _, .ref ez, rfl, rfl, .inl (.inl he9), (by rw [z0]; exact atI_nat (by rw [List.getElem?_map, hez]; rfl)), by show 2 ≤ sizeLine; decide, fun t2 ht2 => ?_⟩
              have S10 := same_new (o := .lst [.ref bn, .ref ez]) ht2
              have dp2 : Dp K (upd H9 t2 (.lst [.ref bn, .ref ez])) (.ref t2) (.list [spsD ((around x).filter fun k => decide (fstK (plOf B) k = (n : Int))), spsD ((around x).filter fun k => decide (lstK (plOf B) k = (n : Int)))]) := .lst (.inl (.inl upd_same)) (.cons (kB ▸ sps_dp ((slB.same S69).same S10)) (.cons (kE ▸ sps_dp ((slE.same S69).same S10)) .nil))
              refine ⟨t2, _, rfl, dp2, rp.a, rp.b, rp.c, rp.e, rfl, _, rfl, ite2 (fun z => absurd z (by simp)) fun _ => ?_⟩
              have et' := S10 _ _ et
              have sl1 := sl1.same S10
              have sl2 := sl2.same S10
              have S610 := S69.trans S10
              generalize upd H9 t2 (.lst [.ref bn, .ref ez]) = HA at et' sl1 sl2 S610 ⊢
              -- fresh ones
              have fl1 : H4 l1 = none := Same.fresh S6 hl1
              have fl2 : H4 l2 = none := Same.fresh S67 hl2
              have n12 : l1 ≠ l2 := fun z => by
                have e1 := sl10.1
                rw [z, hl2] at e1
                cases e1
              have ft : H4 t = none := Same.fresh S68 ht
              have lu1 : us1 ≠ [] := fun z => by
                have p4 : decide (fstK (plOf B) ((plK x).take 4) = (n : Int)) = true := decide_eq_true (by unfold fstK; rw [fst4 ok hx])
                rw [z] at k1
                have : (plK x).take 4 ∈ (around x).filter fun k => decide (fstK (plOf B) k = (n : Int)) := List.mem_filter.mpr ⟨by unfold around; simp, p4⟩
                rw [← k1] at this
                cases this
              obtain ⟨yl, hyl⟩ : ∃ y, (us1.map fun z => V.ref z.1)[(us1.map fun z => V.ref z.1).length - 1]? = some y := ⟨_, List.getElem?_eq_getElem (by
                rw [List.length_map]
                have := List.length_pos_iff.mpr lu1
                omega)⟩
              refine ⟨_, rfl, t, _, 0, .ref l1, rfl, rfl, .inl (.inl et'), atI_nat (j := 0) rfl, .inl ⟨rfl, _, .inl (.inl sl1.1)⟩, l1, _, yl, rfl, rfl, sl1.1, hyl, ?_⟩
              have nt1 : t ≠ l1 := fun z => by
                have e1 := (sl10.same S8).1
                rw [← z, ht] at e1
                cases e1
              have nt2 : t ≠ l2 := fun z => by
                have e1 := sl20.1
                rw [← z, ht] at e1
                cases e1
              have lu2 : us2.length ≤ 4 := by
                have := congrArg List.length k2
                rw [List.length_map] at this
                rw [this]
                exact Nat.le_trans (List.length_filter_le ..) (Nat.le_refl 4)
              have et2 : upd HA l1 (.lst (us1.map fun z => V.ref z.1).dropLast) t = some (.lst [.ref l1, .ref l2]) := by rw [upd_ne nt1]; exact et'
              have el2 : upd HA l1 (.lst (us1.map fun z => V.ref z.1).dropLast) l2 = some (.lst (us2.map fun z => V.ref z.1)) := by rw [upd_ne n12.symm]; exact sl2.1
              refine ⟨_, rfl, t, _, 1, .ref l2, rfl, rfl, .inl (.inl et2), atI_nat (j := 1) rfl, .inl ⟨rfl, _, .inl (.inl el2)⟩, _, rfl, t, _, 0, .ref l1, rfl, rfl, .inl (.inl et2), atI_nat (j := 0) rfl, l2, _, _, rfl, rfl, el2, by rw [List.length_map]; exact Evl.sz_lt (by omega), _, _, _, _, rfl, fun bb ob eo => ?_⟩
              rw [upd_ne (ne_of_none eo fl2), upd_ne (ne_of_none eo fl1)]
              exact S610 bb ob eo
            · rintro σ H6 ⟨t9, t10, t11, t12, rfl, S6⟩
              have S06 := S04.trans S6
              have p4 : decide (fstK (plOf B) ((plK x).take 4) = (n : Int)) = true := decide_eq_true (by unfold fstK; rw [fst4 ok hx])
              obtain ⟨r, z, hrz, hz4⟩ : ∃ r z, (us.filter fun z => decide (fstK (plOf B) z.2 = (n : Int))) = r ++ [z] ∧ z.2 = (plK x).take 4 := by
                rcases List.eq_nil_or_concat (us.filter fun z => decide (fstK (plOf B) z.2 = (n : Int))) with hnil | ⟨r, z, hrz⟩
                · rw [hnil] at kB
                  have : (plK x).take 4 ∈ (around x).filter fun k => decide (fstK (plOf B) k = (n : Int)) := List.mem_filter.mpr ⟨by unfold around; simp, p4⟩
                  rw [← kB] at this
                  cases this
                · rw [List.concat_eq_append] at hrz
                  refine ⟨r, z, hrz, ?_⟩
                  have kB' := kB
                  rw [hrz, List.map_append] at kB'
                  unfold around at kB'
                  rw [filt4, if_pos p4] at kB'
                  have := (List.append_inj' kB' rfl).2
                  exact (List.cons.inj this).1
              have hzus : z ∈ us := (List.mem_filter.mp (show z ∈ us.filter _ by rw [hrz]; simp)).1
              have ht := S6 _ _ (tup4 z hzus)
              rw [hz4] at ht
              have ht4 : H6 z.1 = some (.tup [.str (SX.S x.nm), .int x.c, .int x.v, .int x.p]) := ht
              have hb6 := S6 _ _ bB.at_
              have hbn6 : H6 bn = some (.lst ((r.map fun z => V.ref z.1) ++ [.ref z.1])) := by
                have := S6 _ _ (bB.it n bn hbn)
                rw [hrz, List.map_append] at this
                exact this
              refine ⟨_, rfl, _, rfl, bg, _, _, .ref bn, rfl, rfl, .inl (.inl hb6), (by rw [z0]; exact atI_nat (by rw [List.getElem?_map, hbn]; rfl)), 1, rfl, bn, _, -1, .ref z.1, rfl, rfl, .inl (.inl hbn6), atI_last _ _, ?_⟩
              have r4 : RpOk (plD x) := sm_tup (ds := [.str (SX.S x.nm), .int x.c, .int x.v, .int x.p]) (fun d hd => by
                simp only [List.mem_cons, List.not_mem_nil, or_false] at hd
                rcases hd with rfl | rfl | rfl | rfl
                · exact sm.1
                · exact sm.2.1
                · exact sm.2.2.1
                · exact sm.2.2.2) (by show 4 ≤ 1000; decide)
              have r3 : RpOk (.tuple [.str (SX.S x.nm), .int x.c, .int x.v]) := sm_tup (fun d hd => by
                simp only [List.mem_cons, List.not_mem_nil, or_false] at hd
                rcases hd with rfl | rfl | rfl
                · exact sm.1
                · exact sm.2.1
                · exact sm.2.2.1) (by show 3 ≤ 1000; decide)
              have h6 := h.bt (Same.btS S06)
              have lgn : ((n : Nat) : Int).natAbs.log2 < 1920 := log_small (by omega) (by omega)
              -- place
              refine ⟨.ref e, rfl, e, _, _, rfl, hwN S6, rfl, _, rfl, S, e, B, L, n, x, (by rw [z0]; rfl), h6, hx, fun v hv' => ?_⟩
              obtain ⟨tv, rfl, ntv, etv⟩ := hv'.pl
              have d4 : ∀ {H' : Hp} {u : Addr}, H' u = some (.tup [.str (SX.S x.nm), .int x.c, .int x.v, .int x.p]) → Dp K H' (.ref u) (plD x) := fun e => .tup (.inl (.inl e)) (.cons (.str _) (.cons (.int _) (.cons (.int _) (.cons (.int _) .nil))))
              refine ⟨tv, plD x, rfl, d4 etv, r4.a, r4.b, r4.c, r4.e, _, rfl, z.1, plD x, rfl, d4 ht4, r4.a, r4.b, r4.c, r4.e, rfl, _, rfl, ite2 (fun z => absurd z (by simp)) fun _ => ?_⟩
              -- number
              refine ⟨.ref e, rfl, e, _, _, rfl, hwN S6, rfl, _, rfl, S, e, B, L, z.1, x, ((n : Int), (n : Int)), rfl, h6, ok, xm, ht, fst4 ok hx, ?_⟩
              refine ⟨_, rfl, .inr ⟨_, rfl, lgn⟩, _, rfl, _, rfl, .inr ⟨_, rfl, (by rw [z0]; exact lgn)⟩, rfl, _, rfl, ite2 (fun q => absurd q (by rw [z0]; simp)) fun _ => ?_⟩
              -- verse_of
              refine ⟨.ref e, rfl, e, _, _, rfl, hwN S6, rfl, _, rfl, S, e, B, L, n, x, (by rw [z0]; rfl), h6, hx, fun t3 ht3 => ?_⟩
              have S7 := same_new (o := .tup [.str (SX.S x.nm), .int x.c, .int x.v]) ht3
              have d3 : ∀ {H' : Hp} {u : Addr}, H' u = some (.tup [.str (SX.S x.nm), .int x.c, .int x.v]) → Dp K H' (.ref u) (.tuple [.str (SX.S x.nm), .int x.c, .int x.v]) := fun e => .tup (.inl (.inl e)) (.cons (.str _) (.cons (.int _) (.cons (.int _) .nil)))
              refine ⟨t3, _, rfl, d3 upd_same, r3.a, r3.b, r3.c, r3.e, ?_⟩
              refine ⟨_, rfl, 3, rfl, z.1, x, 2, rfl, rfl, rfl, by decide, S7 _ _ ht4, fun b3 H8 S8 hb3 => ?_⟩
              refine ⟨b3, _, rfl, d3 hb3, r3.a, r3.b, r3.c, r3.e, rfl, _, rfl, ite2 (fun z => absurd z (by simp)) fun _ => ?_⟩
              have S68 := S6.trans (S7.trans S8)
              have h8 := h.bt (Same.btS (S04.trans S68))
              -- the line
              have hLn : L[n]? = some L[n] := List.getElem?_eq_getElem (by omega)
              refine ⟨.ref e, rfl, e, _, _, rfl, hwN S68, rfl, .ref e, rfl, e, _, _, rfl, hwN S68, rfl, _, rfl, S, e, B, L, n, L[n], (by rw [z0]; rfl), h8, hn, hLn, S, e, B, L, .int L[n], rfl, h8, .int _, ?_⟩
              have hl := hL L[n] (List.getElem_mem _)
              have ew : whole (.int L[n]) 0 9999 = true := by
                show (decide (0 ≤ L[n]) && decide (L[n] ≤ 9999)) = true
                rw [decide_eq_true hl.1, decide_eq_true (by omega), Bool.true_and]
              have ep : prtV L (.int L[n]) = .int (n : Nat) := by
                show (if whole (.int L[n]) 0 9999 = true then (valV (numD L) (Sum.inl L[n])).getD .non else .non) = _
                rw [if_pos ew, num_val ndL hLn]
                rfl
              rw [ep]
              refine ⟨_, rfl, rfl, _, rfl, ite2 (fun q => absurd q (by rw [z0]; simp)) fun _ => ?_⟩
              exact ⟨_, _, _, _, _, _, _, _, rfl, S68⟩
          · rintro σ H5 ⟨t5, t6, t7, t8, t9, t10, t11, t12, rfl, S5⟩
            exact q H5 (S04.trans S5)
end
end My
set_option Elab.async false
set_option linter.all false
set_option maxRecDepth 100000
set_option maxHeartbeats 4000000
namespace My
open PySem PySem.Spec PyProof.Rows L2
theorem DictF.plusN {S : Av} {H : Hp} {kvs : List (List Key × V)} {f : StF} {D : Addr} (h : DictF S H kvs f) (g : H D = none) : DictF (Plus S D) H kvs f := fun k => by
  have := h k
  cases e : f k with
  | none =>
    rw [e] at this
    exact this
  | some s =>
    rw [e] at this
    obtain ⟨v, h1, h2⟩ := this
    exact ⟨v, h1, h2.plusN g⟩
theorem EdAt.plusN {S : Av} {H : Hp} {C e : Addr} {B : Bks} {L : List Int} {D : Addr} (h : EdAt S H C e B L) (g : H D = none) : EdAt (Plus S D) H C e B L := by
  obtain ⟨w, h⟩ := h
  have ne : ∀ {a : Addr} {o : HO}, H a = some o → ¬ S a → ¬ Plus S D a := fun e n z => z.elim n fun q => by
    rw [q, g] at e
    cases e
  exact ⟨w, { h with n0 := ne h.at_ h.n0, n2 := ne h.h2 h.n2, n3 := ne h.h3 h.n3, n4 := ne h.h4 h.n4, n5 := ne h.h5 h.n5, n6 := ne h.h6 h.n6, h1 := h.h1.plusN g, c2 := ⟨h.c2.k, h.c2.v.plusN g⟩, c3 := h.c3.plusN g, c4 := h.c4.plusN g, h7 := h.h7.plusN g }⟩
/-- an edition and its parts, as the law keeps them -/
def EnE (C : Addr) (S : Av) (H : Hp) (t : Addr) : Prop := ∃ e l B L rows, ¬ S t ∧ H t = some (.tup [.ref e, .ref l]) ∧ EdAt S H C e B L ∧ okBks B ∧ ¬ S l ∧ H l = some (.lst rows) ∧ AtAll S H rows ((plOf B).map plD) ∧ (plOf B).length ≤ 400
theorem EnE.bt {C : Addr} {S : Av} {H H' : Hp} {t : Addr} (h : EnE C S H t) (b : BtS S H H') : EnE C S H' t := by
  obtain ⟨e, l, B, L, rows, n, et, ed, ok, nl, el, a, l4⟩ := h
  exact ⟨e, l, B, L, rows, n, b _ _ n et, ed.bt b, ok, nl, b _ _ nl el, AtAll.bt b _ _ a, l4⟩
theorem EnE.plusN {C : Addr} {S : Av} {H : Hp} {t D : Addr} (h : EnE C S H t) (g : H D = none) : EnE C (Plus S D) H t := by
  obtain ⟨e, l, B, L, rows, n, et, ed, ok, nl, el, a, l4⟩ := h
  have ne : ∀ {a : Addr} {o : HO}, H a = some o → ¬ S a → ¬ Plus S D a := fun e n z => z.elim n fun q => by
    rw [q, g] at e
    cases e
  exact ⟨e, l, B, L, rows, ne et n, et, ed.plusN g, ok, ne el nl, el, a.plusN g, l4⟩
theorem EnE.weak {C : Addr} {S S' : Av} {H : Hp} {t : Addr} (h : EnE C S H t) (W : ∀ b, S' b → S b) : EnE C S' H t := by
  obtain ⟨e, l, B, L, rows, n, et, ed, ok, nl, el, a, l4⟩ := h
  exact ⟨e, l, B, L, rows, fun z => n (W _ z), et, ed.weak W, ok, fun z => nl (W _ z), el, AtAll.weak W _ _ a, l4⟩
/-- a book handed in, made anew -/
def BkX (S : Av) (H : Hp) (x : V) (b : List Nat × List (List Int)) : Prop := ∃ a c xs, x = .ref a ∧ ¬ S a ∧ H a = some (.tup [.str (SX.S b.1), .ref c]) ∧ ¬ S c ∧ H c = some (.lst xs) ∧ xs.length = b.2.length ∧
  ∀ (i : Nat) (y : V) (cc : List Int), xs[i]? = some y → b.2[i]? = some cc → ∃ a', y = .ref a' ∧ ¬ S a' ∧ H a' = some (.tup (cc.map V.int))
theorem BkX.bt {S : Av} {H H' : Hp} {x : V} {b : List Nat × List (List Int)} (h : BkX S H x b) (k : BtS S H H') : BkX S H' x b := by
  obtain ⟨a, c, xs, e, na, ea, nc, ec, l, f⟩ := h
  refine ⟨a, c, xs, e, na, k _ _ na ea, nc, k _ _ nc ec, l, fun i y cc h1 h2 => ?_⟩
  obtain ⟨a', e', n', h'⟩ := f i y cc h1 h2
  exact ⟨a', e', n', k _ _ n' h'⟩
theorem BkX.in_ {S S' : Av} {H : Hp} {x : V} {b : List Nat × List (List Int)} (h : BkX S H x b) (W : ∀ b, S' b → S b) : BkIn S' H x b.1 b.2 := by
  obtain ⟨a, c, xs, e, na, ea, nc, ec, l, f⟩ := h
  refine ⟨a, c, xs, e, ea, .inl ec, l, fun i y cc h1 h2 => ?_⟩
  obtain ⟨a', e', n', h'⟩ := f i y cc h1 h2
  exact ⟨a', e', fun z => n' (W _ z), .inr h'⟩
def sp_pairs2 : Sp := fun vs H Q _ => ∃ (S : Av) (p : Addr) (n : Nat) (z : Int), vs = [.ref p, .int z] ∧ Occ S H ∧ S p ∧ Box n H p ∧ n ≤ 800000 ∧ 1 ≤ z ∧ z ≤ 400 ∧ ∀ (o : Option (List (Int × Int))) (v : V) H', okLn o z → At S H' v (optD o) → Dr p (n + 2000) H H' → Q v H'
section
variable {P : Program} {w : World} {K : PySem.W.Frag} {mg : Str → Option Value} {base : Heap}
theorem Cl.imp {k : Nat} {x : Str} {ps : List Str} {sp sp' : Sp} (c : Cl P w K mg base k x ps sp) (h : ∀ vs H Q E, sp' vs H Q E → sp vs H Q E) : Cl P w K mg base k x ps sp' := by
  obtain ⟨f, fd, F, r⟩ := c
  exact ⟨f, fd, F.imp h, r⟩
theorem pairs2 (c : Cl P w K mg base 3 "_law_pairs" ["box", "size"] sp_pairs) : Cl P w K mg base 3 "_law_pairs" ["box", "size"] sp_pairs2 := c.imp fun vs H Q E h => by
  obtain ⟨S, p, n, z, e, ho, sp, hb, hn, z1, z4, q⟩ := h
  exact ⟨S, p, n, z, e, ho, sp, hb, hn, z1, z4, fun H' D => q none _ _ ⟨by omega, z4, trivial⟩ .non D, fun ps a H' ok hat D => q (some ps) _ _ ⟨by omega, z4, ok⟩ hat D⟩
theorem mem_cutV {xs : List V} {lo hi : Option Int} {x : V} (h : x ∈ cutV xs lo hi) : x ∈ xs := List.mem_of_mem_drop (List.mem_of_mem_take h)
end
end My
set_option Elab.async false
set_option linter.all false
set_option maxRecDepth 100000
set_option maxHeartbeats 4000000
namespace My
open PySem PySem.Spec PyProof.Rows L2
/-- C(e, .., k = v, ..), __init__ keeping sp -/
def MakN (P : Program) (w : World) (K : PySem.W.Frag) (mg : Str → Option Value) (base : Heap) (k : Nat) (x : Str) (C : Addr) (n : Nat) (ks : List Str) (gV : List V → List V → List V) (sp : Sp) : Prop := ∃ f fd ps g, Mk K C f ∧ FnOk P w K mg base CX0 k f fd ps sp ∧ mg x = some (.ref C) ∧ KBn K fd ps (n + 1) ks g gV
theorem pe_mkN {X : Cx} {k j n : Nat} {C : Addr} {ks : List Str} {sp : Sp} {x : Str} {p pos : Pos} {e : Expr} {es : List Expr} {kws : List Keyword} {t tk : TA} {gV : List V → List V → List V} (c : MakN X.prog X.w X.K X.mg X.base k x C n ks gV sp) (hr : Room j X.A) (hk : k + 1 ≤ j) (hg : Gl X x)
    (ha : PA X (e :: es) t) (hkw : PK X kws tk) (hall : (backToKw pos (keywordEach kws X.env)).all (·.1.isSome) = true := by rfl) (hks : (backToKw pos (keywordEach kws X.env)).filterMap (·.1) = ks := by rfl)
    (hdb : (x == ("__debug__" : Str)) = false := by decide) (he : starEach (e :: es) X.env = (false, eval e X.env) :: starEach es X.env := by rfl)
    (hpl : ((backTo pos (starEach (e :: es) X.env)).any (·.1) || (backToKw pos (keywordEach kws X.env)).any (·.1.isNone)) = false := by rfl) :
    PE X (.Call (.Name x p) (e :: es) kws pos) (tMakeN C n ks.length sp gV E0 t tk) := by
  obtain ⟨f, fd, ps, g, M, F, hm, hb⟩ := c
  exact pe_makeN M F (hr.mono hk) hg hm hb pass0 ha hkw hall hks hdb he hpl
/-- one value and one keyword behind self, all of the def's arguments -/
theorem kbn_all {K : PySem.W.Frag} {fd : FuncData} {ps : List Str} {T : Addr} {o : Obj} {its : Array Value} {n m : Nat} {ks : List Str} (lT : K.lookup T = some o) (oT : o.data = .seq its n)
    (h : ∀ us ws : List Value, us.length = m → ws.length = ks.length → ∃ k : Option (Array Value) → Sem (List (Str × Value)), bindArgs fd ⟨us, ks.zip ws⟩ = seqItems? (.ref T) >>= k ∧ k (some its) = pure (ps.zip (us ++ ws))) : KBn K fd ps m ks (fun us ws => us ++ ws) (fun vs zs => vs ++ zs) := by
  refine ⟨fun s us ws X l1 l2 => ?_, fun r1 r2 => r1.append r2⟩
  obtain ⟨k, e1, e2⟩ := h us ws l1 l2
  refine BindsTo.of_looks fun M => ?_
  rw [e1]
  exact looks_items X lT oT (PySem.W.Looks.of_pure e2)
/-! ### the pairs told make the same lines -/
theorem ok_fewestP {L : List Int} (nd : L.Nodup) (hL : lns L) (h4 : L.length ≤ 400) : okPairs (fewest L) (L.length : Nat) := by
  have pos := fewest_pos L
  have ln := lnOf_fewest L
  have sum := lnOf_len (fewest L) pos
  rw [ln] at sum
  have sub : ∀ s ∈ fewest L, ∀ z ∈ lnP s, z ∈ L := fun s hs z hz => by
    rw [← ln]
    exact List.mem_flatMap.mpr ⟨s, hs, hz⟩
  have inP : ∀ s : Int × Int, ∀ z, s.1 ≤ z → z < s.1 + s.2 → z ∈ lnP s := fun s z h0 h1 => by
    unfold lnP
    exact List.mem_map.mpr ⟨(z - s.1).toNat, List.mem_range.mpr (by omega), by omega⟩
  have ls := len_sum ((fewest L).map (·.2)) (fun m hm => by
    obtain ⟨s, hs, rfl⟩ := List.mem_map.mp hm
    exact pos s hs)
  rw [List.length_map, ← sum] at ls
  have nd' := nd
  rw [← ln] at nd'
  unfold lnOf at nd'
  obtain ⟨_, pw⟩ := List.pairwise_flatMap.mp nd'
  refine ⟨by omega, fun s hs => ?_, sum.symm, ?_⟩
  · have p1 := pos s hs
    have f := hL s.1 (sub s hs _ (inP s _ (Int.le_refl _) (by omega)))
    have l := hL (s.1 + s.2 - 1) (sub s hs _ (inP s _ (by omega) (by omega)))
    have : s.2 ≤ 400 := by
      have h1 : (lnP s).length ≤ L.length := by
        have ndp := lnP_nodup s
        obtain ⟨i, hi⟩ := List.mem_iff_getElem?.mp hs
        have : L.length = ((fewest L).flatMap lnP).length := congrArg List.length ln.symm
        rw [this]
        have e : fewest L = (fewest L).take i ++ s :: (fewest L).drop (i + 1) := by
          have hi' : i < (fewest L).length := (List.getElem?_eq_some_iff.mp hi).1
          have h := List.take_append_drop i (fewest L)
          rw [List.drop_eq_getElem_cons hi', (List.getElem?_eq_some_iff.mp hi).2] at h
          exact h.symm
        rw [e, List.flatMap_append, List.flatMap_cons, List.length_append, List.length_append]
        omega
      rw [lnP_len] at h1
      omega
    exact ⟨f.1, p1, this, by omega⟩
  · refine (List.pairwise_iff_getElem.mpr fun i j hi hj hij => ?_)
    have pwij := List.pairwise_iff_getElem.mp pw i j hi hj hij
    have p1 := pos _ (List.getElem_mem hi)
    have p2 := pos _ (List.getElem_mem hj)
    generalize (fewest L)[i] = s at pwij p1
    generalize (fewest L)[j] = t at pwij p2
    show s.1 + s.2 ≤ t.1 ∨ t.1 + t.2 ≤ s.1
    by_cases h1 : s.1 + s.2 ≤ t.1
    · exact .inl h1
    · by_cases h2 : t.1 + t.2 ≤ s.1
      · exact .inr h2
      · exfalso
        by_cases h3 : s.1 ≤ t.1
        · exact pwij t.1 (inP s _ h3 (by omega)) t.1 (inP t _ (Int.le_refl _) (by omega)) rfl
        · exact pwij s.1 (inP s _ (Int.le_refl _) (by omega)) s.1 (inP t _ (by omega) (by omega)) rfl
/-- books told are books handed in -/
theorem told_in {S : Av} {H : Hp} {v : V} {B : Bks} (h : At S H v (bksD B)) : BksIn S H v B := by
  cases h with
  | tup n e k =>
    refine ⟨_, _, rfl, .inr e, by rw [k.len, List.length_map], fun i x b h1 h2 => ?_⟩
    obtain ⟨b', h3, h4⟩ := k.at_ h1
    rw [h2] at h3
    cases h3
    obtain ⟨a, c, zs, e1, n1, e2, n2, e3, k2⟩ := h4.bk
    refine ⟨a, c, zs, e1, e2, .inr e3, by rw [k2.len, List.length_map], fun j y cc h5 h6 => ?_⟩
    obtain ⟨c', h7, h8⟩ := k2.at_ h5
    rw [h6] at h7
    cases h7
    obtain ⟨a', e4, n4, e5⟩ := h8.ch
    exact ⟨a', e4, n4, .inr e5⟩
theorem told_ln {S : Av} {H : Hp} {v : V} {ps : List (Int × Int)} (h : At S H v (.tuple (ps.map prD))) : LnIn H v (some ps) := by
  cases h with
  | tup n e k =>
    refine ⟨_, _, rfl, .inr e, by rw [k.len, List.length_map], fun i x s h1 h2 => ?_⟩
    obtain ⟨s', h3, h4⟩ := k.at_ h1
    rw [h2] at h3
    cases h3
    obtain ⟨t, e1, _, e2⟩ := h4.pair
    exact ⟨t, e1, e2⟩
def sp_law (K : PySem.W.Frag) : Sp := fun vs H Q _ => ∃ (a : Addr) (ns : List Int), vs = [.ref a] ∧ SqL K H a (ns.map V.int) ∧ ns.length ≤ 63 ∧ ∀ H', Q (.bl true) H'
abbrev LV : Nat := 10
section
variable {P : Program} {w : World} {K : PySem.W.Frag} {mg : Str → Option Value} {base : Heap}
theorem ok_law {C f : Addr} {fd : FuncData} (T : Txt K mg) (F : Fun K "law" "law" s_law f fd)
    (c__law_cell : Cl P w K mg base 2 "_law_cell" ["script", "k"] (sp_cell K)) (c__law_box : Cl P w K mg base 2 "_law_box" ["cell"] sp_box)
    (c__law_shapes : Cl P w K mg base 4 "_law_shapes" ["box"] sp_shapes) (c__law_size : Cl P w K mg base 2 "_law_size" ["shapes"] sp_size0) (c__law_names : Cl P w K mg base 3 "_law_names" ["box", "many"] sp_names) (c__law_pairs : Cl P w K mg base 3 "_law_pairs" ["box", "size"] sp_pairs2)
    (c_Edition : C8.Mak P w K mg base 6 "Edition" C (sp_init C) []) (c_EdN : MakN P w K mg base 6 "Edition" C 1 ["lines"] (fun vs zs => vs ++ zs) (sp_init C)) (m_told : C8.Met P w K mg base 3 C "told" (sp_told C) [])
    (c__law_right : ClG P w K mg base 9 "_law_right" ["edition", "size"] (sp_right10 C)) : FnG P w K mg base LV f fd ["script"] (sp_law K) := by
  refine fun_okG F sc_law (fun vs H Q E h => ?_) (fun cdv A outer s H vs Q E hr gd h => ?_)
  · obtain ⟨a, ns, rfl, _⟩ := h
    rfl
  · obtain ⟨a, ns, rfl, hS, hlen, q⟩ := h
    refine ⟨_, (pss_cons (ps_for PassesOwn.never rfl (pi_range1 (by rfl) T.b_range (pa_cons (pe_callB (call_max2 rfl) (by rfl) T.b_max (by decide +kernel) (pa_cons pe_int (pa_cons (pe_callB (call_min2 rfl) (by rfl) T.b_min (by decide +kernel) (pa_cons (pe_callB call_len (by rfl) T.b_len (by decide +kernel) (pa_cons (pv 0) pa_nil)) (pa_cons pe_int pa_nil))) pa_nil))) pa_nil)) (pg_name (i := 1) sc_law.nd rfl (.inl rfl))
        (pss_cons (ps_set (i := 2) sc_law.nd rfl (.inl rfl) (pe_cl c__law_box hr (by decide) (by rfl) (pa_cons (pe_cl c__law_cell hr (by decide) (by rfl) (pa_cons (pv 0) (pa_cons (pv 1) pa_nil))) pa_nil)))
        (pss_cons (ps_set (i := 3) sc_law.nd rfl (.inl rfl) (pe_cl c__law_shapes hr (by decide) (by rfl) (pa_cons (pv 2) pa_nil)))
        (pss_cons (ps_set (i := 4) sc_law.nd rfl (.inl rfl) (pe_cl c__law_size hr (by decide) (by rfl) (pa_cons (pv 3) pa_nil)))
        (pss_cons (ps_setLc (i := 5) (own := [("name", 9), ("chapters", 10)]) rfl sc_law.nd rfl rfl (sw_true rfl rfl rfl (by decide +kernel)) (pi_zip (by rfl) T.b_zip (pa_cons (pe_cl c__law_names hr (by decide) (by rfl) (pa_cons (pv 2) (pa_cons (pe_callB call_len (by rfl) T.b_len (by decide +kernel) (pa_cons (pv 3) pa_nil)) pa_nil))) (pa_cons (pv 3) pa_nil))) (blkOk_by (own := [("name", 9), ("chapters", 10)]) (N := N_law) (sc := defScope s_law) (by decide +kernel)) (fun _ _ _ _ _ => (pg_tupK (K := K) (n := 2) rfl rfl (pgs_cons (pg_name (i := 9) sc_law.nd rfl (.inl rfl)) (pgs_cons (pg_name (i := 10) sc_law.nd rfl (.inl rfl)) pgs_nil)))) (fun _ _ _ _ _ => pts_nil) (fun _ _ _ _ _ => (pe_tup (pa_cons (pv 9) (pa_cons (pv 10) pa_nil)))))
        (pss_cons (ps_set (i := 6) sc_law.nd rfl (.inl rfl) (C8.pe_mk c_Edition hr (by decide) (by rfl) (pa_cons (pv 5) (pa_cons (pe_cl c__law_pairs hr (by decide) (by rfl) (pa_cons (pv 2) (pa_cons (pv 4) pa_nil))) pa_nil))))
        (pss_cons (ps_set (i := 7) sc_law.nd rfl (.inl rfl) (C8.pe_mt0 m_told hr (by decide) (pv 6)))
        (pss_one (ps_for PassesOwn.never rfl (pi_list (pe_lst (pa_cons (pv 6) (pa_cons (pe_mkN c_EdN hr (by decide) (by rfl) (pa_cons (pe_ix ix_tup (pv 7) pe_int (fun _ _ => rfl)) pa_nil) (pk_cons (pe_ix ix_tup (pv 7) pe_int (fun _ _ => rfl)) pk_nil)) (pa_cons (pv 6) pa_nil))))) (pg_name (i := 8) sc_law.nd rfl (.inl rfl))
          (pss_one (ps_if (pt_not (pt_val (pe_clG c__law_right hr gd (by decide) (by rfl) (pa_cons (pv 8) (pa_cons (pv 4) pa_nil))))) (pss_one (ps_ret pe_bl)) pss_nil)))))))))))
      (pss_one (ps_ret pe_bl))), ?_⟩
    refine ⟨.ref a, rfl, _, _, rfl, .inl ⟨_, hS, rfl⟩, _, _, rfl, _, _, rfl, _, rfl, ?_, ?_, for_range (lo := 0) (fun i σ H' => ∃ t1 t2 t3 t4 t5 t6 t7 t8 t9 t10, σ = [some (.ref a), t1, t2, t3, t4, t5, t6, t7, t8, t9, t10] ∧ Same H H') ⟨_, _, _, _, _, _, _, _, _, _, rfl, Same.refl H⟩ ?_ ?_⟩
    · rw [List.length_map]
      split <;> split <;> omega
    · rw [List.length_map]
      split <;> split <;> omega
    · rintro i σ H1 hi ⟨t1, t2, t3, t4, t5, t6, t7, t8, t9, t10, rfl, S1⟩
      -- box
      refine ⟨.ref a, rfl, .int (0 + i), rfl, a, ns, 0 + (i : Int), rfl, S1.seq hS, by omega, fun z => ?_⟩
      refine ⟨z, rfl, fun p H2 hp S2 B2 => ?_⟩
      -- shapes, size
      refine ⟨.ref p, rfl, p, 0, rfl, B2, by decide, fun Sh sh H3 okS hSh D3 => ?_⟩
      refine ⟨.ref sh, rfl, O1 p, sh, Sh, rfl, hSh, okS, fun H4 S4 => ?_⟩
      have hSh4 := At.same hSh S4
      have D4 : Dr p 400 H2 H4 := ⟨D3.box.same S4, D3.bt.trans (Bt.same S4)⟩
      have hShc := hSh4
      cases hShc with
      | lst nsh esh ksh =>
      rename_i sxs
      have ls : sxs.length = Sh.length := by rw [ksh.len, List.length_map]
      have k0 := okS.s0
      have k1 := okS.s1
      -- the books
      refine ⟨.ref p, rfl, .ref sh, rfl, _, sxs.length, rfl, .inl ⟨sxs, .inl (.inl esh), rfl⟩, p, 400, _, rfl, D4.box, by decide, by omega, by omega, fun nms na H5 okN lN hna nna hnm D5 => ?_⟩
      have esh5 := D5.bt sh _ nsh esh
      have D5' : Dr p 500 H2 H5 := D4.trans D5
      refine ⟨.ref sh, rfl, na, sh, _, _, rfl, .inl (.inl hnm), .inl (.inl esh5), fun bk hbk => ?_⟩
      have ksh5 : AtAll (O1 p) H5 sxs (Sh.map bookD) := AtAll.bt D5.bt.s _ _ ksh
      have lNS : nms.length = Sh.length := by omega
      have ln : (nmV nms).length = nms.length := by
        unfold nmV
        rw [List.length_map]
      refine lc_it (walk_zip (n := Sh.length) (xs := nmV nms) (ys := sxs) (by rw [ln]; omega)) (fun i H' => ∃ rows : List V, Same H5 H' ∧ H' bk = some (.lst rows) ∧ rows.length = i ∧ ∀ (j : Nat) (x : V) (b : List Nat × List (List Int)), rows[j]? = some x → (nms.zip Sh)[j]? = some b → ∃ a c xs, x = .ref a ∧ H' a = some (.tup [.str (SX.S b.1), .ref c]) ∧ Rw H5 c xs ∧ ChsIn (O1 p) H5 xs b.2)
        ⟨[], same_new hbk, upd_same, rfl, fun j x b h => by rw [List.getElem?_nil] at h; cases h⟩ (fun i H' _ ⟨rows, z, _⟩ => ⟨.inl (.inl (z _ _ hnm)), .inl (.inl (z _ _ esh5))⟩) ?_ ?_
      · rintro i x H6 H6' hi ⟨rows, S6, h6, lr, hr6⟩ ⟨T6, x6, y6, rfl, hT6, rfl, hx6, hy6⟩
        have hx6 : (nmV nms)[i]? = some x6 := hx6
        have hy6 : sxs[i]? = some y6 := hy6
        obtain ⟨b, hb, hbv⟩ := ksh5.at_ hy6
        have hni : nms[i]? = some nms[i] := List.getElem?_eq_getElem (by omega)
        unfold nmV at hx6
        rw [List.getElem?_map, hni] at hx6
        cases hx6
        obtain ⟨c, xs, rfl, rc, kc⟩ := chs_in hbv
        have zb : (nms.zip Sh)[i]? = some (nms[i], b) := by
          rw [List.getElem?_zip_eq_some]
          exact ⟨hni, hb⟩
        have S7 := same_new (o := .tup [.str (SX.S nms[i]), .ref c]) hT6
        refine ⟨T6, _, rfl, .inl (.inl upd_same), rfl, _, _, rfl, _, _, rfl, rfl, rfl, _, rfl, _, rfl, by show 2 ≤ sizeLine; decide, fun t ht => ?_⟩
        have S8 := S7.trans (same_new (o := .tup [.str (SX.S nms[i]), .ref c]) ht)
        refine ⟨_, S8 _ _ h6, Evl.sz_lt (by omega), rows ++ [.ref t], ?_, upd_same, by rw [List.length_append, lr]; rfl, ?_⟩
        · exact fun q o e => by
            rw [upd_ne (ne_of_none e hbk)]
            exact S8 _ _ (S6 q o e)
        · intro j x b' h1 h2
          by_cases hj : j < i
          · rw [List.getElem?_append_left (by omega)] at h1
            obtain ⟨a2, c2, xs2, e2, f2, g2, k2⟩ := hr6 j x b' h1 h2
            refine ⟨a2, c2, xs2, e2, ?_, g2, k2⟩
            rw [upd_ne (fun z => by rw [z, h6] at f2; cases f2)]
            exact S8 _ _ f2
          · have hlt := (List.getElem?_eq_some_iff.mp h1).1
            rw [List.length_append, List.length_singleton] at hlt
            have e : j = i := by omega
            subst e
            rw [← lr, List.getElem?_concat_length] at h1
            cases h1
            rw [zb] at h2
            cases h2
            refine ⟨t, c, xs, rfl, ?_, rc, kc⟩
            rw [upd_ne (fun z => by rw [z, S7 _ _ h6] at ht; cases ht)]
            exact upd_same
      · rintro H6 ⟨bxs, S6, h6, lr, hr6⟩
        have hB6 : BksIn (O1 p) H6 (.ref bk) (nms.zip Sh) := by
          refine ⟨bk, bxs, rfl, .inl h6, by rw [lr, List.length_zip]; omega, fun i x b h1 h2 => ?_⟩
          obtain ⟨a2, c2, xs2, e2, f2, g2, k2⟩ := hr6 i x b h1 h2
          exact ⟨a2, c2, xs2, e2, f2, g2.same S6, k2.same S6⟩
        have okB := okBks_of okN okS lNS
        have hsz := zip_sum (nms := nms) okS lNS
        rw [← hsz]
        generalize nms.zip Sh = B at hB6 okB hsz ⊢
        have D6 : Dr p 500 H2 H6 := ⟨D5'.box.same S6, D5'.bt.trans (Bt.same S6)⟩
        have sz1 := size_pos okB
        have sz4 : (((plOf B).length : Nat) : Int) ≤ 400 := by
          have e := plOf_sum B fun b hb c hc m hm => by
            have := (((okB.ch b hb).2.2 c hc).x m hm).1
            omega
          rw [e]
          exact okB.prs
        have o6 := occ1 D6.box
        -- the edition
        refine ⟨_, rfl, _, rfl, _, rfl, O1 p, p, 500, _, rfl, o6, rfl, D6.box, by decide, by omega, sz4, fun o v H7 okl hat D7 => ?_⟩
        intro e dx he hdx ne
        have hB7 : BksIn (O1 p) H7 (.ref bk) B := hB6.btp okB D7.bt D6.box
        have o7 := occ1 D7.box
        have S8 : Same H7 (upd (upd H7 dx (.own e)) e (.ins C dx [])) := (same_new hdx).trans (same_new (by rw [upd_ne ne.symm]; exact he))
        obtain ⟨k1', k2', k3'⟩ := lns_ok okl
        refine ⟨O1 p, e, dx, .ref bk, v, B, o, rfl, o7.free he, o7.same S8, upd_same, hB7.same S8, okB, (optD_in hat).same S8, okl, k1', by omega, fun H9 B9 ed9 => ⟨rfl, ?_⟩⟩
        have S9 : Same H7 H9 := fun b ob eo => B9 b ob (ne_of_none eo he) (S8 b ob eo)
        generalize hL : lnsD o ((plOf B).length : Nat) = L at ed9 k1' k2' k3'
        have o9 := o7.same S9
        obtain ⟨w9, hw9⟩ := id ed9
        -- what it tells
        refine ⟨_, rfl, e, _, _, rfl, hw9.at_, rfl, O1 p, e, B, L, rfl, o9, ed9, by omega, fun tv HA SA hv => ?_⟩
        have edA := ed9.bt (Same.btS SA)
        cases hv with
        | tup nt et kt =>
        rename_i t xs
        cases kt with
        | cons h1 k2 =>
        cases k2 with
        | cons h2 k3 =>
        cases k3
        have oA := o9.same SA
        refine ⟨_, rfl, _, rfl, t, _, 0, _, rfl, rfl, .inl (.inl et), atI_nat (j := 0) rfl, _, rfl, t, _, 1, _, rfl, rfl, .inl (.inl et), atI_nat (j := 1) rfl, rfl, rfl, fun e2 dx2 he2 hdx2 ne2 => ?_⟩
        have SB : Same HA (upd (upd HA dx2 (.own e2)) e2 (.ins C dx2 [])) := (same_new hdx2).trans (same_new (by rw [upd_ne ne2.symm]; exact he2))
        have okF := ok_fewestP k1' k3' (by omega)
        have eL : L.length = (plOf B).length := by omega
        have lF : lnsD (some (fewest L)) ((plOf B).length : Nat) = L := lnOf_fewest L
        refine ⟨O1 p, e2, dx2, _, _, B, some (fewest L), rfl, oA.free he2, oA.same SB, upd_same, (told_in h1).same SB, okB, (told_ln h2).same SB, ⟨by omega, sz4, by rw [← eL]; exact okF⟩, (by rw [lF]; exact k1'), (by rw [lF]; exact eL), fun HC BC edC => ⟨rfl, ?_⟩⟩
        rw [lF] at edC
        have SC : Same HA HC := fun b ob eo => BC b ob (ne_of_none eo he2) (SB b ob eo)
        have edA' := edA.bt (Same.btS SC)
        refine ⟨_, rfl, by show 3 ≤ sizeLine; decide, fun ol hol => ?_⟩
        have SD := same_new (o := .lst [.ref e, .ref e2, .ref e]) hol
        have eD := upd_same (H := HC) (a := ol) (o := .lst [.ref e, .ref e2, .ref e])
        generalize upd HC ol (.lst [.ref e, .ref e2, .ref e]) = HD at SD eD ⊢
        have edD := edA'.bt (Same.btS SD)
        have edE := edC.bt (Same.btS SD)
        have oD := (oA.same SC).same SD
        refine ⟨ol, rfl, ⟨_, .inl (.inl eD)⟩, for_it (walk_list (xs := [.ref e, .ref e2, .ref e])) (fun j σ H' => ∃ (t1 t8 t9 t10 : Option V), σ = [some (.ref a), t1, some (.ref p), some (.ref sh), some (.int ((plOf B).length : Nat)), some (.ref bk), some (.ref e), some (.ref t), t8, t9, t10] ∧ Same HD H') ⟨_, _, _, _, rfl, Same.refl _⟩ (fun j σ H' _ ⟨_, _, _, _, _, z⟩ => .inl (.inl (z _ _ eD))) ?_ ?_⟩
        · rintro j x σ HE' HE hj ⟨u1, u8, u9, u10, rfl, SE⟩ ⟨rfl, hx⟩
          obtain ⟨ee, rfl, edX⟩ : ∃ ee, x = .ref ee ∧ EdAt (O1 p) HD C ee B L := by
            have hj3 : j < 3 := hj
            rcases (by omega : j = 0 ∨ j = 1 ∨ j = 2) with rfl | rfl | rfl
            · cases hx
              exact ⟨e, rfl, edD⟩
            · cases hx
              exact ⟨e2, rfl, edE⟩
            · cases hx
              exact ⟨e, rfl, edD⟩
          refine ⟨_, rfl, _, rfl, O1 p, ee, B, L, rfl, oD.same SE, edX.bt (Same.btS SE), okB, by omega, eL, k1', k3', fun HF SF => ?_⟩
          exact ⟨_, rfl, ite2 (fun z => absurd z (by decide)) fun _ => ⟨_, _, _, _, rfl, SE.trans SF⟩⟩
        · rintro σ HE ⟨u1, u8, u9, u10, rfl, SE⟩
          refine ⟨_, _, _, _, _, _, _, _, _, _, rfl, fun b ob eo => ?_⟩
          have n1 := ne_of_none (S1 b ob eo) hp
          exact SE _ _ (SD _ _ (SC _ _ (SA _ _ (S9 _ _ (D7.bt b _ n1 (D6.bt b _ n1 (S2 _ _ (S1 b ob eo))))))))
    · rintro σ H1 ⟨t1, t2, t3, t4, t5, t6, t7, t8, t9, t10, rfl, S1⟩
      exact q H1
end
end My
set_option Elab.async false
set_option linter.all false
set_option maxRecDepth 100000
set_option maxHeartbeats 4000000
namespace My
open PySem PySem.Spec PyProof.Rows L2
theorem all_mk {l : PySem.W.OpenLaw} {w : World} {K : PySem.W.Frag} {h : Heap} {mg : Str → Option Value} {fa f_is_number f_is_whole f_is_name f_is_made_of f_is_tuple f_is_row f_kept_books f_kept_book f_kept_chapter f_check_counts f_kept_lines f_lines_of_pair f_fewest_pairs f_places_in f_stretches_of f__law_cell f__law_box f__law_take f__law_names f__law_shapes f__law_verses f__law_pairs f__law_size f__law_beneath f__law_laid f__law_all_spots f__law_right f_law : Addr} (X : K.In h) (G : h.Ns mainGlobals mg) (hfa : mg "law" = some (.ref fa))
    {od_is_number an_is_number : Option Addr} {sl_is_number : Array (Option Value)} {oc_is_number kV_is_number dc_is_number pm_is_number cd_is_number ct_is_number : Value}
    {od_is_whole an_is_whole : Option Addr} {sl_is_whole : Array (Option Value)} {oc_is_whole kV_is_whole dc_is_whole pm_is_whole cd_is_whole ct_is_whole : Value}
    {od_is_name an_is_name : Option Addr} {sl_is_name : Array (Option Value)} {oc_is_name kV_is_name dc_is_name pm_is_name cd_is_name ct_is_name : Value}
    {od_is_made_of an_is_made_of : Option Addr} {sl_is_made_of : Array (Option Value)} {oc_is_made_of kV_is_made_of dc_is_made_of pm_is_made_of cd_is_made_of ct_is_made_of : Value}
    {od_is_tuple an_is_tuple : Option Addr} {sl_is_tuple : Array (Option Value)} {oc_is_tuple kV_is_tuple dc_is_tuple pm_is_tuple cd_is_tuple ct_is_tuple : Value}
    {od_is_row an_is_row : Option Addr} {sl_is_row : Array (Option Value)} {oc_is_row kV_is_row dc_is_row pm_is_row cd_is_row ct_is_row : Value}
    {od_kept_books an_kept_books : Option Addr} {sl_kept_books : Array (Option Value)} {oc_kept_books kV_kept_books dc_kept_books pm_kept_books cd_kept_books ct_kept_books : Value}
    {od_kept_book an_kept_book : Option Addr} {sl_kept_book : Array (Option Value)} {oc_kept_book kV_kept_book dc_kept_book pm_kept_book cd_kept_book ct_kept_book : Value}
    {od_kept_chapter an_kept_chapter : Option Addr} {sl_kept_chapter : Array (Option Value)} {oc_kept_chapter kV_kept_chapter dc_kept_chapter pm_kept_chapter cd_kept_chapter ct_kept_chapter : Value}
    {od_check_counts an_check_counts : Option Addr} {sl_check_counts : Array (Option Value)} {oc_check_counts kV_check_counts dc_check_counts pm_check_counts cd_check_counts ct_check_counts : Value}
    {od_kept_lines an_kept_lines : Option Addr} {sl_kept_lines : Array (Option Value)} {oc_kept_lines kV_kept_lines dc_kept_lines pm_kept_lines cd_kept_lines ct_kept_lines : Value}
    {od_lines_of_pair an_lines_of_pair : Option Addr} {sl_lines_of_pair : Array (Option Value)} {oc_lines_of_pair kV_lines_of_pair dc_lines_of_pair pm_lines_of_pair cd_lines_of_pair ct_lines_of_pair : Value}
    {od_fewest_pairs an_fewest_pairs : Option Addr} {sl_fewest_pairs : Array (Option Value)} {oc_fewest_pairs kV_fewest_pairs dc_fewest_pairs pm_fewest_pairs cd_fewest_pairs ct_fewest_pairs : Value}
    {od_places_in an_places_in : Option Addr} {sl_places_in : Array (Option Value)} {oc_places_in kV_places_in dc_places_in pm_places_in cd_places_in ct_places_in : Value}
    {od_stretches_of an_stretches_of : Option Addr} {sl_stretches_of : Array (Option Value)} {oc_stretches_of kV_stretches_of dc_stretches_of pm_stretches_of cd_stretches_of ct_stretches_of : Value}
    {od__law_cell an__law_cell : Option Addr} {sl__law_cell : Array (Option Value)} {oc__law_cell kV__law_cell dc__law_cell pm__law_cell cd__law_cell ct__law_cell : Value}
    {od__law_box an__law_box : Option Addr} {sl__law_box : Array (Option Value)} {oc__law_box kV__law_box dc__law_box pm__law_box cd__law_box ct__law_box : Value}
    {od__law_take an__law_take : Option Addr} {sl__law_take : Array (Option Value)} {oc__law_take kV__law_take dc__law_take pm__law_take cd__law_take ct__law_take : Value}
    {od__law_names an__law_names : Option Addr} {sl__law_names : Array (Option Value)} {oc__law_names kV__law_names dc__law_names pm__law_names cd__law_names ct__law_names : Value}
    {od__law_shapes an__law_shapes : Option Addr} {sl__law_shapes : Array (Option Value)} {oc__law_shapes kV__law_shapes dc__law_shapes pm__law_shapes cd__law_shapes ct__law_shapes : Value}
    {od__law_verses an__law_verses : Option Addr} {sl__law_verses : Array (Option Value)} {oc__law_verses kV__law_verses dc__law_verses pm__law_verses cd__law_verses ct__law_verses : Value}
    {od__law_pairs an__law_pairs : Option Addr} {sl__law_pairs : Array (Option Value)} {oc__law_pairs kV__law_pairs dc__law_pairs pm__law_pairs cd__law_pairs ct__law_pairs : Value}
    {od__law_size an__law_size : Option Addr} {sl__law_size : Array (Option Value)} {oc__law_size kV__law_size dc__law_size pm__law_size cd__law_size ct__law_size : Value}
    {od__law_beneath an__law_beneath : Option Addr} {sl__law_beneath : Array (Option Value)} {oc__law_beneath kV__law_beneath dc__law_beneath pm__law_beneath cd__law_beneath ct__law_beneath : Value}
    {od__law_laid an__law_laid : Option Addr} {sl__law_laid : Array (Option Value)} {oc__law_laid kV__law_laid dc__law_laid pm__law_laid cd__law_laid ct__law_laid : Value}
    {od__law_all_spots an__law_all_spots : Option Addr} {sl__law_all_spots : Array (Option Value)} {oc__law_all_spots kV__law_all_spots dc__law_all_spots pm__law_all_spots cd__law_all_spots ct__law_all_spots : Value}
    {od__law_right an__law_right : Option Addr} {sl__law_right : Array (Option Value)} {oc__law_right kV__law_right dc__law_right pm__law_right cd__law_right ct__law_right : Value}
    {od_law an_law : Option Addr} {sl_law : Array (Option Value)} {oc_law kV_law dc_law pm_law cd_law ct_law : Value}
    (a_is_number : PySem.W.nsIn K mainGlobals "is_number" = some (some (.ref f_is_number))) (l_is_number : K.lookup f_is_number = some ⟨oc_is_number, od_is_number, .func (PySem.W.fnOf "is_number" "is_number" (defArgs s_is_number) (defBody s_is_number) (defScope s_is_number) .none kV_is_number dc_is_number pm_is_number an_is_number cd_is_number ct_is_number), sl_is_number⟩) (c_is_number : PySem.W.codeIn K cd_is_number "is_number" = true) (k_is_number : PySem.W.keepIn K (.ref f_is_number) = true)
    (a_is_whole : PySem.W.nsIn K mainGlobals "is_whole" = some (some (.ref f_is_whole))) (l_is_whole : K.lookup f_is_whole = some ⟨oc_is_whole, od_is_whole, .func (PySem.W.fnOf "is_whole" "is_whole" (defArgs s_is_whole) (defBody s_is_whole) (defScope s_is_whole) .none kV_is_whole dc_is_whole pm_is_whole an_is_whole cd_is_whole ct_is_whole), sl_is_whole⟩) (c_is_whole : PySem.W.codeIn K cd_is_whole "is_whole" = true) (k_is_whole : PySem.W.keepIn K (.ref f_is_whole) = true)
    (a_is_name : PySem.W.nsIn K mainGlobals "is_name" = some (some (.ref f_is_name))) (l_is_name : K.lookup f_is_name = some ⟨oc_is_name, od_is_name, .func (PySem.W.fnOf "is_name" "is_name" (defArgs s_is_name) (defBody s_is_name) (defScope s_is_name) .none kV_is_name dc_is_name pm_is_name an_is_name cd_is_name ct_is_name), sl_is_name⟩) (c_is_name : PySem.W.codeIn K cd_is_name "is_name" = true) (k_is_name : PySem.W.keepIn K (.ref f_is_name) = true)
    (a_is_made_of : PySem.W.nsIn K mainGlobals "is_made_of" = some (some (.ref f_is_made_of))) (l_is_made_of : K.lookup f_is_made_of = some ⟨oc_is_made_of, od_is_made_of, .func (PySem.W.fnOf "is_made_of" "is_made_of" (defArgs s_is_made_of) (defBody s_is_made_of) (defScope s_is_made_of) .none kV_is_made_of dc_is_made_of pm_is_made_of an_is_made_of cd_is_made_of ct_is_made_of), sl_is_made_of⟩) (c_is_made_of : PySem.W.codeIn K cd_is_made_of "is_made_of" = true) (k_is_made_of : PySem.W.keepIn K (.ref f_is_made_of) = true)
    (a_is_tuple : PySem.W.nsIn K mainGlobals "is_tuple" = some (some (.ref f_is_tuple))) (l_is_tuple : K.lookup f_is_tuple = some ⟨oc_is_tuple, od_is_tuple, .func (PySem.W.fnOf "is_tuple" "is_tuple" (defArgs s_is_tuple) (defBody s_is_tuple) (defScope s_is_tuple) .none kV_is_tuple dc_is_tuple pm_is_tuple an_is_tuple cd_is_tuple ct_is_tuple), sl_is_tuple⟩) (c_is_tuple : PySem.W.codeIn K cd_is_tuple "is_tuple" = true) (k_is_tuple : PySem.W.keepIn K (.ref f_is_tuple) = true)
    (a_is_row : PySem.W.nsIn K mainGlobals "is_row" = some (some (.ref f_is_row))) (l_is_row : K.lookup f_is_row = some ⟨oc_is_row, od_is_row, .func (PySem.W.fnOf "is_row" "is_row" (defArgs s_is_row) (defBody s_is_row) (defScope s_is_row) .none kV_is_row dc_is_row pm_is_row an_is_row cd_is_row ct_is_row), sl_is_row⟩) (c_is_row : PySem.W.codeIn K cd_is_row "is_row" = true) (k_is_row : PySem.W.keepIn K (.ref f_is_row) = true)
    (a_kept_books : PySem.W.nsIn K mainGlobals "kept_books" = some (some (.ref f_kept_books))) (l_kept_books : K.lookup f_kept_books = some ⟨oc_kept_books, od_kept_books, .func (PySem.W.fnOf "kept_books" "kept_books" (defArgs s_kept_books) (defBody s_kept_books) (defScope s_kept_books) .none kV_kept_books dc_kept_books pm_kept_books an_kept_books cd_kept_books ct_kept_books), sl_kept_books⟩) (c_kept_books : PySem.W.codeIn K cd_kept_books "kept_books" = true) (k_kept_books : PySem.W.keepIn K (.ref f_kept_books) = true)
    (a_kept_book : PySem.W.nsIn K mainGlobals "kept_book" = some (some (.ref f_kept_book))) (l_kept_book : K.lookup f_kept_book = some ⟨oc_kept_book, od_kept_book, .func (PySem.W.fnOf "kept_book" "kept_book" (defArgs s_kept_book) (defBody s_kept_book) (defScope s_kept_book) .none kV_kept_book dc_kept_book pm_kept_book an_kept_book cd_kept_book ct_kept_book), sl_kept_book⟩) (c_kept_book : PySem.W.codeIn K cd_kept_book "kept_book" = true) (k_kept_book : PySem.W.keepIn K (.ref f_kept_book) = true)
    (a_kept_chapter : PySem.W.nsIn K mainGlobals "kept_chapter" = some (some (.ref f_kept_chapter))) (l_kept_chapter : K.lookup f_kept_chapter = some ⟨oc_kept_chapter, od_kept_chapter, .func (PySem.W.fnOf "kept_chapter" "kept_chapter" (defArgs s_kept_chapter) (defBody s_kept_chapter) (defScope s_kept_chapter) .none kV_kept_chapter dc_kept_chapter pm_kept_chapter an_kept_chapter cd_kept_chapter ct_kept_chapter), sl_kept_chapter⟩) (c_kept_chapter : PySem.W.codeIn K cd_kept_chapter "kept_chapter" = true) (k_kept_chapter : PySem.W.keepIn K (.ref f_kept_chapter) = true)
    (a_check_counts : PySem.W.nsIn K mainGlobals "check_counts" = some (some (.ref f_check_counts))) (l_check_counts : K.lookup f_check_counts = some ⟨oc_check_counts, od_check_counts, .func (PySem.W.fnOf "check_counts" "check_counts" (defArgs s_check_counts) (defBody s_check_counts) (defScope s_check_counts) .none kV_check_counts dc_check_counts pm_check_counts an_check_counts cd_check_counts ct_check_counts), sl_check_counts⟩) (c_check_counts : PySem.W.codeIn K cd_check_counts "check_counts" = true) (k_check_counts : PySem.W.keepIn K (.ref f_check_counts) = true)
    (a_kept_lines : PySem.W.nsIn K mainGlobals "kept_lines" = some (some (.ref f_kept_lines))) (l_kept_lines : K.lookup f_kept_lines = some ⟨oc_kept_lines, od_kept_lines, .func (PySem.W.fnOf "kept_lines" "kept_lines" (defArgs s_kept_lines) (defBody s_kept_lines) (defScope s_kept_lines) .none kV_kept_lines dc_kept_lines pm_kept_lines an_kept_lines cd_kept_lines ct_kept_lines), sl_kept_lines⟩) (c_kept_lines : PySem.W.codeIn K cd_kept_lines "kept_lines" = true) (k_kept_lines : PySem.W.keepIn K (.ref f_kept_lines) = true)
    (a_lines_of_pair : PySem.W.nsIn K mainGlobals "lines_of_pair" = some (some (.ref f_lines_of_pair))) (l_lines_of_pair : K.lookup f_lines_of_pair = some ⟨oc_lines_of_pair, od_lines_of_pair, .func (PySem.W.fnOf "lines_of_pair" "lines_of_pair" (defArgs s_lines_of_pair) (defBody s_lines_of_pair) (defScope s_lines_of_pair) .none kV_lines_of_pair dc_lines_of_pair pm_lines_of_pair an_lines_of_pair cd_lines_of_pair ct_lines_of_pair), sl_lines_of_pair⟩) (c_lines_of_pair : PySem.W.codeIn K cd_lines_of_pair "lines_of_pair" = true) (k_lines_of_pair : PySem.W.keepIn K (.ref f_lines_of_pair) = true)
    (a_fewest_pairs : PySem.W.nsIn K mainGlobals "fewest_pairs" = some (some (.ref f_fewest_pairs))) (l_fewest_pairs : K.lookup f_fewest_pairs = some ⟨oc_fewest_pairs, od_fewest_pairs, .func (PySem.W.fnOf "fewest_pairs" "fewest_pairs" (defArgs s_fewest_pairs) (defBody s_fewest_pairs) (defScope s_fewest_pairs) .none kV_fewest_pairs dc_fewest_pairs pm_fewest_pairs an_fewest_pairs cd_fewest_pairs ct_fewest_pairs), sl_fewest_pairs⟩) (c_fewest_pairs : PySem.W.codeIn K cd_fewest_pairs "fewest_pairs" = true) (k_fewest_pairs : PySem.W.keepIn K (.ref f_fewest_pairs) = true)
    (a_places_in : PySem.W.nsIn K mainGlobals "places_in" = some (some (.ref f_places_in))) (l_places_in : K.lookup f_places_in = some ⟨oc_places_in, od_places_in, .func (PySem.W.fnOf "places_in" "places_in" (defArgs s_places_in) (defBody s_places_in) (defScope s_places_in) .none kV_places_in dc_places_in pm_places_in an_places_in cd_places_in ct_places_in), sl_places_in⟩) (c_places_in : PySem.W.codeIn K cd_places_in "places_in" = true) (k_places_in : PySem.W.keepIn K (.ref f_places_in) = true)
    (a_stretches_of : PySem.W.nsIn K mainGlobals "stretches_of" = some (some (.ref f_stretches_of))) (l_stretches_of : K.lookup f_stretches_of = some ⟨oc_stretches_of, od_stretches_of, .func (PySem.W.fnOf "stretches_of" "stretches_of" (defArgs s_stretches_of) (defBody s_stretches_of) (defScope s_stretches_of) .none kV_stretches_of dc_stretches_of pm_stretches_of an_stretches_of cd_stretches_of ct_stretches_of), sl_stretches_of⟩) (c_stretches_of : PySem.W.codeIn K cd_stretches_of "stretches_of" = true) (k_stretches_of : PySem.W.keepIn K (.ref f_stretches_of) = true)
    (a__law_cell : PySem.W.nsIn K mainGlobals "_law_cell" = some (some (.ref f__law_cell))) (l__law_cell : K.lookup f__law_cell = some ⟨oc__law_cell, od__law_cell, .func (PySem.W.fnOf "_law_cell" "_law_cell" (defArgs s__law_cell) (defBody s__law_cell) (defScope s__law_cell) .none kV__law_cell dc__law_cell pm__law_cell an__law_cell cd__law_cell ct__law_cell), sl__law_cell⟩) (c__law_cell : PySem.W.codeIn K cd__law_cell "_law_cell" = true) (k__law_cell : PySem.W.keepIn K (.ref f__law_cell) = true)
    (a__law_box : PySem.W.nsIn K mainGlobals "_law_box" = some (some (.ref f__law_box))) (l__law_box : K.lookup f__law_box = some ⟨oc__law_box, od__law_box, .func (PySem.W.fnOf "_law_box" "_law_box" (defArgs s__law_box) (defBody s__law_box) (defScope s__law_box) .none kV__law_box dc__law_box pm__law_box an__law_box cd__law_box ct__law_box), sl__law_box⟩) (c__law_box : PySem.W.codeIn K cd__law_box "_law_box" = true) (k__law_box : PySem.W.keepIn K (.ref f__law_box) = true)
    (a__law_take : PySem.W.nsIn K mainGlobals "_law_take" = some (some (.ref f__law_take))) (l__law_take : K.lookup f__law_take = some ⟨oc__law_take, od__law_take, .func (PySem.W.fnOf "_law_take" "_law_take" (defArgs s__law_take) (defBody s__law_take) (defScope s__law_take) .none kV__law_take dc__law_take pm__law_take an__law_take cd__law_take ct__law_take), sl__law_take⟩) (c__law_take : PySem.W.codeIn K cd__law_take "_law_take" = true) (k__law_take : PySem.W.keepIn K (.ref f__law_take) = true)
    (a__law_names : PySem.W.nsIn K mainGlobals "_law_names" = some (some (.ref f__law_names))) (l__law_names : K.lookup f__law_names = some ⟨oc__law_names, od__law_names, .func (PySem.W.fnOf "_law_names" "_law_names" (defArgs s__law_names) (defBody s__law_names) (defScope s__law_names) .none kV__law_names dc__law_names pm__law_names an__law_names cd__law_names ct__law_names), sl__law_names⟩) (c__law_names : PySem.W.codeIn K cd__law_names "_law_names" = true) (k__law_names : PySem.W.keepIn K (.ref f__law_names) = true)
    (a__law_shapes : PySem.W.nsIn K mainGlobals "_law_shapes" = some (some (.ref f__law_shapes))) (l__law_shapes : K.lookup f__law_shapes = some ⟨oc__law_shapes, od__law_shapes, .func (PySem.W.fnOf "_law_shapes" "_law_shapes" (defArgs s__law_shapes) (defBody s__law_shapes) (defScope s__law_shapes) .none kV__law_shapes dc__law_shapes pm__law_shapes an__law_shapes cd__law_shapes ct__law_shapes), sl__law_shapes⟩) (c__law_shapes : PySem.W.codeIn K cd__law_shapes "_law_shapes" = true) (k__law_shapes : PySem.W.keepIn K (.ref f__law_shapes) = true)
    (a__law_verses : PySem.W.nsIn K mainGlobals "_law_verses" = some (some (.ref f__law_verses))) (l__law_verses : K.lookup f__law_verses = some ⟨oc__law_verses, od__law_verses, .func (PySem.W.fnOf "_law_verses" "_law_verses" (defArgs s__law_verses) (defBody s__law_verses) (defScope s__law_verses) .none kV__law_verses dc__law_verses pm__law_verses an__law_verses cd__law_verses ct__law_verses), sl__law_verses⟩) (c__law_verses : PySem.W.codeIn K cd__law_verses "_law_verses" = true) (k__law_verses : PySem.W.keepIn K (.ref f__law_verses) = true)
    (a__law_pairs : PySem.W.nsIn K mainGlobals "_law_pairs" = some (some (.ref f__law_pairs))) (l__law_pairs : K.lookup f__law_pairs = some ⟨oc__law_pairs, od__law_pairs, .func (PySem.W.fnOf "_law_pairs" "_law_pairs" (defArgs s__law_pairs) (defBody s__law_pairs) (defScope s__law_pairs) .none kV__law_pairs dc__law_pairs pm__law_pairs an__law_pairs cd__law_pairs ct__law_pairs), sl__law_pairs⟩) (c__law_pairs : PySem.W.codeIn K cd__law_pairs "_law_pairs" = true) (k__law_pairs : PySem.W.keepIn K (.ref f__law_pairs) = true)
    (a__law_size : PySem.W.nsIn K mainGlobals "_law_size" = some (some (.ref f__law_size))) (l__law_size : K.lookup f__law_size = some ⟨oc__law_size, od__law_size, .func (PySem.W.fnOf "_law_size" "_law_size" (defArgs s__law_size) (defBody s__law_size) (defScope s__law_size) .none kV__law_size dc__law_size pm__law_size an__law_size cd__law_size ct__law_size), sl__law_size⟩) (c__law_size : PySem.W.codeIn K cd__law_size "_law_size" = true) (k__law_size : PySem.W.keepIn K (.ref f__law_size) = true)
    (a__law_beneath : PySem.W.nsIn K mainGlobals "_law_beneath" = some (some (.ref f__law_beneath))) (l__law_beneath : K.lookup f__law_beneath = some ⟨oc__law_beneath, od__law_beneath, .func (PySem.W.fnOf "_law_beneath" "_law_beneath" (defArgs s__law_beneath) (defBody s__law_beneath) (defScope s__law_beneath) .none kV__law_beneath dc__law_beneath pm__law_beneath an__law_beneath cd__law_beneath ct__law_beneath), sl__law_beneath⟩) (c__law_beneath : PySem.W.codeIn K cd__law_beneath "_law_beneath" = true) (k__law_beneath : PySem.W.keepIn K (.ref f__law_beneath) = true)
    (a__law_laid : PySem.W.nsIn K mainGlobals "_law_laid" = some (some (.ref f__law_laid))) (l__law_laid : K.lookup f__law_laid = some ⟨oc__law_laid, od__law_laid, .func (PySem.W.fnOf "_law_laid" "_law_laid" (defArgs s__law_laid) (defBody s__law_laid) (defScope s__law_laid) .none kV__law_laid dc__law_laid pm__law_laid an__law_laid cd__law_laid ct__law_laid), sl__law_laid⟩) (c__law_laid : PySem.W.codeIn K cd__law_laid "_law_laid" = true) (k__law_laid : PySem.W.keepIn K (.ref f__law_laid) = true)
    (a__law_all_spots : PySem.W.nsIn K mainGlobals "_law_all_spots" = some (some (.ref f__law_all_spots))) (l__law_all_spots : K.lookup f__law_all_spots = some ⟨oc__law_all_spots, od__law_all_spots, .func (PySem.W.fnOf "_law_all_spots" "_law_all_spots" (defArgs s__law_all_spots) (defBody s__law_all_spots) (defScope s__law_all_spots) .none kV__law_all_spots dc__law_all_spots pm__law_all_spots an__law_all_spots cd__law_all_spots ct__law_all_spots), sl__law_all_spots⟩) (c__law_all_spots : PySem.W.codeIn K cd__law_all_spots "_law_all_spots" = true) (k__law_all_spots : PySem.W.keepIn K (.ref f__law_all_spots) = true)
    (a__law_right : PySem.W.nsIn K mainGlobals "_law_right" = some (some (.ref f__law_right))) (l__law_right : K.lookup f__law_right = some ⟨oc__law_right, od__law_right, .func (PySem.W.fnOf "_law_right" "_law_right" (defArgs s__law_right) (defBody s__law_right) (defScope s__law_right) .none kV__law_right dc__law_right pm__law_right an__law_right cd__law_right ct__law_right), sl__law_right⟩) (c__law_right : PySem.W.codeIn K cd__law_right "_law_right" = true) (k__law_right : PySem.W.keepIn K (.ref f__law_right) = true)
    (a_law : PySem.W.nsIn K mainGlobals "law" = some (some (.ref f_law))) (l_law : K.lookup f_law = some ⟨oc_law, od_law, .func (PySem.W.fnOf "law" "law" (defArgs s_law) (defBody s_law) (defScope s_law) .none kV_law dc_law pm_law an_law cd_law ct_law), sl_law⟩) (c_law : PySem.W.codeIn K cd_law "law" = true) (k_law : PySem.W.keepIn K (.ref f_law) = true)
    (z_LookupError : PySem.W.nsIn K mainGlobals "LookupError" = some none)
    (z_ValueError : PySem.W.nsIn K mainGlobals "ValueError" = some none)
    (z_all : PySem.W.nsIn K mainGlobals "all" = some none)
    (z_bool : PySem.W.nsIn K mainGlobals "bool" = some none)
    (z_enumerate : PySem.W.nsIn K mainGlobals "enumerate" = some none)
    (z_int : PySem.W.nsIn K mainGlobals "int" = some none)
    (z_isinstance : PySem.W.nsIn K mainGlobals "isinstance" = some none)
    (z_len : PySem.W.nsIn K mainGlobals "len" = some none)
    (z_list : PySem.W.nsIn K mainGlobals "list" = some none)
    (z_max : PySem.W.nsIn K mainGlobals "max" = some none)
    (z_min : PySem.W.nsIn K mainGlobals "min" = some none)
    (z_range : PySem.W.nsIn K mainGlobals "range" = some none)
    (z_repr : PySem.W.nsIn K mainGlobals "repr" = some none)
    (z_str : PySem.W.nsIn K mainGlobals "str" = some none)
    (z_sum : PySem.W.nsIn K mainGlobals "sum" = some none)
    (z_tuple : PySem.W.nsIn K mainGlobals "tuple" = some none)
    (z_zip : PySem.W.nsIn K mainGlobals "zip" = some none)
    {t_LAST_LINE : Tok} (y_LAST_LINE : PySem.W.nsIn K mainGlobals "LAST_LINE" = some (some (.int 9999 t_LAST_LINE)))
    {t_LONGEST_NAME : Tok} (y_LONGEST_NAME : PySem.W.nsIn K mainGlobals "LONGEST_NAME" = some (some (.int 6 t_LONGEST_NAME)))
    {t_MOST_BOOKS : Tok} (y_MOST_BOOKS : PySem.W.nsIn K mainGlobals "MOST_BOOKS" = some (some (.int 6 t_MOST_BOOKS)))
    {t_MOST_BOOK_CHAPTERS : Tok} (y_MOST_BOOK_CHAPTERS : PySem.W.nsIn K mainGlobals "MOST_BOOK_CHAPTERS" = some (some (.int 12 t_MOST_BOOK_CHAPTERS)))
    {t_MOST_CHAPTERS : Tok} (y_MOST_CHAPTERS : PySem.W.nsIn K mainGlobals "MOST_CHAPTERS" = some (some (.int 40 t_MOST_CHAPTERS)))
    {t_MOST_PAIRS : Tok} (y_MOST_PAIRS : PySem.W.nsIn K mainGlobals "MOST_PAIRS" = some (some (.int 400 t_MOST_PAIRS)))
    {t_MOST_PARTS : Tok} (y_MOST_PARTS : PySem.W.nsIn K mainGlobals "MOST_PARTS" = some (some (.int 400 t_MOST_PARTS)))
    {t_MOST_VERSES : Tok} (y_MOST_VERSES : PySem.W.nsIn K mainGlobals "MOST_VERSES" = some (some (.int 30 t_MOST_VERSES)))
    {t_MOST_VERSE_PARTS : Tok} (y_MOST_VERSE_PARTS : PySem.W.nsIn K mainGlobals "MOST_VERSE_PARTS" = some (some (.int 4 t_MOST_VERSE_PARTS)))
    {t_SMALL_LETTERS : Tok} (y_SMALL_LETTERS : PySem.W.nsIn K mainGlobals "SMALL_LETTERS" = some (some (.str "abcdefghijklmnopqrstuvwxyz" t_SMALL_LETTERS)))
    {C fI TI : Addr} {odI anI ddT : Option Addr} {slI slT : Array (Option Value)} {ocI kVI dcI pmI cdI ctI ocT : Value} {nT : Nat} (aE : PySem.W.nsIn K mainGlobals "Edition" = some (some (.ref C))) (iI : PySem.W.findIn K (.ref C) "__init__" = some (some (.ref fI))) (lI : K.lookup fI = some ⟨ocI, odI, .func (PySem.W.fnOf "__init__" "Edition.__init__" (defArgs s_Edition___init__) (defBody s_Edition___init__) (defScope s_Edition___init__) (.ref TI) kVI dcI pmI anI cdI ctI), slI⟩) (cI : PySem.W.codeIn K cdI "Edition.__init__" = true) (kI : PySem.W.keepIn K (.ref fI) = true) (nI : PySem.W.isFn K (.ref fI) = true) (lT : K.lookup TI = some ⟨ocT, ddT, .seq #[Value.none] nT, slT⟩) (mkC : PySem.W.makesIn K C = true) (kC : PySem.W.keepIn K (.ref C) = true) (pgC : PySem.W.plainGet K C Str.empty = true) (hdC : PySem.W.hasDictIn K C = true) (poC : PySem.W.plainOver K C = true) (saC : PySem.W.findIn K (.ref C) "__setattr__" = some (some (.builtin "object.__setattr__"))) (w1 : PySem.W.findIn K (.ref C) "_books" = some none) (w2 : PySem.W.findIn K (.ref C) "_chapters" = some none) (w3 : PySem.W.findIn K (.ref C) "_places" = some none) (w4 : PySem.W.findIn K (.ref C) "_stretches" = some none) (w5 : PySem.W.findIn K (.ref C) "_lines" = some none) (w6 : PySem.W.findIn K (.ref C) "_numbers" = some none) (w7 : PySem.W.findIn K (.ref C) "_told" = some none) {f_Msize : Addr} {od_Msize an_Msize : Option Addr} {sl_Msize : Array (Option Value)} {oc_Msize kV_Msize dc_Msize pm_Msize cd_Msize ct_Msize : Value} (i_Msize : PySem.W.findIn K (.ref C) "size" = some (some (.ref f_Msize))) (l_Msize : K.lookup f_Msize = some ⟨oc_Msize, od_Msize, .func (PySem.W.fnOf "size" "Edition.size" (defArgs s_Edition_size) (defBody s_Edition_size) (defScope s_Edition_size) .none kV_Msize dc_Msize pm_Msize an_Msize cd_Msize ct_Msize), sl_Msize⟩) (c_Msize : PySem.W.codeIn K cd_Msize "Edition.size" = true) (k_Msize : PySem.W.keepIn K (.ref f_Msize) = true) (n_Msize : PySem.W.isFn K (.ref f_Msize) = true) {f_M_check_number : Addr} {od_M_check_number an_M_check_number : Option Addr} {sl_M_check_number : Array (Option Value)} {oc_M_check_number kV_M_check_number dc_M_check_number pm_M_check_number cd_M_check_number ct_M_check_number : Value} (i_M_check_number : PySem.W.findIn K (.ref C) "_check_number" = some (some (.ref f_M_check_number))) (l_M_check_number : K.lookup f_M_check_number = some ⟨oc_M_check_number, od_M_check_number, .func (PySem.W.fnOf "_check_number" "Edition._check_number" (defArgs s_Edition__check_number) (defBody s_Edition__check_number) (defScope s_Edition__check_number) .none kV_M_check_number dc_M_check_number pm_M_check_number an_M_check_number cd_M_check_number ct_M_check_number), sl_M_check_number⟩) (c_M_check_number : PySem.W.codeIn K cd_M_check_number "Edition._check_number" = true) (k_M_check_number : PySem.W.keepIn K (.ref f_M_check_number) = true) (n_M_check_number : PySem.W.isFn K (.ref f_M_check_number) = true) {f_M_book : Addr} {od_M_book an_M_book : Option Addr} {sl_M_book : Array (Option Value)} {oc_M_book kV_M_book dc_M_book pm_M_book cd_M_book ct_M_book : Value} (i_M_book : PySem.W.findIn K (.ref C) "_book" = some (some (.ref f_M_book))) (l_M_book : K.lookup f_M_book = some ⟨oc_M_book, od_M_book, .func (PySem.W.fnOf "_book" "Edition._book" (defArgs s_Edition__book) (defBody s_Edition__book) (defScope s_Edition__book) .none kV_M_book dc_M_book pm_M_book an_M_book cd_M_book ct_M_book), sl_M_book⟩) (c_M_book : PySem.W.codeIn K cd_M_book "Edition._book" = true) (k_M_book : PySem.W.keepIn K (.ref f_M_book) = true) (n_M_book : PySem.W.isFn K (.ref f_M_book) = true) {f_M_chapter : Addr} {od_M_chapter an_M_chapter : Option Addr} {sl_M_chapter : Array (Option Value)} {oc_M_chapter kV_M_chapter dc_M_chapter pm_M_chapter cd_M_chapter ct_M_chapter : Value} (i_M_chapter : PySem.W.findIn K (.ref C) "_chapter" = some (some (.ref f_M_chapter))) (l_M_chapter : K.lookup f_M_chapter = some ⟨oc_M_chapter, od_M_chapter, .func (PySem.W.fnOf "_chapter" "Edition._chapter" (defArgs s_Edition__chapter) (defBody s_Edition__chapter) (defScope s_Edition__chapter) .none kV_M_chapter dc_M_chapter pm_M_chapter an_M_chapter cd_M_chapter ct_M_chapter), sl_M_chapter⟩) (c_M_chapter : PySem.W.codeIn K cd_M_chapter "Edition._chapter" = true) (k_M_chapter : PySem.W.keepIn K (.ref f_M_chapter) = true) (n_M_chapter : PySem.W.isFn K (.ref f_M_chapter) = true) {f_Mparts : Addr} {od_Mparts an_Mparts : Option Addr} {sl_Mparts : Array (Option Value)} {oc_Mparts kV_Mparts dc_Mparts pm_Mparts cd_Mparts ct_Mparts : Value} (i_Mparts : PySem.W.findIn K (.ref C) "parts" = some (some (.ref f_Mparts))) (l_Mparts : K.lookup f_Mparts = some ⟨oc_Mparts, od_Mparts, .func (PySem.W.fnOf "parts" "Edition.parts" (defArgs s_Edition_parts) (defBody s_Edition_parts) (defScope s_Edition_parts) .none kV_Mparts dc_Mparts pm_Mparts an_Mparts cd_Mparts ct_Mparts), sl_Mparts⟩) (c_Mparts : PySem.W.codeIn K cd_Mparts "Edition.parts" = true) (k_Mparts : PySem.W.keepIn K (.ref f_Mparts) = true) (n_Mparts : PySem.W.isFn K (.ref f_Mparts) = true) {f_M_check_spot : Addr} {od_M_check_spot an_M_check_spot : Option Addr} {sl_M_check_spot : Array (Option Value)} {oc_M_check_spot kV_M_check_spot dc_M_check_spot pm_M_check_spot cd_M_check_spot ct_M_check_spot : Value} (i_M_check_spot : PySem.W.findIn K (.ref C) "_check_spot" = some (some (.ref f_M_check_spot))) (l_M_check_spot : K.lookup f_M_check_spot = some ⟨oc_M_check_spot, od_M_check_spot, .func (PySem.W.fnOf "_check_spot" "Edition._check_spot" (defArgs s_Edition__check_spot) (defBody s_Edition__check_spot) (defScope s_Edition__check_spot) .none kV_M_check_spot dc_M_check_spot pm_M_check_spot an_M_check_spot cd_M_check_spot ct_M_check_spot), sl_M_check_spot⟩) (c_M_check_spot : PySem.W.codeIn K cd_M_check_spot "Edition._check_spot" = true) (k_M_check_spot : PySem.W.keepIn K (.ref f_M_check_spot) = true) (n_M_check_spot : PySem.W.isFn K (.ref f_M_check_spot) = true) {f_Mstretch : Addr} {od_Mstretch an_Mstretch : Option Addr} {sl_Mstretch : Array (Option Value)} {oc_Mstretch kV_Mstretch dc_Mstretch pm_Mstretch cd_Mstretch ct_Mstretch : Value} (i_Mstretch : PySem.W.findIn K (.ref C) "stretch" = some (some (.ref f_Mstretch))) (l_Mstretch : K.lookup f_Mstretch = some ⟨oc_Mstretch, od_Mstretch, .func (PySem.W.fnOf "stretch" "Edition.stretch" (defArgs s_Edition_stretch) (defBody s_Edition_stretch) (defScope s_Edition_stretch) .none kV_Mstretch dc_Mstretch pm_Mstretch an_Mstretch cd_Mstretch ct_Mstretch), sl_Mstretch⟩) (c_Mstretch : PySem.W.codeIn K cd_Mstretch "Edition.stretch" = true) (k_Mstretch : PySem.W.keepIn K (.ref f_Mstretch) = true) (n_Mstretch : PySem.W.isFn K (.ref f_Mstretch) = true) {f_Mnumber : Addr} {od_Mnumber an_Mnumber : Option Addr} {sl_Mnumber : Array (Option Value)} {oc_Mnumber kV_Mnumber dc_Mnumber pm_Mnumber cd_Mnumber ct_Mnumber : Value} (i_Mnumber : PySem.W.findIn K (.ref C) "number" = some (some (.ref f_Mnumber))) (l_Mnumber : K.lookup f_Mnumber = some ⟨oc_Mnumber, od_Mnumber, .func (PySem.W.fnOf "number" "Edition.number" (defArgs s_Edition_number) (defBody s_Edition_number) (defScope s_Edition_number) .none kV_Mnumber dc_Mnumber pm_Mnumber an_Mnumber cd_Mnumber ct_Mnumber), sl_Mnumber⟩) (c_Mnumber : PySem.W.codeIn K cd_Mnumber "Edition.number" = true) (k_Mnumber : PySem.W.keepIn K (.ref f_Mnumber) = true) (n_Mnumber : PySem.W.isFn K (.ref f_Mnumber) = true) {f_Mplace : Addr} {od_Mplace an_Mplace : Option Addr} {sl_Mplace : Array (Option Value)} {oc_Mplace kV_Mplace dc_Mplace pm_Mplace cd_Mplace ct_Mplace : Value} (i_Mplace : PySem.W.findIn K (.ref C) "place" = some (some (.ref f_Mplace))) (l_Mplace : K.lookup f_Mplace = some ⟨oc_Mplace, od_Mplace, .func (PySem.W.fnOf "place" "Edition.place" (defArgs s_Edition_place) (defBody s_Edition_place) (defScope s_Edition_place) .none kV_Mplace dc_Mplace pm_Mplace an_Mplace cd_Mplace ct_Mplace), sl_Mplace⟩) (c_Mplace : PySem.W.codeIn K cd_Mplace "Edition.place" = true) (k_Mplace : PySem.W.keepIn K (.ref f_Mplace) = true) (n_Mplace : PySem.W.isFn K (.ref f_Mplace) = true) {f_Mverse_of : Addr} {od_Mverse_of an_Mverse_of : Option Addr} {sl_Mverse_of : Array (Option Value)} {oc_Mverse_of kV_Mverse_of dc_Mverse_of pm_Mverse_of cd_Mverse_of ct_Mverse_of : Value} (i_Mverse_of : PySem.W.findIn K (.ref C) "verse_of" = some (some (.ref f_Mverse_of))) (l_Mverse_of : K.lookup f_Mverse_of = some ⟨oc_Mverse_of, od_Mverse_of, .func (PySem.W.fnOf "verse_of" "Edition.verse_of" (defArgs s_Edition_verse_of) (defBody s_Edition_verse_of) (defScope s_Edition_verse_of) .none kV_Mverse_of dc_Mverse_of pm_Mverse_of an_Mverse_of cd_Mverse_of ct_Mverse_of), sl_Mverse_of⟩) (c_Mverse_of : PySem.W.codeIn K cd_Mverse_of "Edition.verse_of" = true) (k_Mverse_of : PySem.W.keepIn K (.ref f_Mverse_of) = true) (n_Mverse_of : PySem.W.isFn K (.ref f_Mverse_of) = true) {f_Mnames : Addr} {od_Mnames an_Mnames : Option Addr} {sl_Mnames : Array (Option Value)} {oc_Mnames kV_Mnames dc_Mnames pm_Mnames cd_Mnames ct_Mnames : Value} (i_Mnames : PySem.W.findIn K (.ref C) "names" = some (some (.ref f_Mnames))) (l_Mnames : K.lookup f_Mnames = some ⟨oc_Mnames, od_Mnames, .func (PySem.W.fnOf "names" "Edition.names" (defArgs s_Edition_names) (defBody s_Edition_names) (defScope s_Edition_names) .none kV_Mnames dc_Mnames pm_Mnames an_Mnames cd_Mnames ct_Mnames), sl_Mnames⟩) (c_Mnames : PySem.W.codeIn K cd_Mnames "Edition.names" = true) (k_Mnames : PySem.W.keepIn K (.ref f_Mnames) = true) (n_Mnames : PySem.W.isFn K (.ref f_Mnames) = true) {f_Mchapters : Addr} {od_Mchapters an_Mchapters : Option Addr} {sl_Mchapters : Array (Option Value)} {oc_Mchapters kV_Mchapters dc_Mchapters pm_Mchapters cd_Mchapters ct_Mchapters : Value} (i_Mchapters : PySem.W.findIn K (.ref C) "chapters" = some (some (.ref f_Mchapters))) (l_Mchapters : K.lookup f_Mchapters = some ⟨oc_Mchapters, od_Mchapters, .func (PySem.W.fnOf "chapters" "Edition.chapters" (defArgs s_Edition_chapters) (defBody s_Edition_chapters) (defScope s_Edition_chapters) .none kV_Mchapters dc_Mchapters pm_Mchapters an_Mchapters cd_Mchapters ct_Mchapters), sl_Mchapters⟩) (c_Mchapters : PySem.W.codeIn K cd_Mchapters "Edition.chapters" = true) (k_Mchapters : PySem.W.keepIn K (.ref f_Mchapters) = true) (n_Mchapters : PySem.W.isFn K (.ref f_Mchapters) = true) {f_Mverses : Addr} {od_Mverses an_Mverses : Option Addr} {sl_Mverses : Array (Option Value)} {oc_Mverses kV_Mverses dc_Mverses pm_Mverses cd_Mverses ct_Mverses : Value} (i_Mverses : PySem.W.findIn K (.ref C) "verses" = some (some (.ref f_Mverses))) (l_Mverses : K.lookup f_Mverses = some ⟨oc_Mverses, od_Mverses, .func (PySem.W.fnOf "verses" "Edition.verses" (defArgs s_Edition_verses) (defBody s_Edition_verses) (defScope s_Edition_verses) .none kV_Mverses dc_Mverses pm_Mverses an_Mverses cd_Mverses ct_Mverses), sl_Mverses⟩) (c_Mverses : PySem.W.codeIn K cd_Mverses "Edition.verses" = true) (k_Mverses : PySem.W.keepIn K (.ref f_Mverses) = true) (n_Mverses : PySem.W.isFn K (.ref f_Mverses) = true) {f_M_spots_around : Addr} {od_M_spots_around an_M_spots_around : Option Addr} {sl_M_spots_around : Array (Option Value)} {oc_M_spots_around kV_M_spots_around dc_M_spots_around pm_M_spots_around cd_M_spots_around ct_M_spots_around : Value} (i_M_spots_around : PySem.W.findIn K (.ref C) "_spots_around" = some (some (.ref f_M_spots_around))) (l_M_spots_around : K.lookup f_M_spots_around = some ⟨oc_M_spots_around, od_M_spots_around, .func (PySem.W.fnOf "_spots_around" "Edition._spots_around" (defArgs s_Edition__spots_around) (defBody s_Edition__spots_around) (defScope s_Edition__spots_around) .none kV_M_spots_around dc_M_spots_around pm_M_spots_around an_M_spots_around cd_M_spots_around ct_M_spots_around), sl_M_spots_around⟩) (c_M_spots_around : PySem.W.codeIn K cd_M_spots_around "Edition._spots_around" = true) (k_M_spots_around : PySem.W.keepIn K (.ref f_M_spots_around) = true) (n_M_spots_around : PySem.W.isFn K (.ref f_M_spots_around) = true) {f_Mbegins : Addr} {od_Mbegins an_Mbegins : Option Addr} {sl_Mbegins : Array (Option Value)} {oc_Mbegins kV_Mbegins dc_Mbegins pm_Mbegins cd_Mbegins ct_Mbegins : Value} (i_Mbegins : PySem.W.findIn K (.ref C) "begins" = some (some (.ref f_Mbegins))) (l_Mbegins : K.lookup f_Mbegins = some ⟨oc_Mbegins, od_Mbegins, .func (PySem.W.fnOf "begins" "Edition.begins" (defArgs s_Edition_begins) (defBody s_Edition_begins) (defScope s_Edition_begins) .none kV_Mbegins dc_Mbegins pm_Mbegins an_Mbegins cd_Mbegins ct_Mbegins), sl_Mbegins⟩) (c_Mbegins : PySem.W.codeIn K cd_Mbegins "Edition.begins" = true) (k_Mbegins : PySem.W.keepIn K (.ref f_Mbegins) = true) (n_Mbegins : PySem.W.isFn K (.ref f_Mbegins) = true) {f_Mends : Addr} {od_Mends an_Mends : Option Addr} {sl_Mends : Array (Option Value)} {oc_Mends kV_Mends dc_Mends pm_Mends cd_Mends ct_Mends : Value} (i_Mends : PySem.W.findIn K (.ref C) "ends" = some (some (.ref f_Mends))) (l_Mends : K.lookup f_Mends = some ⟨oc_Mends, od_Mends, .func (PySem.W.fnOf "ends" "Edition.ends" (defArgs s_Edition_ends) (defBody s_Edition_ends) (defScope s_Edition_ends) .none kV_Mends dc_Mends pm_Mends an_Mends cd_Mends ct_Mends), sl_Mends⟩) (c_Mends : PySem.W.codeIn K cd_Mends "Edition.ends" = true) (k_Mends : PySem.W.keepIn K (.ref f_Mends) = true) (n_Mends : PySem.W.isFn K (.ref f_Mends) = true) {f_Mline_at : Addr} {od_Mline_at an_Mline_at : Option Addr} {sl_Mline_at : Array (Option Value)} {oc_Mline_at kV_Mline_at dc_Mline_at pm_Mline_at cd_Mline_at ct_Mline_at : Value} (i_Mline_at : PySem.W.findIn K (.ref C) "line_at" = some (some (.ref f_Mline_at))) (l_Mline_at : K.lookup f_Mline_at = some ⟨oc_Mline_at, od_Mline_at, .func (PySem.W.fnOf "line_at" "Edition.line_at" (defArgs s_Edition_line_at) (defBody s_Edition_line_at) (defScope s_Edition_line_at) .none kV_Mline_at dc_Mline_at pm_Mline_at an_Mline_at cd_Mline_at ct_Mline_at), sl_Mline_at⟩) (c_Mline_at : PySem.W.codeIn K cd_Mline_at "Edition.line_at" = true) (k_Mline_at : PySem.W.keepIn K (.ref f_Mline_at) = true) (n_Mline_at : PySem.W.isFn K (.ref f_Mline_at) = true) {f_Mpart_of : Addr} {od_Mpart_of an_Mpart_of : Option Addr} {sl_Mpart_of : Array (Option Value)} {oc_Mpart_of kV_Mpart_of dc_Mpart_of pm_Mpart_of cd_Mpart_of ct_Mpart_of : Value} (i_Mpart_of : PySem.W.findIn K (.ref C) "part_of" = some (some (.ref f_Mpart_of))) (l_Mpart_of : K.lookup f_Mpart_of = some ⟨oc_Mpart_of, od_Mpart_of, .func (PySem.W.fnOf "part_of" "Edition.part_of" (defArgs s_Edition_part_of) (defBody s_Edition_part_of) (defScope s_Edition_part_of) .none kV_Mpart_of dc_Mpart_of pm_Mpart_of an_Mpart_of cd_Mpart_of ct_Mpart_of), sl_Mpart_of⟩) (c_Mpart_of : PySem.W.codeIn K cd_Mpart_of "Edition.part_of" = true) (k_Mpart_of : PySem.W.keepIn K (.ref f_Mpart_of) = true) (n_Mpart_of : PySem.W.isFn K (.ref f_Mpart_of) = true) {f_Mtold : Addr} {od_Mtold an_Mtold : Option Addr} {sl_Mtold : Array (Option Value)} {oc_Mtold kV_Mtold dc_Mtold pm_Mtold cd_Mtold ct_Mtold : Value} (i_Mtold : PySem.W.findIn K (.ref C) "told" = some (some (.ref f_Mtold))) (l_Mtold : K.lookup f_Mtold = some ⟨oc_Mtold, od_Mtold, .func (PySem.W.fnOf "told" "Edition.told" (defArgs s_Edition_told) (defBody s_Edition_told) (defScope s_Edition_told) .none kV_Mtold dc_Mtold pm_Mtold an_Mtold cd_Mtold ct_Mtold), sl_Mtold⟩) (c_Mtold : PySem.W.codeIn K cd_Mtold "Edition.told" = true) (k_Mtold : PySem.W.keepIn K (.ref f_Mtold) = true) (n_Mtold : PySem.W.isFn K (.ref f_Mtold) = true)
    : ∃ fd : FuncData, (∀ (s : Shared) (v : Value), BindsTo s fd ⟨[v], []⟩ [("script", v)]) ∧ ∀ base : Heap, K.In base → base.Ns mainGlobals mg → FnG l.prog w K mg base LV fa fd ["script"] (sp_law K) := by
  have e := hfa.symm.trans (PySem.W.mg_of X G a_law)
  cases e
  have T : Txt K mg := ⟨PySem.W.mg_none_of X G z_LookupError, PySem.W.mg_none_of X G z_ValueError, PySem.W.mg_none_of X G z_all, PySem.W.mg_none_of X G z_bool, PySem.W.mg_none_of X G z_enumerate, PySem.W.mg_none_of X G z_int, PySem.W.mg_none_of X G z_isinstance, PySem.W.mg_none_of X G z_len, PySem.W.mg_none_of X G z_list, PySem.W.mg_none_of X G z_max, PySem.W.mg_none_of X G z_min, PySem.W.mg_none_of X G z_range, PySem.W.mg_none_of X G z_repr, PySem.W.mg_none_of X G z_str, PySem.W.mg_none_of X G z_sum, PySem.W.mg_none_of X G z_tuple, PySem.W.mg_none_of X G z_zip, ⟨_, PySem.W.mg_of X G y_LAST_LINE, ⟨_, rfl⟩⟩, ⟨_, PySem.W.mg_of X G y_LONGEST_NAME, ⟨_, rfl⟩⟩, ⟨_, PySem.W.mg_of X G y_MOST_BOOKS, ⟨_, rfl⟩⟩, ⟨_, PySem.W.mg_of X G y_MOST_BOOK_CHAPTERS, ⟨_, rfl⟩⟩, ⟨_, PySem.W.mg_of X G y_MOST_CHAPTERS, ⟨_, rfl⟩⟩, ⟨_, PySem.W.mg_of X G y_MOST_PAIRS, ⟨_, rfl⟩⟩, ⟨_, PySem.W.mg_of X G y_MOST_PARTS, ⟨_, rfl⟩⟩, ⟨_, PySem.W.mg_of X G y_MOST_VERSES, ⟨_, rfl⟩⟩, ⟨_, PySem.W.mg_of X G y_MOST_VERSE_PARTS, ⟨_, rfl⟩⟩, ⟨_, PySem.W.mg_of X G y_SMALL_LETTERS, ⟨_, rfl⟩⟩⟩
  have D_is_number : Df K mg "is_number" s_is_number ["thing"] := ⟨_, _, fun_mk (st := s_is_number) l_is_number c_is_number k_is_number, PySem.W.mg_of X G a_is_number, (fun_mk (st := s_is_number) l_is_number c_is_number k_is_number).binds (ps := ["thing"]) fun _ _ _ _ _ _ us hl => match us, hl with | [_], _ => rfl⟩
  have D_is_whole : Df K mg "is_whole" s_is_whole ["thing", "low", "high"] := ⟨_, _, fun_mk (st := s_is_whole) l_is_whole c_is_whole k_is_whole, PySem.W.mg_of X G a_is_whole, (fun_mk (st := s_is_whole) l_is_whole c_is_whole k_is_whole).binds (ps := ["thing", "low", "high"]) fun _ _ _ _ _ _ us hl => match us, hl with | [_, _, _], _ => rfl⟩
  have D_is_name : Df K mg "is_name" s_is_name ["thing"] := ⟨_, _, fun_mk (st := s_is_name) l_is_name c_is_name k_is_name, PySem.W.mg_of X G a_is_name, (fun_mk (st := s_is_name) l_is_name c_is_name k_is_name).binds (ps := ["thing"]) fun _ _ _ _ _ _ us hl => match us, hl with | [_], _ => rfl⟩
  have D_is_made_of : Df K mg "is_made_of" s_is_made_of ["thing", "signs", "most"] := ⟨_, _, fun_mk (st := s_is_made_of) l_is_made_of c_is_made_of k_is_made_of, PySem.W.mg_of X G a_is_made_of, (fun_mk (st := s_is_made_of) l_is_made_of c_is_made_of k_is_made_of).binds (ps := ["thing", "signs", "most"]) fun _ _ _ _ _ _ us hl => match us, hl with | [_, _, _], _ => rfl⟩
  have D_is_tuple : Df K mg "is_tuple" s_is_tuple ["thing", "fewest", "most"] := ⟨_, _, fun_mk (st := s_is_tuple) l_is_tuple c_is_tuple k_is_tuple, PySem.W.mg_of X G a_is_tuple, (fun_mk (st := s_is_tuple) l_is_tuple c_is_tuple k_is_tuple).binds (ps := ["thing", "fewest", "most"]) fun _ _ _ _ _ _ us hl => match us, hl with | [_, _, _], _ => rfl⟩
  have D_is_row : Df K mg "is_row" s_is_row ["thing", "fewest", "most"] := ⟨_, _, fun_mk (st := s_is_row) l_is_row c_is_row k_is_row, PySem.W.mg_of X G a_is_row, (fun_mk (st := s_is_row) l_is_row c_is_row k_is_row).binds (ps := ["thing", "fewest", "most"]) fun _ _ _ _ _ _ us hl => match us, hl with | [_, _, _], _ => rfl⟩
  have D_kept_books : Df K mg "kept_books" s_kept_books ["books"] := ⟨_, _, fun_mk (st := s_kept_books) l_kept_books c_kept_books k_kept_books, PySem.W.mg_of X G a_kept_books, (fun_mk (st := s_kept_books) l_kept_books c_kept_books k_kept_books).binds (ps := ["books"]) fun _ _ _ _ _ _ us hl => match us, hl with | [_], _ => rfl⟩
  have D_kept_book : Df K mg "kept_book" s_kept_book ["book", "names"] := ⟨_, _, fun_mk (st := s_kept_book) l_kept_book c_kept_book k_kept_book, PySem.W.mg_of X G a_kept_book, (fun_mk (st := s_kept_book) l_kept_book c_kept_book k_kept_book).binds (ps := ["book", "names"]) fun _ _ _ _ _ _ us hl => match us, hl with | [_, _], _ => rfl⟩
  have D_kept_chapter : Df K mg "kept_chapter" s_kept_chapter ["chapter"] := ⟨_, _, fun_mk (st := s_kept_chapter) l_kept_chapter c_kept_chapter k_kept_chapter, PySem.W.mg_of X G a_kept_chapter, (fun_mk (st := s_kept_chapter) l_kept_chapter c_kept_chapter k_kept_chapter).binds (ps := ["chapter"]) fun _ _ _ _ _ _ us hl => match us, hl with | [_], _ => rfl⟩
  have D_check_counts : Df K mg "check_counts" s_check_counts ["books"] := ⟨_, _, fun_mk (st := s_check_counts) l_check_counts c_check_counts k_check_counts, PySem.W.mg_of X G a_check_counts, (fun_mk (st := s_check_counts) l_check_counts c_check_counts k_check_counts).binds (ps := ["books"]) fun _ _ _ _ _ _ us hl => match us, hl with | [_], _ => rfl⟩
  have D_kept_lines : Df K mg "kept_lines" s_kept_lines ["lines", "size"] := ⟨_, _, fun_mk (st := s_kept_lines) l_kept_lines c_kept_lines k_kept_lines, PySem.W.mg_of X G a_kept_lines, (fun_mk (st := s_kept_lines) l_kept_lines c_kept_lines k_kept_lines).binds (ps := ["lines", "size"]) fun _ _ _ _ _ _ us hl => match us, hl with | [_, _], _ => rfl⟩
  have D_lines_of_pair : Df K mg "lines_of_pair" s_lines_of_pair ["pair"] := ⟨_, _, fun_mk (st := s_lines_of_pair) l_lines_of_pair c_lines_of_pair k_lines_of_pair, PySem.W.mg_of X G a_lines_of_pair, (fun_mk (st := s_lines_of_pair) l_lines_of_pair c_lines_of_pair k_lines_of_pair).binds (ps := ["pair"]) fun _ _ _ _ _ _ us hl => match us, hl with | [_], _ => rfl⟩
  have D_fewest_pairs : Df K mg "fewest_pairs" s_fewest_pairs ["lines"] := ⟨_, _, fun_mk (st := s_fewest_pairs) l_fewest_pairs c_fewest_pairs k_fewest_pairs, PySem.W.mg_of X G a_fewest_pairs, (fun_mk (st := s_fewest_pairs) l_fewest_pairs c_fewest_pairs k_fewest_pairs).binds (ps := ["lines"]) fun _ _ _ _ _ _ us hl => match us, hl with | [_], _ => rfl⟩
  have D_places_in : Df K mg "places_in" s_places_in ["books"] := ⟨_, _, fun_mk (st := s_places_in) l_places_in c_places_in k_places_in, PySem.W.mg_of X G a_places_in, (fun_mk (st := s_places_in) l_places_in c_places_in k_places_in).binds (ps := ["books"]) fun _ _ _ _ _ _ us hl => match us, hl with | [_], _ => rfl⟩
  have D_stretches_of : Df K mg "stretches_of" s_stretches_of ["places"] := ⟨_, _, fun_mk (st := s_stretches_of) l_stretches_of c_stretches_of k_stretches_of, PySem.W.mg_of X G a_stretches_of, (fun_mk (st := s_stretches_of) l_stretches_of c_stretches_of k_stretches_of).binds (ps := ["places"]) fun _ _ _ _ _ _ us hl => match us, hl with | [_], _ => rfl⟩
  have D__law_cell : Df K mg "_law_cell" s__law_cell ["script", "k"] := ⟨_, _, fun_mk (st := s__law_cell) l__law_cell c__law_cell k__law_cell, PySem.W.mg_of X G a__law_cell, (fun_mk (st := s__law_cell) l__law_cell c__law_cell k__law_cell).binds (ps := ["script", "k"]) fun _ _ _ _ _ _ us hl => match us, hl with | [_, _], _ => rfl⟩
  have D__law_box : Df K mg "_law_box" s__law_box ["cell"] := ⟨_, _, fun_mk (st := s__law_box) l__law_box c__law_box k__law_box, PySem.W.mg_of X G a__law_box, (fun_mk (st := s__law_box) l__law_box c__law_box k__law_box).binds (ps := ["cell"]) fun _ _ _ _ _ _ us hl => match us, hl with | [_], _ => rfl⟩
  have D__law_take : Df K mg "_law_take" s__law_take ["box", "many"] := ⟨_, _, fun_mk (st := s__law_take) l__law_take c__law_take k__law_take, PySem.W.mg_of X G a__law_take, (fun_mk (st := s__law_take) l__law_take c__law_take k__law_take).binds (ps := ["box", "many"]) fun _ _ _ _ _ _ us hl => match us, hl with | [_, _], _ => rfl⟩
  have D__law_names : Df K mg "_law_names" s__law_names ["box", "many"] := ⟨_, _, fun_mk (st := s__law_names) l__law_names c__law_names k__law_names, PySem.W.mg_of X G a__law_names, (fun_mk (st := s__law_names) l__law_names c__law_names k__law_names).binds (ps := ["box", "many"]) fun _ _ _ _ _ _ us hl => match us, hl with | [_, _], _ => rfl⟩
  have D__law_shapes : Df K mg "_law_shapes" s__law_shapes ["box"] := ⟨_, _, fun_mk (st := s__law_shapes) l__law_shapes c__law_shapes k__law_shapes, PySem.W.mg_of X G a__law_shapes, (fun_mk (st := s__law_shapes) l__law_shapes c__law_shapes k__law_shapes).binds (ps := ["box"]) fun _ _ _ _ _ _ us hl => match us, hl with | [_], _ => rfl⟩
  have D__law_verses : Df K mg "_law_verses" s__law_verses ["box"] := ⟨_, _, fun_mk (st := s__law_verses) l__law_verses c__law_verses k__law_verses, PySem.W.mg_of X G a__law_verses, (fun_mk (st := s__law_verses) l__law_verses c__law_verses k__law_verses).binds (ps := ["box"]) fun _ _ _ _ _ _ us hl => match us, hl with | [_], _ => rfl⟩
  have D__law_pairs : Df K mg "_law_pairs" s__law_pairs ["box", "size"] := ⟨_, _, fun_mk (st := s__law_pairs) l__law_pairs c__law_pairs k__law_pairs, PySem.W.mg_of X G a__law_pairs, (fun_mk (st := s__law_pairs) l__law_pairs c__law_pairs k__law_pairs).binds (ps := ["box", "size"]) fun _ _ _ _ _ _ us hl => match us, hl with | [_, _], _ => rfl⟩
  have D__law_size : Df K mg "_law_size" s__law_size ["shapes"] := ⟨_, _, fun_mk (st := s__law_size) l__law_size c__law_size k__law_size, PySem.W.mg_of X G a__law_size, (fun_mk (st := s__law_size) l__law_size c__law_size k__law_size).binds (ps := ["shapes"]) fun _ _ _ _ _ _ us hl => match us, hl with | [_], _ => rfl⟩
  have D__law_beneath : Df K mg "_law_beneath" s__law_beneath ["edition", "spot"] := ⟨_, _, fun_mk (st := s__law_beneath) l__law_beneath c__law_beneath k__law_beneath, PySem.W.mg_of X G a__law_beneath, (fun_mk (st := s__law_beneath) l__law_beneath c__law_beneath k__law_beneath).binds (ps := ["edition", "spot"]) fun _ _ _ _ _ _ us hl => match us, hl with | [_, _], _ => rfl⟩
  have D__law_laid : Df K mg "_law_laid" s__law_laid ["edition", "spots", "first", "last"] := ⟨_, _, fun_mk (st := s__law_laid) l__law_laid c__law_laid k__law_laid, PySem.W.mg_of X G a__law_laid, (fun_mk (st := s__law_laid) l__law_laid c__law_laid k__law_laid).binds (ps := ["edition", "spots", "first", "last"]) fun _ _ _ _ _ _ us hl => match us, hl with | [_, _, _, _], _ => rfl⟩
  have D__law_all_spots : Df K mg "_law_all_spots" s__law_all_spots ["edition"] := ⟨_, _, fun_mk (st := s__law_all_spots) l__law_all_spots c__law_all_spots k__law_all_spots, PySem.W.mg_of X G a__law_all_spots, (fun_mk (st := s__law_all_spots) l__law_all_spots c__law_all_spots k__law_all_spots).binds (ps := ["edition"]) fun _ _ _ _ _ _ us hl => match us, hl with | [_], _ => rfl⟩
  have D__law_right : Df K mg "_law_right" s__law_right ["edition", "size"] := ⟨_, _, fun_mk (st := s__law_right) l__law_right c__law_right k__law_right, PySem.W.mg_of X G a__law_right, (fun_mk (st := s__law_right) l__law_right c__law_right k__law_right).binds (ps := ["edition", "size"]) fun _ _ _ _ _ _ us hl => match us, hl with | [_, _], _ => rfl⟩
  have D_law : Df K mg "law" s_law ["script"] := ⟨_, _, fun_mk (st := s_law) l_law c_law k_law, PySem.W.mg_of X G a_law, (fun_mk (st := s_law) l_law c_law k_law).binds (ps := ["script"]) fun _ _ _ _ _ _ us hl => match us, hl with | [_], _ => rfl⟩
  exact ⟨_, fun s v => .of_eq rfl, fun base _ _ => by
    have EC : EdC K C := ⟨⟨pgC, hdC, poC, saC⟩, w1, w2, w3, w4, w5, w6, w7⟩
    have cTake : Cl l.prog w K mg base 2 "_law_take" ["box", "many"] sp_take := ok_take T D__law_take
    have cCell : Cl l.prog w K mg base 2 "_law_cell" ["script", "k"] (sp_cell K) := ok_cell T D__law_cell
    have cBox : Cl l.prog w K mg base 2 "_law_box" ["cell"] sp_box := ok_box T D__law_box
    have cVerses : Cl l.prog w K mg base 3 "_law_verses" ["box"] sp_verses := ok_verses T cTake D__law_verses
    have cShapes : Cl l.prog w K mg base 4 "_law_shapes" ["box"] sp_shapes := ok_shapes T cTake cVerses D__law_shapes
    have cNames : Cl l.prog w K mg base 3 "_law_names" ["box", "many"] sp_names := ok_names T cTake D__law_names
    have cPairs : Cl l.prog w K mg base 3 "_law_pairs" ["box", "size"] sp_pairs := ok_pairs T cTake D__law_pairs
    have cNum : Cl l.prog w K mg base 1 "is_number" ["thing"] (sp_num K) := ok_isNum T D_is_number
    have cWhole : Cl l.prog w K mg base 2 "is_whole" ["thing", "low", "high"] (sp_whole K) := ok_whole T cNum D_is_whole
    have cMade : Cl l.prog w K mg base 2 "is_made_of" ["thing", "signs", "most"] (sp_made K) := ok_made T D_is_made_of
    have cName : Cl l.prog w K mg base 3 "is_name" ["thing"] (sp_name K) := ok_name T cMade D_is_name
    have cTup : Cl l.prog w K mg base 2 "is_tuple" ["thing", "fewest", "most"] sp_isTup := ok_isTup T D_is_tuple
    have cRow : Cl l.prog w K mg base 2 "is_row" ["thing", "fewest", "most"] sp_isRow := ok_isRow T D_is_row
    have cCh : Cl l.prog w K mg base 3 "kept_chapter" ["chapter"] sp_keptCh := ok_keptCh T cWhole cRow D_kept_chapter
    have cBk : Cl l.prog w K mg base 4 "kept_book" ["book", "names"] sp_keptBk := ok_keptBk T cName cTup cRow cCh D_kept_book
    have cCounts : Cl l.prog w K mg base 2 "check_counts" ["books"] sp_counts := ok_counts T D_check_counts
    have cBks : Cl l.prog w K mg base 5 "kept_books" ["books"] sp_keptBks := ok_keptBks T cRow cBk cCounts D_kept_books
    have cLnPair : Cl l.prog w K mg base 3 "lines_of_pair" ["pair"] sp_lnPair := ok_lnPair T cWhole cTup D_lines_of_pair
    have cKeptLn : Cl l.prog w K mg base 4 "kept_lines" ["lines", "size"] sp_keptLn := ok_keptLn T cRow cLnPair D_kept_lines
    have cFewest : Cl l.prog w K mg base 2 "fewest_pairs" ["lines"] (sp_fewest K) := ok_fewest T D_fewest_pairs
    have cPlaces : Cl l.prog w K mg base 2 "places_in" ["books"] sp_places := ok_places T D_places_in
    have cStret : Cl l.prog w K mg base 2 "stretches_of" ["places"] sp_stret := ok_stret T D_stretches_of
    have cSize : Cl l.prog w K mg base 2 "_law_size" ["shapes"] sp_size0 := ok_size0 T D__law_size
    have FI : FunD K "__init__" "Edition.__init__" (defArgs s_Edition___init__) (defBody s_Edition___init__) (defScope s_Edition___init__) [.non] [] fI _ := ⟨⟨_, _, _, _, _, _, _, _, _, _, rfl, lI, cI, .inr ⟨(fun z => nomatch z), TI, _, [Value.none], _, rfl, lT, rfl, .cons rfl .nil⟩, .inl rfl⟩, kI⟩
    have bI : Binds K _ ["self", "books", "lines"] [] := bindsD_all (fd := PySem.W.fnOf "__init__" "Edition.__init__" (defArgs s_Edition___init__) (defBody s_Edition___init__) (defScope s_Edition___init__) (.ref TI) kVI dcI pmI anI cdI ctI) lT rfl fun us hl => match us, hl with | [_, _, _], _ => ⟨_, rfl, rfl⟩
    have cEd : C8.Mak l.prog w K mg base 6 "Edition" C (sp_init C) [] := ⟨⟨_, _, _, _, ⟨mkC, iI, nI, kC⟩, ok_init T EC cBks cPlaces cStret cKeptLn cFewest FI, PySem.W.mg_of X G aE, bI, .nil⟩⟩
    have F_size := fun_mk (st := s_Edition_size) l_Msize c_Msize k_Msize
    have b_size : Binds K _ ["self"] [] := F_size.binds (ps := ["self"]) fun _ _ _ _ _ _ us hl => match us, hl with | [_], _ => rfl
    have m_size : C8.Met l.prog w K mg base 2 C "size" (sp_size C) [] := ⟨⟨_, _, _, _, EC.cl, ⟨i_Msize, n_Msize, k_Msize⟩, ok_size T EC F_size, b_size, .nil⟩⟩
    have F__check_number := fun_mk (st := s_Edition__check_number) l_M_check_number c_M_check_number k_M_check_number
    have b__check_number : Binds K _ ["self", "number"] [] := F__check_number.binds (ps := ["self", "number"]) fun _ _ _ _ _ _ us hl => match us, hl with | [_, _], _ => rfl
    have m__check_number : C8.Met l.prog w K mg base 3 C "_check_number" (sp_checkN C) [] := ⟨⟨_, _, _, _, EC.cl, ⟨i_M_check_number, n_M_check_number, k_M_check_number⟩, ok_checkN T EC cWhole m_size F__check_number, b__check_number, .nil⟩⟩
    have F__book := fun_mk (st := s_Edition__book) l_M_book c_M_book k_M_book
    have b__book : Binds K _ ["self", "name"] [] := F__book.binds (ps := ["self", "name"]) fun _ _ _ _ _ _ us hl => match us, hl with | [_, _], _ => rfl
    have m__book : C8.Met l.prog w K mg base 2 C "_book" (sp_book C) [] := ⟨⟨_, _, _, _, EC.cl, ⟨i_M_book, n_M_book, k_M_book⟩, ok_book T EC F__book, b__book, .nil⟩⟩
    have F__chapter := fun_mk (st := s_Edition__chapter) l_M_chapter c_M_chapter k_M_chapter
    have b__chapter : Binds K _ ["self", "name", "chapter"] [] := F__chapter.binds (ps := ["self", "name", "chapter"]) fun _ _ _ _ _ _ us hl => match us, hl with | [_, _, _], _ => rfl
    have m__chapter : C8.Met l.prog w K mg base 3 C "_chapter" (sp_chap C) [] := ⟨⟨_, _, _, _, EC.cl, ⟨i_M_chapter, n_M_chapter, k_M_chapter⟩, ok_chap T EC cWhole m__book F__chapter, b__chapter, .nil⟩⟩
    have F_parts := fun_mk (st := s_Edition_parts) l_Mparts c_Mparts k_Mparts
    have b_parts : Binds K _ ["self", "name", "chapter", "verse"] [] := F_parts.binds (ps := ["self", "name", "chapter", "verse"]) fun _ _ _ _ _ _ us hl => match us, hl with | [_, _, _, _], _ => rfl
    have m_parts : C8.Met l.prog w K mg base 4 C "parts" (sp_parts C) [] := ⟨⟨_, _, _, _, EC.cl, ⟨i_Mparts, n_Mparts, k_Mparts⟩, ok_parts T EC cWhole m__chapter F_parts, b_parts, .nil⟩⟩
    have F__check_spot := fun_mk (st := s_Edition__check_spot) l_M_check_spot c_M_check_spot k_M_check_spot
    have b__check_spot : Binds K _ ["self", "spot"] [] := F__check_spot.binds (ps := ["self", "spot"]) fun _ _ _ _ _ _ us hl => match us, hl with | [_, _], _ => rfl
    have m__check_spot : C8.Met l.prog w K mg base 5 C "_check_spot" (sp_checkS C) [] := ⟨⟨_, _, _, _, EC.cl, ⟨i_M_check_spot, n_M_check_spot, k_M_check_spot⟩, ok_checkS T EC cWhole m__book m__chapter m_parts F__check_spot, b__check_spot, .nil⟩⟩
    have F_stretch := fun_mk (st := s_Edition_stretch) l_Mstretch c_Mstretch k_Mstretch
    have b_stretch : Binds K _ ["self", "spot"] [] := F_stretch.binds (ps := ["self", "spot"]) fun _ _ _ _ _ _ us hl => match us, hl with | [_, _], _ => rfl
    have m_stretch : C8.Met l.prog w K mg base 6 C "stretch" (sp_stretch C) [] := ⟨⟨_, _, _, _, EC.cl, ⟨i_Mstretch, n_Mstretch, k_Mstretch⟩, ok_stretch T EC cTup m__check_spot F_stretch, b_stretch, .nil⟩⟩
    have F_number := fun_mk (st := s_Edition_number) l_Mnumber c_Mnumber k_Mnumber
    have b_number : Binds K _ ["self", "spot"] [] := F_number.binds (ps := ["self", "spot"]) fun _ _ _ _ _ _ us hl => match us, hl with | [_, _], _ => rfl
    have m_number : C8.Met l.prog w K mg base 7 C "number" (sp_number C) [] := ⟨⟨_, _, _, _, EC.cl, ⟨i_Mnumber, n_Mnumber, k_Mnumber⟩, ok_numberE T EC cTup m_stretch F_number, b_number, .nil⟩⟩
    have F_place := fun_mk (st := s_Edition_place) l_Mplace c_Mplace k_Mplace
    have b_place : Binds K _ ["self", "number"] [] := F_place.binds (ps := ["self", "number"]) fun _ _ _ _ _ _ us hl => match us, hl with | [_, _], _ => rfl
    have m_place : C8.Met l.prog w K mg base 4 C "place" (sp_place C) [] := ⟨⟨_, _, _, _, EC.cl, ⟨i_Mplace, n_Mplace, k_Mplace⟩, ok_place T EC m__check_number F_place, b_place, .nil⟩⟩
    have F_verse_of := fun_mk (st := s_Edition_verse_of) l_Mverse_of c_Mverse_of k_Mverse_of
    have b_verse_of : Binds K _ ["self", "number"] [] := F_verse_of.binds (ps := ["self", "number"]) fun _ _ _ _ _ _ us hl => match us, hl with | [_, _], _ => rfl
    have m_verse_of : C8.Met l.prog w K mg base 5 C "verse_of" (sp_verseOf C) [] := ⟨⟨_, _, _, _, EC.cl, ⟨i_Mverse_of, n_Mverse_of, k_Mverse_of⟩, ok_verseOf T EC m_place F_verse_of, b_verse_of, .nil⟩⟩
    have F_names := fun_mk (st := s_Edition_names) l_Mnames c_Mnames k_Mnames
    have b_names : Binds K _ ["self"] [] := F_names.binds (ps := ["self"]) fun _ _ _ _ _ _ us hl => match us, hl with | [_], _ => rfl
    have m_names : C8.Met l.prog w K mg base 2 C "names" (sp_namesE C) [] := ⟨⟨_, _, _, _, EC.cl, ⟨i_Mnames, n_Mnames, k_Mnames⟩, ok_namesE T EC F_names, b_names, .nil⟩⟩
    have F_chapters := fun_mk (st := s_Edition_chapters) l_Mchapters c_Mchapters k_Mchapters
    have b_chapters : Binds K _ ["self", "name"] [] := F_chapters.binds (ps := ["self", "name"]) fun _ _ _ _ _ _ us hl => match us, hl with | [_, _], _ => rfl
    have m_chapters : C8.Met l.prog w K mg base 3 C "chapters" (sp_chaptersE C) [] := ⟨⟨_, _, _, _, EC.cl, ⟨i_Mchapters, n_Mchapters, k_Mchapters⟩, ok_chaptersE T EC m__book F_chapters, b_chapters, .nil⟩⟩
    have F_verses := fun_mk (st := s_Edition_verses) l_Mverses c_Mverses k_Mverses
    have b_verses : Binds K _ ["self", "name", "chapter"] [] := F_verses.binds (ps := ["self", "name", "chapter"]) fun _ _ _ _ _ _ us hl => match us, hl with | [_, _, _], _ => rfl
    have m_verses : C8.Met l.prog w K mg base 4 C "verses" (sp_versesE C) [] := ⟨⟨_, _, _, _, EC.cl, ⟨i_Mverses, n_Mverses, k_Mverses⟩, ok_versesE T EC m__chapter F_verses, b_verses, .nil⟩⟩
    have F__spots_around := fun_mk (st := s_Edition__spots_around) l_M_spots_around c_M_spots_around k_M_spots_around
    have b__spots_around : Binds K _ ["self", "number"] [] := F__spots_around.binds (ps := ["self", "number"]) fun _ _ _ _ _ _ us hl => match us, hl with | [_, _], _ => rfl
    have m__spots_around : C8.Met l.prog w K mg base 5 C "_spots_around" (sp_around C) [] := ⟨⟨_, _, _, _, EC.cl, ⟨i_M_spots_around, n_M_spots_around, k_M_spots_around⟩, ok_around T EC m_place F__spots_around, b__spots_around, .nil⟩⟩
    have F_begins := fun_mk (st := s_Edition_begins) l_Mbegins c_Mbegins k_Mbegins
    have b_begins : Binds K _ ["self", "number"] [] := F_begins.binds (ps := ["self", "number"]) fun _ _ _ _ _ _ us hl => match us, hl with | [_, _], _ => rfl
    have m_begins : C8.Met l.prog w K mg base 6 C "begins" (sp_begins C) [] := ⟨⟨_, _, _, _, EC.cl, ⟨i_Mbegins, n_Mbegins, k_Mbegins⟩, ok_begins T EC m__spots_around F_begins, b_begins, .nil⟩⟩
    have F_ends := fun_mk (st := s_Edition_ends) l_Mends c_Mends k_Mends
    have b_ends : Binds K _ ["self", "number"] [] := F_ends.binds (ps := ["self", "number"]) fun _ _ _ _ _ _ us hl => match us, hl with | [_, _], _ => rfl
    have m_ends : C8.Met l.prog w K mg base 6 C "ends" (sp_ends C) [] := ⟨⟨_, _, _, _, EC.cl, ⟨i_Mends, n_Mends, k_Mends⟩, ok_ends T EC m__spots_around F_ends, b_ends, .nil⟩⟩
    have F_line_at := fun_mk (st := s_Edition_line_at) l_Mline_at c_Mline_at k_Mline_at
    have b_line_at : Binds K _ ["self", "number"] [] := F_line_at.binds (ps := ["self", "number"]) fun _ _ _ _ _ _ us hl => match us, hl with | [_, _], _ => rfl
    have m_line_at : C8.Met l.prog w K mg base 4 C "line_at" (sp_lineAt C) [] := ⟨⟨_, _, _, _, EC.cl, ⟨i_Mline_at, n_Mline_at, k_Mline_at⟩, ok_lineAt T EC m__check_number F_line_at, b_line_at, .nil⟩⟩
    have F_part_of := fun_mk (st := s_Edition_part_of) l_Mpart_of c_Mpart_of k_Mpart_of
    have b_part_of : Binds K _ ["self", "thing"] [] := F_part_of.binds (ps := ["self", "thing"]) fun _ _ _ _ _ _ us hl => match us, hl with | [_, _], _ => rfl
    have m_part_of : C8.Met l.prog w K mg base 3 C "part_of" (sp_partOf K C) [] := ⟨⟨_, _, _, _, EC.cl, ⟨i_Mpart_of, n_Mpart_of, k_Mpart_of⟩, ok_partOf T EC cWhole F_part_of, b_part_of, .nil⟩⟩
    have F_told := fun_mk (st := s_Edition_told) l_Mtold c_Mtold k_Mtold
    have b_told : Binds K _ ["self"] [] := F_told.binds (ps := ["self"]) fun _ _ _ _ _ _ us hl => match us, hl with | [_], _ => rfl
    have m_told : C8.Met l.prog w K mg base 3 C "told" (sp_told C) [] := ⟨⟨_, _, _, _, EC.cl, ⟨i_Mtold, n_Mtold, k_Mtold⟩, ok_told T EC F_told, b_told, .nil⟩⟩
    have cBen : Cl l.prog w K mg base 5 "_law_beneath" ["edition", "spot"] (sp_beneath C) := ok_beneath T m_chapters m_verses m_parts D__law_beneath
    have cLaid : Cl l.prog w K mg base 7 "_law_laid" ["edition", "spots", "first", "last"] (sp_laid C) := ok_laid T m_stretch D__law_laid
    have cAll : Cl l.prog w K mg base 8 "_law_all_spots" ["edition"] (sp_allSpots C) := ok_allSpots T m_names m_size m_stretch cLaid cBen D__law_all_spots
    have cRight : ClG l.prog w K mg base 9 "_law_right" ["edition", "size"] (sp_right10 C) := ok_right10 T m_size m_stretch m_begins m_ends m_place m_number m_verse_of m_part_of m_line_at cAll D__law_right
    have cEdN : MakN l.prog w K mg base 6 "Edition" C 1 ["lines"] (fun vs zs => vs ++ zs) (sp_init C) := ⟨fI, _, ["self", "books", "lines"], _, ⟨mkC, iI, nI, kC⟩, ok_init T EC cBks cPlaces cStret cKeptLn cFewest FI, PySem.W.mg_of X G aE, kbn_all (m := 2) lT rfl fun us ws hl hw => match us, ws, hl, hw with | [_, _], [_], _, _ => ⟨_, rfl, rfl⟩⟩
    exact ok_law T (fun_mk (st := s_law) l_law c_law k_law) cCell cBox cShapes cSize cNames (pairs2 cPairs) cEd cEdN m_told cRight⟩
end My
open PySem PySem.W PyProof.Rows
set_option maxHeartbeats 0 in
theorem PySem.Challenge.cw_bookplaces_k10_whole_each_part_once_holds : PySem.Challenge.rw_bookplaces_k10_whole_each_part_once.Holds := by
  w_on; o_law; k_head; (case hw => w_witness2)
  k_fill
  refine My.walk_ofG (l := PySem.Challenge.rw_bookplaces_k10_whole_each_part_once) (n := 63) (k := My.LV) (x := "script") (sp := fun w => My.sp_law _) rfl (by decide) rfl ⟨rfl, by decide, by decide⟩ (fun w h Y => PySem.W.kIn_of Y) ?F (fun _ _ a ns hl _ hS => ⟨a, ns, rfl, hS, hl, fun _ => rfl⟩)
  case F =>
    intro w mg fa h KX G hmg
    refine' My.all_mk KX G hmg ?a_is_number ?l_is_number ?c_is_number ?k_is_number ?a_is_whole ?l_is_whole ?c_is_whole ?k_is_whole ?a_is_name ?l_is_name ?c_is_name ?k_is_name ?a_is_made_of ?l_is_made_of ?c_is_made_of ?k_is_made_of ?a_is_tuple ?l_is_tuple ?c_is_tuple ?k_is_tuple ?a_is_row ?l_is_row ?c_is_row ?k_is_row ?a_kept_books ?l_kept_books ?c_kept_books ?k_kept_books ?a_kept_book ?l_kept_book ?c_kept_book ?k_kept_book ?a_kept_chapter ?l_kept_chapter ?c_kept_chapter ?k_kept_chapter ?a_check_counts ?l_check_counts ?c_check_counts ?k_check_counts ?a_kept_lines ?l_kept_lines ?c_kept_lines ?k_kept_lines ?a_lines_of_pair ?l_lines_of_pair ?c_lines_of_pair ?k_lines_of_pair ?a_fewest_pairs ?l_fewest_pairs ?c_fewest_pairs ?k_fewest_pairs ?a_places_in ?l_places_in ?c_places_in ?k_places_in ?a_stretches_of ?l_stretches_of ?c_stretches_of ?k_stretches_of ?a__law_cell ?l__law_cell ?c__law_cell ?k__law_cell ?a__law_box ?l__law_box ?c__law_box ?k__law_box ?a__law_take ?l__law_take ?c__law_take ?k__law_take ?a__law_names ?l__law_names ?c__law_names ?k__law_names ?a__law_shapes ?l__law_shapes ?c__law_shapes ?k__law_shapes ?a__law_verses ?l__law_verses ?c__law_verses ?k__law_verses ?a__law_pairs ?l__law_pairs ?c__law_pairs ?k__law_pairs ?a__law_size ?l__law_size ?c__law_size ?k__law_size ?a__law_beneath ?l__law_beneath ?c__law_beneath ?k__law_beneath ?a__law_laid ?l__law_laid ?c__law_laid ?k__law_laid ?a__law_all_spots ?l__law_all_spots ?c__law_all_spots ?k__law_all_spots ?a__law_right ?l__law_right ?c__law_right ?k__law_right ?a_law ?l_law ?c_law ?k_law ?z_LookupError ?z_ValueError ?z_all ?z_bool ?z_enumerate ?z_int ?z_isinstance ?z_len ?z_list ?z_max ?z_min ?z_range ?z_repr ?z_str ?z_sum ?z_tuple ?z_zip ?y_LAST_LINE ?y_LONGEST_NAME ?y_MOST_BOOKS ?y_MOST_BOOK_CHAPTERS ?y_MOST_CHAPTERS ?y_MOST_PAIRS ?y_MOST_PARTS ?y_MOST_VERSES ?y_MOST_VERSE_PARTS ?y_SMALL_LETTERS ?aE ?iI ?lI ?cI ?kI ?nI ?lT ?mkC ?kC ?pgC ?hdC ?poC ?saC ?w1 ?w2 ?w3 ?w4 ?w5 ?w6 ?w7 ?i_Msize ?l_Msize ?c_Msize ?k_Msize ?n_Msize ?i_M_check_number ?l_M_check_number ?c_M_check_number ?k_M_check_number ?n_M_check_number ?i_M_book ?l_M_book ?c_M_book ?k_M_book ?n_M_book ?i_M_chapter ?l_M_chapter ?c_M_chapter ?k_M_chapter ?n_M_chapter ?i_Mparts ?l_Mparts ?c_Mparts ?k_Mparts ?n_Mparts ?i_M_check_spot ?l_M_check_spot ?c_M_check_spot ?k_M_check_spot ?n_M_check_spot ?i_Mstretch ?l_Mstretch ?c_Mstretch ?k_Mstretch ?n_Mstretch ?i_Mnumber ?l_Mnumber ?c_Mnumber ?k_Mnumber ?n_Mnumber ?i_Mplace ?l_Mplace ?c_Mplace ?k_Mplace ?n_Mplace ?i_Mverse_of ?l_Mverse_of ?c_Mverse_of ?k_Mverse_of ?n_Mverse_of ?i_Mnames ?l_Mnames ?c_Mnames ?k_Mnames ?n_Mnames ?i_Mchapters ?l_Mchapters ?c_Mchapters ?k_Mchapters ?n_Mchapters ?i_Mverses ?l_Mverses ?c_Mverses ?k_Mverses ?n_Mverses ?i_M_spots_around ?l_M_spots_around ?c_M_spots_around ?k_M_spots_around ?n_M_spots_around ?i_Mbegins ?l_Mbegins ?c_Mbegins ?k_Mbegins ?n_Mbegins ?i_Mends ?l_Mends ?c_Mends ?k_Mends ?n_Mends ?i_Mline_at ?l_Mline_at ?c_Mline_at ?k_Mline_at ?n_Mline_at ?i_Mpart_of ?l_Mpart_of ?c_Mpart_of ?k_Mpart_of ?n_Mpart_of ?i_Mtold ?l_Mtold ?c_Mtold ?k_Mtold ?n_Mtold
    (case a_is_number => k_is); (case l_is_number => k_is); (case c_is_number => k_is); (case k_is_number => k_is); (case a_is_whole => k_is); (case l_is_whole => k_is)
    (case c_is_whole => k_is); (case k_is_whole => k_is); (case a_is_name => k_is); (case l_is_name => k_is); (case c_is_name => k_is); (case k_is_name => k_is)
    (case a_is_made_of => k_is); (case l_is_made_of => k_is); (case c_is_made_of => k_is); (case k_is_made_of => k_is); (case a_is_tuple => k_is); (case l_is_tuple => k_is)
    (case c_is_tuple => k_is); (case k_is_tuple => k_is); (case a_is_row => k_is); (case l_is_row => k_is); (case c_is_row => k_is); (case k_is_row => k_is)
    (case a_kept_books => k_is); (case l_kept_books => k_is); (case c_kept_books => k_is); (case k_kept_books => k_is); (case a_kept_book => k_is); (case l_kept_book => k_is)
    (case c_kept_book => k_is); (case k_kept_book => k_is); (case a_kept_chapter => k_is); (case l_kept_chapter => k_is); (case c_kept_chapter => k_is); (case k_kept_chapter => k_is)
    (case a_check_counts => k_is); (case l_check_counts => k_is); (case c_check_counts => k_is); (case k_check_counts => k_is); (case a_kept_lines => k_is); (case l_kept_lines => k_is)
    (case c_kept_lines => k_is); (case k_kept_lines => k_is); (case a_lines_of_pair => k_is); (case l_lines_of_pair => k_is); (case c_lines_of_pair => k_is); (case k_lines_of_pair => k_is)
    (case a_fewest_pairs => k_is); (case l_fewest_pairs => k_is); (case c_fewest_pairs => k_is); (case k_fewest_pairs => k_is); (case a_places_in => k_is); (case l_places_in => k_is)
    (case c_places_in => k_is); (case k_places_in => k_is); (case a_stretches_of => k_is); (case l_stretches_of => k_is); (case c_stretches_of => k_is); (case k_stretches_of => k_is)
    (case a__law_cell => k_is); (case l__law_cell => k_is); (case c__law_cell => k_is); (case k__law_cell => k_is); (case a__law_box => k_is); (case l__law_box => k_is)
    (case c__law_box => k_is); (case k__law_box => k_is); (case a__law_take => k_is); (case l__law_take => k_is); (case c__law_take => k_is); (case k__law_take => k_is)
    (case a__law_names => k_is); (case l__law_names => k_is); (case c__law_names => k_is); (case k__law_names => k_is); (case a__law_shapes => k_is); (case l__law_shapes => k_is)
    (case c__law_shapes => k_is); (case k__law_shapes => k_is); (case a__law_verses => k_is); (case l__law_verses => k_is); (case c__law_verses => k_is); (case k__law_verses => k_is)
    (case a__law_pairs => k_is); (case l__law_pairs => k_is); (case c__law_pairs => k_is); (case k__law_pairs => k_is); (case a__law_size => k_is); (case l__law_size => k_is)
    (case c__law_size => k_is); (case k__law_size => k_is); (case a__law_beneath => k_is); (case l__law_beneath => k_is); (case c__law_beneath => k_is); (case k__law_beneath => k_is)
    (case a__law_laid => k_is); (case l__law_laid => k_is); (case c__law_laid => k_is); (case k__law_laid => k_is); (case a__law_all_spots => k_is); (case l__law_all_spots => k_is)
    (case c__law_all_spots => k_is); (case k__law_all_spots => k_is); (case a__law_right => k_is); (case l__law_right => k_is); (case c__law_right => k_is); (case k__law_right => k_is)
    (case a_law => k_is); (case l_law => k_is); (case c_law => k_is); (case k_law => k_is); (case z_LookupError => k_is); (case z_ValueError => k_is)
    (case z_all => k_is); (case z_bool => k_is); (case z_enumerate => k_is); (case z_int => k_is); (case z_isinstance => k_is); (case z_len => k_is)
    (case z_list => k_is); (case z_max => k_is); (case z_min => k_is); (case z_range => k_is); (case z_repr => k_is); (case z_str => k_is)
    (case z_sum => k_is); (case z_tuple => k_is); (case z_zip => k_is); (case y_LAST_LINE => k_is); (case y_LONGEST_NAME => k_is); (case y_MOST_BOOKS => k_is)
    (case y_MOST_BOOK_CHAPTERS => k_is); (case y_MOST_CHAPTERS => k_is); (case y_MOST_PAIRS => k_is); (case y_MOST_PARTS => k_is); (case y_MOST_VERSES => k_is); (case y_MOST_VERSE_PARTS => k_is)
    (case y_SMALL_LETTERS => k_is); (case aE => k_is); (case iI => k_is); (case lI => k_is); (case cI => k_is); (case kI => k_is)
    (case nI => k_is); (case lT => k_is); (case mkC => k_is); (case kC => k_is); (case pgC => k_is); (case hdC => k_is)
    (case poC => k_is); (case saC => k_is); (case w1 => k_is); (case w2 => k_is); (case w3 => k_is); (case w4 => k_is)
    (case w5 => k_is); (case w6 => k_is); (case w7 => k_is); (case i_Msize => k_is); (case l_Msize => k_is); (case c_Msize => k_is)
    (case k_Msize => k_is); (case n_Msize => k_is); (case i_M_check_number => k_is); (case l_M_check_number => k_is); (case c_M_check_number => k_is); (case k_M_check_number => k_is)
    (case n_M_check_number => k_is); (case i_M_book => k_is); (case l_M_book => k_is); (case c_M_book => k_is); (case k_M_book => k_is); (case n_M_book => k_is)
    (case i_M_chapter => k_is); (case l_M_chapter => k_is); (case c_M_chapter => k_is); (case k_M_chapter => k_is); (case n_M_chapter => k_is); (case i_Mparts => k_is)
    (case l_Mparts => k_is); (case c_Mparts => k_is); (case k_Mparts => k_is); (case n_Mparts => k_is); (case i_M_check_spot => k_is); (case l_M_check_spot => k_is)
    (case c_M_check_spot => k_is); (case k_M_check_spot => k_is); (case n_M_check_spot => k_is); (case i_Mstretch => k_is); (case l_Mstretch => k_is); (case c_Mstretch => k_is)
    (case k_Mstretch => k_is); (case n_Mstretch => k_is); (case i_Mnumber => k_is); (case l_Mnumber => k_is); (case c_Mnumber => k_is); (case k_Mnumber => k_is)
    (case n_Mnumber => k_is); (case i_Mplace => k_is); (case l_Mplace => k_is); (case c_Mplace => k_is); (case k_Mplace => k_is); (case n_Mplace => k_is)
    (case i_Mverse_of => k_is); (case l_Mverse_of => k_is); (case c_Mverse_of => k_is); (case k_Mverse_of => k_is); (case n_Mverse_of => k_is); (case i_Mnames => k_is)
    (case l_Mnames => k_is); (case c_Mnames => k_is); (case k_Mnames => k_is); (case n_Mnames => k_is); (case i_Mchapters => k_is); (case l_Mchapters => k_is)
    (case c_Mchapters => k_is); (case k_Mchapters => k_is); (case n_Mchapters => k_is); (case i_Mverses => k_is); (case l_Mverses => k_is); (case c_Mverses => k_is)
    (case k_Mverses => k_is); (case n_Mverses => k_is); (case i_M_spots_around => k_is); (case l_M_spots_around => k_is); (case c_M_spots_around => k_is); (case k_M_spots_around => k_is)
    (case n_M_spots_around => k_is); (case i_Mbegins => k_is); (case l_Mbegins => k_is); (case c_Mbegins => k_is); (case k_Mbegins => k_is); (case n_Mbegins => k_is)
    (case i_Mends => k_is); (case l_Mends => k_is); (case c_Mends => k_is); (case k_Mends => k_is); (case n_Mends => k_is); (case i_Mline_at => k_is)
    (case l_Mline_at => k_is); (case c_Mline_at => k_is); (case k_Mline_at => k_is); (case n_Mline_at => k_is); (case i_Mpart_of => k_is); (case l_Mpart_of => k_is)
    (case c_Mpart_of => k_is); (case k_Mpart_of => k_is); (case n_Mpart_of => k_is); (case i_Mtold => k_is); (case l_Mtold => k_is); (case c_Mtold => k_is)
    (case k_Mtold => k_is); (case n_Mtold => k_is)
