import PyProof.Rows.All
import Wide.All
import OpenK.AllK
import Wide.FinOn
import HandS.ForMost
import HandS.Evl
import HandS.Codes
import HandS.IsInst
import HandS.RaiseMore
import HandS.TupAny
import HandS.ExcInit
import HandS.Walk
import KE.KExcIs
import PySem.Challenge.RW_bookplaces_k01_wholes_and_names
set_option Elab.async false
set_option linter.all false
set_option maxRecDepth 100000
/-! B0: what all of these proofs share. -/
namespace My
open PySem PySem.Spec PyProof.Rows L2
/-! ### defs called by their names -/
def Df (K : PySem.W.Frag) (mg : Str → Option Value) (x : Str) (st : Stmt) (ps : List Str) : Prop := ∃ f fd, Fun K x x st f fd ∧ mg x = some (.ref f) ∧ Binds K fd ps []
def Cl (P : Program) (w : World) (K : PySem.W.Frag) (mg : Str → Option Value) (base : Heap) (k : Nat) (x : Str) (ps : List Str) (sp : Sp) : Prop := ∃ f fd, FnOk P w K mg base CX0 k f fd ps sp ∧ mg x = some (.ref f) ∧ PySem.W.keepIn K (.ref f) = true ∧ Binds K fd ps []
section
variable {P : Program} {w : World} {K : PySem.W.Frag} {mg : Str → Option Value} {base : Heap}
theorem ok_of {x : Str} {st : Stmt} {N ps : List Str} {k : Nat} {sp : Sp} (D : Df K mg x st ps) (S : FnScope N ps (defScope st)) (len : ∀ vs H Q E, sp vs H Q E → vs.length = ps.length)
    (hbody : ∀ (f : Addr) (cdv : Value) (A : Around) (outer : List Env) (s : Shared) (H : Hp) (vs : List V) (Q : VK) (E : XK), Room k (A.deeper (envOfC x (defScope st) s.heap.objs.size f cdv)) → sp vs H Q E →
      ∃ t, PSs (cxOf CX0 P w K mg base N x (defScope st) f cdv A outer s H E).nox (defBody st) t ∧ t { nx := fun _ H' => Q .non H', rt := Q } (start N vs) H) : Cl P w K mg base (k + 1) x ps sp := by
  obtain ⟨f, fd, F, hm, b⟩ := D
  exact ⟨f, fd, F.ok S len (hbody f), hm, F.kp, b⟩
end
section
variable {X : Cx}
theorem pe_cl {k j : Nat} {x : Str} {ps : List Str} {sp : Sp} {e : Expr} {es : List Expr} {t : TA} {p pos : Pos} (c : Cl X.prog X.w X.K X.mg X.base k x ps sp) (hr : Room j X.A) (hk : k ≤ j) (hg : Gl X x) (ha : PA X (e :: es) t)
    (hdb : (x == ("__debug__" : Str)) = false := by decide) (he : starEach (e :: es) X.env = (false, eval e X.env) :: starEach es X.env := by rfl) (hpl : (backTo pos (starEach es X.env)).any (·.1) = false := by rfl) :
    PE X (.Call (.Name x p) (e :: es) [] pos) (tCall sp [] E0 t) := by
  obtain ⟨f, fd, F, hm, kp, b⟩ := c
  exact pe_call F (hr.mono hk) hg hm kp b .nil pass0 ha hdb he hpl
theorem call_repr_bool : CallR X (.builtin "repr") (fun xs H Q => ∃ b, xs = [.bl b] ∧ Q (.str (if b then "True" else "False")) H) := by
  intro pins s σ H xs us Q I r h
  obtain ⟨i, rfl, q⟩ := h
  obtain ⟨u, rfl, rfl⟩ := vals1 r
  exact PySem.P.repr_of_bool ⟨.str _, H, I.tok _, ⟨_, rfl⟩, q⟩
end
theorem repr_ne (a b : Bool) : (!decide ((V.str (if a then "True" else "False")) = V.str (if b then "True" else "False"))) = (a != b) := by
  cases a <;> cases b <;> decide +kernel

/-! ### heaps: all but the thing at p is as it was -/
def Bt (p : Addr) (H H' : Hp) : Prop := ∀ b o, b ≠ p → H b = some o → H' b = some o
theorem Bt.refl {p : Addr} {H : Hp} : Bt p H H := fun _ _ _ h => h
theorem Bt.trans {p : Addr} {H H1 H2 : Hp} (a : Bt p H H1) (b : Bt p H1 H2) : Bt p H H2 := fun c o n h => b c o n (a c o n h)
theorem Bt.same {p : Addr} {H H1 : Hp} (a : Same H H1) : Bt p H H1 := fun c o _ h => a c o h
theorem Bt.upd {p : Addr} {H : Hp} {o : HO} : Bt p H (upd H p o) := fun c o n h => by
  rw [upd_ne n]
  exact h
theorem Bt.new {p q : Addr} {H : Hp} {o : HO} (h : H q = none) : Bt p H (L2.upd H q o) := fun c u _ e => by
  rw [upd_ne (ne_of_none e h)]
  exact e
theorem same_new {H : Hp} {p : Addr} {o : HO} (h : H p = none) : Same H (upd H p o) := fun b x e => by
  rw [upd_ne (ne_of_none e h)]
  exact e

/-! ### the box of which the law draws -/
def bx (i j k : Int) : HO := .lst [.int i, .int j, .int k]
def Box (n : Nat) (H : Hp) (p : Addr) : Prop := ∃ i j k : Int, H p = some (bx i j k) ∧ 0 ≤ i ∧ 0 ≤ j ∧ j < 2147483587 ∧ 0 ≤ k ∧ k ≤ n
theorem Box.mono {n m : Nat} {H : Hp} {p : Addr} (h : Box n H p) (l : n ≤ m) : Box m H p := by
  obtain ⟨i, j, k, e, a, b, c, d, f⟩ := h
  exact ⟨i, j, k, e, a, b, c, d, by omega⟩
theorem Box.same {n : Nat} {H H' : Hp} {p : Addr} (h : Box n H p) (l : Same H H') : Box n H' p := by
  obtain ⟨i, j, k, e, a, b, c, d, f⟩ := h
  exact ⟨i, j, k, l _ _ e, a, b, c, d, f⟩
theorem Box.ne {n : Nat} {H : Hp} {p q : Addr} (h : Box n H p) (l : H q = none) : p ≠ q := by
  obtain ⟨i, j, k, e, _⟩ := h
  exact ne_of_none e l
/-- what a def that draws leaves: the box, some draws further on, and all else as it was -/
structure Dr (p : Addr) (n : Nat) (H H' : Hp) : Prop where
  box : Box n H' p
  bt : Bt p H H'
theorem nat_small {z : Int} {m : Nat} (h0 : 0 ≤ z) (h1 : z < m) : z.natAbs < m := by omega

def sp_cell (K : PySem.W.Frag) : Sp := fun vs H Q _ => ∃ (a : Addr) (ns : List Int) (k : Int), vs = [.ref a, .int k] ∧ SqL K H a (ns.map V.int) ∧ 0 ≤ k ∧ ∀ z, Q (.int z) H
def sp_box : Sp := fun vs H Q _ => ∃ c : Int, vs = [.int c] ∧ ∀ p H', H p = none → Same H H' → Box 0 H' p → Q (.ref p) H'
def sp_take : Sp := fun vs H Q _ => ∃ (p : Addr) (n : Nat) (m : Int), vs = [.ref p, .int m] ∧ Box n H p ∧ n ≤ 1000000 ∧ 0 < m ∧ m < 1073741824 ∧ ∀ d H', 0 ≤ d → d < m → Dr p (n + 1) H H' → Q (.int d) H'
end My
namespace My
open PySem PySem.Spec PyProof.Rows L2
theorem ix_some {α : Type} (xs : List α) {i : Int} (h0 : 0 ≤ i) (h1 : i < xs.length) : ∃ v, atI xs i = some v ∧ v ∈ xs := by
  have hj : i.toNat < xs.length := by omega
  refine ⟨xs[i.toNat], ?_, List.getElem_mem hj⟩
  have e : xs[i.toNat]? = some xs[i.toNat] := List.getElem?_eq_getElem hj
  have := atI_nat e
  rwa [Int.toNat_of_nonneg h0] at this
theorem Dr.refl {p : Addr} {n : Nat} {H : Hp} (h : Box n H p) : Dr p n H H := ⟨h, Bt.refl⟩
theorem Dr.trans {p : Addr} {n m : Nat} {H H1 H2 : Hp} (a : Dr p n H H1) (b : Dr p m H1 H2) : Dr p m H H2 := ⟨b.box, a.bt.trans b.bt⟩
theorem Dr.new {p q : Addr} {n : Nat} {H H1 : Hp} {o : HO} (a : Dr p n H H1) (h : H1 q = none) : Dr p n H (upd H1 q o) := ⟨a.box.same (same_new h), a.bt.trans (Bt.new h)⟩
theorem Dr.mono {p : Addr} {n m : Nat} {H H1 : Hp} (a : Dr p n H H1) (l : n ≤ m) : Dr p m H H1 := ⟨a.box.mono l, a.bt⟩
theorem joinL1 : ∀ cs : List Nat, TL.joinL [] (cs.map fun c => [c]) = cs
  | [] => rfl
  | [c] => rfl
  | c :: d :: r => by
    have e := joinL1 (d :: r)
    show c :: ([] ++ TL.joinL [] ((d :: r).map fun c => [c])) = c :: d :: r
    rw [List.nil_append, e]
theorem join_signs (cs : List Nat) : Txt.join ("" : Str) (cs.map fun c => (⟨#[c]⟩ : Str)) = SX.S cs := by
  have e := SX.join_S [] (cs.map fun c => [c])
  rw [joinL1, List.map_map] at e
  exact e
theorem lens1 : ∀ cs : List Nat, ((cs.map fun c => (⟨#[c]⟩ : Str)).map (·.length)).sum = cs.length
  | [] => rfl
  | c :: r => by
    have e := lens1 r
    rw [List.map_cons, List.map_cons, List.sum_cons, e, List.length_cons]
    show 1 + r.length = r.length + 1
    omega
end My
set_option Elab.async false
set_option linter.all false
set_option maxRecDepth 100000
set_option maxHeartbeats 4000000
/-! B1: an own exception as a value: made by its own __init__, its base's __init__ called by the class's name, isinstance of it. -/
namespace My
open PySem PySem.Spec PyProof.Rows L2
theorem S_le {l : List Nat} (h : l.length ≤ 1000) : (SX.S l).length ≤ sizeLine := by
  rw [SX.S_len]
  exact Nat.le_trans h (by decide)
theorem sign_ok {c : Nat} (h : c < 128) : PyData.strOk (⟨#[c]⟩ : Str) = true := by
  simp [PyData.strOk]
  omega
theorem lay_signs : ∀ cs : List Nat, (∀ c ∈ cs, c < 128) → PyData.canLayAll0 (cs.map fun c => PyData.str ⟨#[c]⟩) = true
  | [], _ => rfl
  | c :: r, h => by
    show (PyData.strOk (⟨#[c]⟩ : Str) && PyData.canLayAll0 (r.map fun c => PyData.str ⟨#[c]⟩)) = true
    rw [sign_ok (h c (List.mem_cons_self ..)), lay_signs r fun d hd => h d (List.mem_cons_of_mem _ hd)]
    rfl
theorem dep_signs : ∀ cs : List Nat, PyData.depthAll (cs.map fun c => PyData.str ⟨#[c]⟩) = 0
  | [] => rfl
  | c :: r => by
    show max 0 (PyData.depthAll (r.map fun c => PyData.str ⟨#[c]⟩)) = 0
    rw [dep_signs r]
    rfl
theorem shaped_signs {cs : List Nat} (h : ∀ c ∈ cs, c < 128) : SeqAt.shaped (.list (cs.map fun c => PyData.str ⟨#[c]⟩)) = true := by
  unfold SeqAt.shaped
  rw [Bool.and_eq_true]
  refine ⟨lay_signs cs h, decide_eq_true ?_⟩
  show PyData.depthAll _ + 1 ≤ 64
  rw [dep_signs]
  decide
theorem dpall_signs {K : PySem.W.Frag} {H : Hp} : ∀ cs : List Nat, DpAll K H (cs.map fun c => V.str ⟨#[c]⟩) (cs.map fun c => PyData.str ⟨#[c]⟩)
  | [] => .nil
  | c :: r => .cons (.str _) (dpall_signs r)
theorem eqv_nil (ds : List PyData) : PyData.eqv (.list ds) (.list []) = ds.isEmpty := by
  cases ds with
  | nil => rfl
  | cons a r => rfl
/-- C(e, ..) as a value, C's own __init__ keeping sp -/
def tMkV (C : Addr) (sp : Sp) (ta : TA) : TE := fun σ H Q => ta σ H fun vs H1 => vs.length ≤ 1000 ∧ ∀ a, H1 a = none → sp (.ref a :: vs) (upd H1 a (exo a C none)) (fun v H2 => v = .non ∧ Q (.ref a) H2) E0
section
variable {X : Cx} {e : Expr} {es : List Expr} {ta : TA} {p p1 p2 pos : Pos}
theorem pe_oexv {x : Str} {C fI : Addr} {k : Nat} {fd : FuncData} {ps : List Str} {sp : Sp} (T : OexC X.K C) (iC : PySem.W.findIn X.K (.ref C) "__init__" = some (some (.ref fI))) (tI : PySem.W.typeIn X.K (.ref fI) = some (.type "function"))
    (F1 : FnOk X.prog X.w X.K X.mg X.base CX0 k fI fd ps sp) (hr : Room (k + 1) X.A) (hb : Binds X.K fd ps []) (hg : Gl X x) (hm : X.mg x = some (.ref C)) (ha : PA X (e :: es) ta)
    (hdb : (x == ("__debug__" : Str)) = false := by decide) (he : starEach (e :: es) X.env = (false, eval e X.env) :: starEach es X.env := by rfl) (hpl : (backTo pos (starEach es X.env)).any (·.1) = false := by rfl) :
    PE X (.Call (.Name x p) (e :: es) [] pos) (tMkV C sp ta) := by
  refine ⟨fun pins s σ H Q I h => ?_⟩
  obtain ⟨nm, q, N, bs, bm, sn, sub, ab, col, dd, k0, k1, k2, k3, k5, hC, hbm⟩ := T.cls
  refine wpAny_Call_Name_kw (ld_glob I hg hm ?_ hdb)
  refine PySem.W.callWith_K (h₀ := X.base) I.ok.mod.kin T.kC (thn (ha.run pos pins s σ H _ I h) fun us s1 ⟨vs, H1, I1, r1, hz, q1⟩ => ⟨I1.kIn, ?_⟩) he hpl
  show wpAny _ _ (call (.ref C) us) _ _ _
  obtain ⟨hp, g, dr, tk, os⟩ := s1
  have hsz : hp.objs.size ≤ hp.objs.size + 1 := Nat.le_succ _
  have hn : H1 (hp.objs.size + 1) = none := I1.hok.fresh hsz
  have hq := q1 (hp.objs.size + 1) hn
  have kk : ∀ b o, hp.get? b = some o → ((hp.push (PySem.W.kdv_tup us)).push (PySem.HandSPX.excO C hp.objs.size)).get? b = some o := fun b o e => Heap.get?_push_of_some _ (Heap.get?_push_of_some _ e)
  have hget : ((hp.push (PySem.W.kdv_tup us)).push (PySem.HandSPX.excO C hp.objs.size)).get? (hp.objs.size + 1) = some (PySem.HandSPX.excO C hp.objs.size) := by heap_get
  have I2 : Inv X pins σ (upd H1 (hp.objs.size + 1) (exo (hp.objs.size + 1) C none)) ⟨(hp.push (PySem.W.kdv_tup us)).push (PySem.HandSPX.excO C hp.objs.size), g, dr, tk, os⟩ :=
    I1.laid (t' := tk) (a := hp.objs.size + 1) (o := exo (hp.objs.size + 1) C none) (h' := (hp.push (PySem.W.kdv_tup us)).push (PySem.HandSPX.excO C hp.objs.size)) kk hsz (exo_ok hget)
  have r2 : Vals (V.ref (hp.objs.size + 1) :: vs) (Value.ref (hp.objs.size + 1) :: us) := .cons rfl r1
  have hl : (Value.ref (hp.objs.size + 1) :: us ++ []).length = ps.length := by
    rw [List.append_nil]
    have e := r2.length
    rw [F1.len _ _ _ _ hq] at e
    exact e.symm
  have hus : us.length ≤ sizeLine := by
    rw [← Paired.length r1, sizeLine_eq]
    omega
  have hbb := hb ⟨(hp.push (PySem.W.kdv_tup us)).push (PySem.HandSPX.excO C hp.objs.size), g, dr, tk, os⟩ (Value.ref (hp.objs.size + 1) :: us) I2.kIn hl
  rw [List.append_nil] at hbb
  refine wpAny_call (PySem.HandSPX.call_own F.excBase_ValueError (fun Y => PySem.HandSPX.refsVE_contains Y bm hbm) (I1.kIn _ _ hC) (PySem.W.looks_findIn I1.kIn iC) (fun self => PySem.W.bind_fn I1.kIn self tI) hus
    (codeAny_mono (F1.run _ X.stack _ _ ⟨Value.ref (hp.objs.size + 1) :: us, []⟩ (Value.ref (hp.objs.size + 1) :: us) _ _ (fun _ _ _ => False) (hr.make C us []) (I2.env0.make C us []) hbb r2 hq) fun r s' hq' => ?_))
  cases r with
  | error er => exact pass0 pins σ _ _ er s' I2 hq'
  | ok fl =>
    cases fl with
    | ret u =>
      obtain ⟨v, H2, os2, bare2, un2, hok2, rv, ev, q2⟩ := hq'
      subst ev
      exact ⟨rv, .ref (hp.objs.size + 1), H2, I2.call' (ch := []) os2 un2 hok2 bare2 (fun b z => absurd z (by simp)), rfl, q2⟩
    | next => exact False.elim hq'
    | brk => exact False.elim hq'
    | cont => exact False.elim hq'
/-- what the written part says of reading a def off the class at C -/
structure CDef (K : PySem.W.Frag) (C : Addr) (m : Str) (f : Addr) : Prop where
  ga : PySem.W.specialIn K (.ref C) "__getattribute__" = some (some (.builtin "type.__getattribute__"))
  rd : PySem.W.readsIn K C (.type "type") = true
  at_ : PySem.W.findCls K (.ref C) (.type "type") m = some (.val (.ref f))
/-- C.m(self, ..) -/
theorem pe_cinit {pl : Sem Bool} {x m : Str} {C f : Addr} {k : Nat} {fd : FuncData} {ps : List Str} {sp : Sp} (c : CDef X.K C m f) (F : FnOk X.prog X.w X.K X.mg X.base CX0 k f fd ps sp) (hr : Room k X.A) (hg : Gl X x) (hm : X.mg x = some (.ref C)) (hk : PySem.W.keepIn X.K (.ref f) = true) (hb : Binds X.K fd ps [])
    (ha : PA X (e :: es) ta) (hdb : (x == ("__debug__" : Str)) = false := by decide)
    (hc : eval (.Call (.Attribute (.Name x p1) m p2) (e :: es) [] pos) X.env = (do
      let ov ← eval (.Name x p1) X.env
      standAt p2.atName
      let (f, first) ← holding [ov] (getMethod ov m pl)
      callWith pos f first (backTo pos (starEach (e :: es) X.env)) (backToKw pos (keywordEach [] X.env))) := by rfl)
    (he : starEach (e :: es) X.env = (false, eval e X.env) :: starEach es X.env := by rfl) (hpl : (backTo pos (starEach es X.env)).any (·.1) = false := by rfl) :
    PE X (.Call (.Attribute (.Name x p1) m p2) (e :: es) [] pos) (tCall sp [] E0 ta) := by
  refine ⟨fun pins s σ H Q I h => ?_⟩
  refine PySem.W.methodCall_KW (ld_glob I hg hm ?_ hdb) hc
  refine PySem.W.method_cls I.kIn c.ga (PySem.W.cls_value I.kIn c.rd c.at_ rfl ?_)
  show wpAny _ _ (callWith pos (Value.ref f) [] (backTo pos (starEach (e :: es) X.env)) []) _ _ _
  refine PySem.W.callWith_K (h₀ := X.base) I.ok.mod.kin hk (thn (ha.run pos pins _ σ H _ (I.tok _) h) fun us s1 ⟨vs, H1, I1, r, q⟩ => ⟨I1.kIn, ?_⟩) he hpl
  exact run_fn F hr hb .nil pass0 I1 r q
end
/-- a made exception of the class at C, its fields (the newest first) -/
def Exn (H : Hp) (a C : Addr) (fs : List (Str × V)) : Prop := ∃ dx, H a = some (exo a C (some dx)) ∧ H dx = some (exd dx fs)
theorem Exn.same {H H' : Hp} {a C : Addr} {fs : List (Str × V)} (h : Exn H a C fs) (s : Same H H') : Exn H' a C fs := by
  obtain ⟨dx, h1, h2⟩ := h
  exact ⟨dx, s _ _ h1, s _ _ h2⟩
/-- what isinstance asks of its class -/
structure ExI (K : PySem.W.Frag) (C : Addr) : Prop where
  cl : (PySem.W.clsIn K C).isSome = true
  ga : PySem.W.findIn K (.ref C) "__getattribute__" = some (some (.builtin "BaseException.__getattribute__"))
  gt : PySem.W.findIn K (.ref C) "__getattr__" = some none
  sub : PySem.W.subIn K (.ref C) (.type "BaseException") = some true
  ca : PySem.W.findIn K (.ref C) "__class__" = some (some (.builtin "object.__class__"))
  hn : PySem.W.specialIn K (.builtin "object.__class__") "__get__" = some (some (.builtin "getset_descriptor.__get__"))
  tk : PySem.W.takesIn K (.builtin "object.__class__") = some true
  hm : PySem.W.mroIn K C (.type "object") = some true
section
variable {X : Cx} {pins : List (Addr × Obj)} {σ : L2.St} {H : Hp} {s : Shared}
theorem exn_inst {a C : Addr} {fs : List (Str × V)} (I : Inv X pins σ H s) (h : Exn H a C fs) : ∃ ox oD, PySem.W.InstAt s.heap a ox C (some oD) := by
  obtain ⟨dx, h1, h2⟩ := h
  obtain ⟨t1, ho⟩ := exo_at I.hok h1
  obtain ⟨mA, hns, rel⟩ := exd_at I.hok h2
  obtain ⟨oD, _, _, hoD, _, _⟩ := hns.count (within_of rel)
  exact ⟨_, oD, ho, rfl, rfl, hoD⟩
/-- isinstance(x, c): x a made exception -/
theorem call_isx : CallR X (.builtin "isinstance") (fun xs H Q => ∃ (a C : Addr) (fs : List (Str × V)) (c : V) (u : Value) (b : Bool), xs = [.ref a, c] ∧ Exn H a C fs ∧ ExI X.K C ∧ ClsV c u ∧ PySem.W.kitOne X.K (.ref C) u = some b ∧ Q (.bl b) H) := by
  intro pins s σ H xs us Q I r h
  obtain ⟨a, C, fs, c, u, b, rfl, hx, D, k, e, q⟩ := h
  obtain ⟨u1, u2, rfl, r1, r2⟩ := vals2 r
  have e2 := k.eq r2
  subst e2
  cases (show u1 = Value.ref a from r1)
  obtain ⟨ox, oD, hI⟩ := exn_inst I hx
  exact PySem.W.kia_one (PySem.W.kitx_exc (x := a) (ox := ox) (od := some oD) D.cl D.ga D.gt D.sub D.ca D.hn D.tk D.hm) I.kIn hI e (fun z => nomatch z) fun tk => ⟨.bl b, H, I.tok tk, rfl, q⟩
/-- both -/
theorem call_isb : CallR X (.builtin "isinstance") (fun xs H Q => rIsi X.K xs H Q ∨ ∃ (a C : Addr) (fs : List (Str × V)) (c : V) (u : Value) (b : Bool), xs = [.ref a, c] ∧ Exn H a C fs ∧ ExI X.K C ∧ ClsV c u ∧ PySem.W.kitOne X.K (.ref C) u = some b ∧ Q (.bl b) H) := CallR.or call_isi call_isx
end
end My
set_option Elab.async false
set_option linter.all false
set_option maxRecDepth 100000
set_option maxHeartbeats 4000000
namespace My
open PySem PySem.Spec PyProof.Rows L2
def topS (i : Nat) : Stmt := PySem.Challenge.pw_bookplaces_k01_wholes_and_names.main.body.getD i (.Pass ⟨0, 0, 0, 0⟩)
abbrev s_PlaceError___init__ : Stmt := inClass (topS 1) 0
abbrev N_PlaceError___init__ : List Str := ["self", "text"]
theorem sc_PlaceError___init__ : FnScope N_PlaceError___init__ ["self", "text"] (defScope s_PlaceError___init__) := ⟨rfl, rfl, rfl, by decide +kernel, rfl, by decide +kernel, by decide +kernel⟩
abbrev s_NoNumber___init__ : Stmt := inClass (topS 2) 0
abbrev N_NoNumber___init__ : List Str := ["self", "found"]
theorem sc_NoNumber___init__ : FnScope N_NoNumber___init__ ["self", "found"] (defScope s_NoNumber___init__) := ⟨rfl, rfl, rfl, by decide +kernel, rfl, by decide +kernel, by decide +kernel⟩
abbrev s_is_number : Stmt := topS 6
abbrev N_is_number : List Str := ["thing"]
theorem sc_is_number : FnScope N_is_number ["thing"] (defScope s_is_number) := ⟨rfl, rfl, rfl, by decide +kernel, rfl, by decide +kernel, by decide +kernel⟩
abbrev s_is_whole : Stmt := topS 7
abbrev N_is_whole : List Str := ["thing", "low", "high"]
theorem sc_is_whole : FnScope N_is_whole ["thing", "low", "high"] (defScope s_is_whole) := ⟨rfl, rfl, rfl, by decide +kernel, rfl, by decide +kernel, by decide +kernel⟩
abbrev s_is_name : Stmt := topS 8
abbrev N_is_name : List Str := ["thing"]
theorem sc_is_name : FnScope N_is_name ["thing"] (defScope s_is_name) := ⟨rfl, rfl, rfl, by decide +kernel, rfl, by decide +kernel, by decide +kernel⟩
abbrev s_is_made_of : Stmt := topS 9
abbrev N_is_made_of : List Str := ["thing", "signs", "most", "sign"]
theorem sc_is_made_of : FnScope N_is_made_of ["thing", "signs", "most"] (defScope s_is_made_of) := ⟨rfl, rfl, rfl, by decide +kernel, rfl, by decide +kernel, by decide +kernel⟩
abbrev s__law_cell : Stmt := topS 11
abbrev N__law_cell : List Str := ["script", "k"]
theorem sc__law_cell : FnScope N__law_cell ["script", "k"] (defScope s__law_cell) := ⟨rfl, rfl, rfl, by decide +kernel, rfl, by decide +kernel, by decide +kernel⟩
abbrev s__law_box : Stmt := topS 12
abbrev N__law_box : List Str := ["cell"]
theorem sc__law_box : FnScope N__law_box ["cell"] (defScope s__law_box) := ⟨rfl, rfl, rfl, by decide +kernel, rfl, by decide +kernel, by decide +kernel⟩
abbrev s__law_take : Stmt := topS 13
abbrev N__law_take : List Str := ["box", "many", "digit", "number"]
theorem sc__law_take : FnScope N__law_take ["box", "many"] (defScope s__law_take) := ⟨rfl, rfl, rfl, by decide +kernel, rfl, by decide +kernel, by decide +kernel⟩
abbrev s__law_thing : Stmt := topS 14
abbrev N__law_thing : List Str := ["box", "some"]
theorem sc__law_thing : FnScope N__law_thing ["box"] (defScope s__law_thing) := ⟨rfl, rfl, rfl, by decide +kernel, rfl, by decide +kernel, by decide +kernel⟩
abbrev s__law_number : Stmt := topS 15
abbrev N__law_number : List Str := ["box", "way"]
theorem sc__law_number : FnScope N__law_number ["box"] (defScope s__law_number) := ⟨rfl, rfl, rfl, by decide +kernel, rfl, by decide +kernel, by decide +kernel⟩
abbrev s__law_bounds : Stmt := topS 16
abbrev N__law_bounds : List Str := ["box", "number", "low", "high", "most"]
theorem sc__law_bounds : FnScope N__law_bounds ["box", "number"] (defScope s__law_bounds) := ⟨rfl, rfl, rfl, by decide +kernel, rfl, by decide +kernel, by decide +kernel⟩
abbrev s__law_text : Stmt := topS 17
abbrev N__law_text : List Str := ["box", "letters", "signs", "spoilt", "gone", "sign", "size", "text", "at", "k"]
theorem sc__law_text : FnScope N__law_text ["box"] (defScope s__law_text) := ⟨rfl, rfl, rfl, by decide +kernel, rfl, by decide +kernel, by decide +kernel⟩
abbrev s__law_whole_due : Stmt := topS 18
abbrev N__law_whole_due : List Str := ["thing", "low", "high"]
theorem sc__law_whole_due : FnScope N__law_whole_due ["thing", "low", "high"] (defScope s__law_whole_due) := ⟨rfl, rfl, rfl, by decide +kernel, rfl, by decide +kernel, by decide +kernel⟩
abbrev s__law_name_due : Stmt := topS 19
abbrev N__law_name_due : List Str := ["thing", "sign"]
theorem sc__law_name_due : FnScope N__law_name_due ["thing"] (defScope s__law_name_due) := ⟨rfl, rfl, rfl, by decide +kernel, rfl, by decide +kernel, by decide +kernel⟩
abbrev s_law : Stmt := topS 20
abbrev N_law : List Str := ["script", "k", "box", "number", "bounds", "thing", "low", "high"]
theorem sc_law : FnScope N_law ["script"] (defScope s_law) := ⟨rfl, rfl, rfl, by decide +kernel, rfl, by decide +kernel, by decide +kernel⟩
/-- what the top leaves: names that are not its own, constants -/
structure Txt (K : PySem.W.Frag) (mg : Str → Option Value) : Prop where
  b_ValueError : mg "ValueError" = none
  b_all : mg "all" = none
  b_bool : mg "bool" = none
  b_int : mg "int" = none
  b_isinstance : mg "isinstance" = none
  b_len : mg "len" = none
  b_max : mg "max" = none
  b_min : mg "min" = none
  b_range : mg "range" = none
  b_repr : mg "repr" = none
  b_str : mg "str" = none
  g_LONGEST_NAME : ∃ u, mg "LONGEST_NAME" = some u ∧ RelV (.int 6) u
  g_SMALL_LETTERS : ∃ u, mg "SMALL_LETTERS" = some u ∧ RelV (.str "abcdefghijklmnopqrstuvwxyz") u
section
variable {P : Program} {w : World} {K : PySem.W.Frag} {mg : Str → Option Value} {base : Heap}
theorem ok_cell (T : Txt K mg) (D : Df K mg "_law_cell" s__law_cell ["script", "k"]) : Cl P w K mg base 2 "_law_cell" ["script", "k"] (sp_cell K) := by
  refine ok_of D sc__law_cell (fun vs H Q E h => ?_) (fun f cdv A outer s H vs Q E hr h => ?_)
  · obtain ⟨a, ns, k, rfl, _⟩ := h
    rfl
  · obtain ⟨a, ns, k, rfl, hS, hk, q⟩ := h
    refine ⟨_, (pss_cons (ps_if (pt_cmpR op_lt (pv 1) (pe_callB call_len (by rfl) T.b_len (by decide +kernel) (pa_cons (pv 0) pa_nil)) (nomark _)) (pss_one (ps_ret (pe_ix ix_list (pv 0) (pv 1) (fun _ _ => rfl)))) pss_nil)
      (pss_one (ps_ret (pe_op op_add (pe_op op_mul pe_int (pv 1)) pe_int)))), ?_⟩
    refine ⟨.int k, rfl, .ref a, rfl, _, _, rfl, .inl ⟨_, hS, rfl⟩, k, _, rfl, rfl, _, rfl, ite2 (fun e => ?_) (fun e => ?_)⟩
    · have e1 : k < ((ns.map V.int).length : Int) := of_decide_eq_true e
      rw [List.length_map] at e1
      have hj : k.toNat < ns.length := by omega
      have hx : (ns.map V.int)[k.toNat]? = some (.int ns[k.toNat]) := by
        rw [List.getElem?_map, List.getElem?_eq_getElem hj]
        rfl
      exact ⟨.ref a, rfl, .int k, rfl, a, _, k, _, rfl, rfl, hS, at_of (j := k.toNat) (by omega) hx, q _⟩
    · exact ⟨.int k, rfl, 6007, k, rfl, rfl, .inl (by decide), 6007 * k, 41, rfl, rfl, q _⟩
theorem ok_box (T : Txt K mg) (D : Df K mg "_law_box" s__law_box ["cell"]) : Cl P w K mg base 2 "_law_box" ["cell"] sp_box := by
  refine ok_of D sc__law_box (fun vs H Q E h => ?_) (fun f cdv A outer s H vs Q E hr h => ?_)
  · obtain ⟨a, rfl, _⟩ := h
    rfl
  · obtain ⟨c, rfl, q⟩ := h
    refine ⟨_, (pss_one (ps_ret (pe_lst (pa_cons (pe_callB (call_max2 rfl) (by rfl) T.b_max (by decide +kernel) (pa_cons pe_int (pa_cons (pe_op op_sub (pv 0) (pe_op op_pow pe_int pe_int)) pa_nil))) (pa_cons (pe_op op_mod (pv 0) pe_int) (pa_cons pe_int pa_nil)))))), ?_⟩
    refine ⟨.int c, rfl, 10, 18, rfl, rfl, ⟨by decide, by decide, by decide⟩, c, _, rfl, rfl, 0, _, rfl, .int c, rfl, c, _, rfl, rfl, (by show (0 : Int) < 2147483587; decide), (by show 3 ≤ sizeLine; decide), fun p hp => ?_⟩
    refine q p _ hp (same_new hp) ⟨_, _, _, upd_same, ?_, Int.emod_nonneg _ (by decide), Int.emod_lt_of_pos _ (by decide), Int.le_refl _, Int.le_refl _⟩
    split <;> omega
theorem ok_take (T : Txt K mg) (D : Df K mg "_law_take" s__law_take ["box", "many"]) : Cl P w K mg base 2 "_law_take" ["box", "many"] sp_take := by
  refine ok_of D sc__law_take (fun vs H Q E h => ?_) (fun f cdv A outer s H vs Q E hr h => ?_)
  · obtain ⟨a, n, m, rfl, _⟩ := h
    rfl
  · obtain ⟨p, n, m, rfl, ⟨i, j, k, hp, hi, hj0, hj1, hk0, hk1⟩, hn, hm0, hm1, q⟩ := h
    refine ⟨_, (pss_cons (ps_if (pt_cmpR op_gt (pe_ix ix_list (pv 0) pe_int (fun _ _ => rfl)) pe_int (nomark _)) (pss_cons (ps_set (i := 2) sc__law_take.nd rfl (.inl rfl) (pe_op op_mod (pe_ix ix_list (pv 0) pe_int (fun _ _ => rfl)) (pv 1)))
        (pss_cons (ps_asg (pe_op op_fdiv (pe_ix ix_list (pv 0) pe_int (fun _ _ => rfl)) (pv 1)) (pg_sub (pv 0) pe_int set_list))
        (pss_one (ps_ret (pv 2))))) pss_nil)
      (pss_cons (ps_asg (pe_op op_add (pe_ix ix_list (pv 0) pe_int (fun _ _ => rfl)) pe_int) (pg_sub (pv 0) pe_int set_list))
      (pss_cons (ps_set (i := 3) sc__law_take.nd rfl (.inl rfl) (pe_op op_mod (pe_op op_pow (pe_op op_add (pe_op op_add (pe_ix ix_list (pv 0) pe_int (fun _ _ => rfl)) (pe_op op_mul pe_int (pe_ix ix_list (pv 0) pe_int (fun _ _ => rfl)))) pe_int) pe_int) pe_int))
      (pss_cons (ps_set (i := 3) sc__law_take.nd rfl (.inl rfl) (pe_op op_mod (pe_op op_pow (pe_op op_add (pv 3) (pe_op op_mul pe_int (pe_ix ix_list (pv 0) pe_int (fun _ _ => rfl)))) pe_int) pe_int))
      (pss_one (ps_ret (pe_op op_mod (pe_op op_fdiv (pv 3) pe_int) (pv 1)))))))), ?_⟩
    have L : SqL K H p [.int i, .int j, .int k] := .inl (.inl hp)
    refine ⟨.ref p, rfl, p, _, 0, .int i, rfl, rfl, L, atI_nat (j := 0) rfl, i, 0, rfl, rfl, _, rfl, ite2 (fun e => ?_) (fun e => ?_)⟩
    · -- digit = box[0] % many; box[0] = box[0] // many; return digit
      refine ⟨.ref p, rfl, p, _, 0, .int i, rfl, rfl, L, atI_nat (j := 0) rfl, .int m, rfl, i, m, rfl, rfl, hm0, ?_⟩
      refine ⟨.ref p, rfl, p, _, 0, .int i, rfl, rfl, L, atI_nat (j := 0) rfl, .int m, rfl, i, m, rfl, rfl, ⟨hm0, hm1⟩, .ref p, rfl, p, _, 0, 0, rfl, rfl, hp, rfl, ?_⟩
      refine ⟨_, rfl, q _ _ (Int.emod_nonneg _ (by omega)) (Int.emod_lt_of_pos _ hm0) ⟨⟨i / m, j, k, upd_same, Int.ediv_nonneg hi (by omega), hj0, hj1, hk0, by omega⟩, Bt.upd⟩⟩
    · -- box[2] = box[2] + 1
      refine ⟨.ref p, rfl, p, _, 2, .int k, rfl, rfl, L, atI_nat (j := 2) rfl, k, 1, rfl, rfl, .ref p, rfl, p, _, 2, 2, rfl, rfl, hp, rfl, ?_⟩
      have hp1 : (upd H p (.lst [V.int i, V.int j, V.int (k + 1)])) p = some (.lst [V.int i, V.int j, V.int (k + 1)]) := upd_same
      have L1 : SqL K (upd H p (.lst [V.int i, V.int j, V.int (k + 1)])) p [.int i, .int j, .int (k + 1)] := .inl (.inl hp1)
      have b1 : (j + 40503 * (k + 1) + 3).natAbs < 2 ^ 64 := by omega
      refine ⟨.ref p, rfl, p, _, 1, .int j, rfl, rfl, L1, atI_nat (j := 1) rfl, .ref p, rfl, p, _, 2, .int (k + 1), rfl, rfl, L1, atI_nat (j := 2) rfl, 40503, k + 1, rfl, rfl, .inl (by decide), j, _, rfl, rfl, _, 3, rfl, rfl, _, 5, rfl, rfl, ⟨by decide, by decide, b1⟩, _, 2147483647, rfl, rfl, (by show (0 : Int) < 2147483647; decide), ?_⟩
      have c0 := Int.emod_nonneg ((j + 40503 * (k + 1) + 3) ^ (5 : Int).toNat) (show (2147483647 : Int) ≠ 0 by decide)
      have c1 := Int.emod_lt_of_pos ((j + 40503 * (k + 1) + 3) ^ (5 : Int).toNat) (show (0 : Int) < 2147483647 by decide)
      have b2 : ((j + 40503 * (k + 1) + 3) ^ (5 : Int).toNat % 2147483647 + 75011 * (k + 1)).natAbs < 2 ^ 64 := by
        generalize (j + 40503 * (k + 1) + 3) ^ (5 : Int).toNat % 2147483647 = x1 at c0 c1 ⊢
        omega
      refine ⟨_, rfl, .ref p, rfl, p, _, 2, .int (k + 1), rfl, rfl, L1, atI_nat (j := 2) rfl, 75011, k + 1, rfl, rfl, .inl (by decide), _, _, rfl, rfl, _, 5, rfl, rfl, ⟨by decide, by decide, b2⟩, _, 2147483629, rfl, rfl, (by show (0 : Int) < 2147483629; decide), ?_⟩
      refine ⟨_, rfl, _, 32, rfl, rfl, ⟨by decide, by decide⟩, .int m, rfl, _, m, rfl, rfl, hm0, ?_⟩
      exact q _ _ (Int.emod_nonneg _ (by omega)) (Int.emod_lt_of_pos _ hm0) ⟨⟨i, j, k + 1, hp1, hi, hj0, hj1, by omega, by omega⟩, Bt.upd⟩
end
end My
set_option Elab.async false
set_option linter.all false
set_option maxHeartbeats 4000000
namespace My
open PySem PySem.Spec PyProof.Rows L2
/-- a def that draws and hands back a whole number -/
def sp_drawI (c : Nat) : Sp := fun vs H Q _ => ∃ (p : Addr) (n : Nat), vs = [.ref p] ∧ Box n H p ∧ n ≤ 900000 ∧ ∀ z H', Dr p (n + c) H H' → Q (.int z) H'
def sp_bounds : Sp := fun vs H Q _ => ∃ (p : Addr) (n : Nat) (z : Int), vs = [.ref p, .int z] ∧ Box n H p ∧ n ≤ 900000 ∧ ∀ t a b H', Dr p (n + 2) H H' → t ≠ p → H' t = some (.tup [.int a, .int b]) → Q (.ref t) H'
def sp_text : Sp := fun vs H Q _ => ∃ (p : Addr) (n : Nat), vs = [.ref p] ∧ Box n H p ∧ n ≤ 900000 ∧ ∀ (l : List Nat) H', l.length ≤ 1000 → (∀ c ∈ l, c < 128) → Dr p (n + 20) H H' → Q (.str (SX.S l)) H'
section
variable {P : Program} {w : World} {K : PySem.W.Frag} {mg : Str → Option Value} {base : Heap}
theorem ok_number (T : Txt K mg) (c__law_take : Cl P w K mg base 2 "_law_take" ["box", "many"] sp_take) (D : Df K mg "_law_number" s__law_number ["box"]) : Cl P w K mg base 3 "_law_number" ["box"] (sp_drawI 5) := by
  refine ok_of D sc__law_number (fun vs H Q E h => ?_) (fun f cdv A outer s H vs Q E hr h => ?_)
  · obtain ⟨p, n, rfl, _⟩ := h
    rfl
  · obtain ⟨p, n, rfl, hb, hn, q⟩ := h
    refine ⟨_, (pss_cons (ps_set (i := 1) sc__law_number.nd rfl (.inl rfl) (pe_cl c__law_take hr (by decide) (by rfl) (pa_cons (pv 0) (pa_cons pe_int pa_nil))))
      (pss_cons (ps_if (pt_cmpR op_eq (pv 1) pe_int (nomark _)) (pss_one (ps_ret (pe_ix ix_list (pe_lst (pa_cons (pe_op op_sub (pe_op op_pow pe_int pe_int) pe_int) (pa_cons (pe_op op_sub pe_int (pe_op op_pow pe_int pe_int)) (pa_cons pe_int (pa_cons pe_int (pa_cons (pe_un un_neg pe_int) pa_nil)))))) (pe_cl c__law_take hr (by decide) (by rfl) (pa_cons (pv 0) (pa_cons pe_int pa_nil))) (fun _ _ => rfl)))) pss_nil)
      (pss_cons (ps_if (pt_cmpR op_eq (pv 1) pe_int (nomark _)) (pss_one (ps_ret (pe_op op_add (pe_op op_mul (pe_cl c__law_take hr (by decide) (by rfl) (pa_cons (pv 0) (pa_cons (pe_op op_pow pe_int pe_int) pa_nil))) (pe_op op_pow pe_int pe_int)) (pe_cl c__law_take hr (by decide) (by rfl) (pa_cons (pv 0) (pa_cons (pe_op op_pow pe_int pe_int) pa_nil)))))) pss_nil)
      (pss_one (ps_ret (pe_op op_sub (pe_cl c__law_take hr (by decide) (by rfl) (pa_cons (pv 0) (pa_cons pe_int pa_nil))) pe_int)))))), ?_⟩
    refine ⟨.ref p, rfl, p, n, 4, rfl, hb, by omega, by decide, by decide, fun d H1 d0 d1 D1 => ?_⟩
    refine ⟨_, rfl, rfl, _, rfl, ite2 (fun e => ?_) (fun e => ?_)⟩
    · refine ⟨10, 30, rfl, rfl, ⟨by decide, by decide, by decide⟩, _, 1, rfl, rfl, 10, 30, rfl, rfl, ⟨by decide, by decide, by decide⟩, 1, _, rfl, rfl, 1, rfl, (by show 5 ≤ sizeLine; decide), fun l hl => ?_⟩
      refine ⟨.ref p, rfl, p, n + 1, 5, rfl, (D1.new hl).box, by omega, by decide, by decide, fun d2 H2 e0 e1 D2 => ?_⟩
      have hl2 : H2 l = _ := D2.bt l _ (D1.box.ne hl).symm upd_same
      have hd : ∃ z : Int, atI [V.int (10 ^ (30 : Int).toNat - 1), .int (1 - 10 ^ (30 : Int).toNat), .int 0, .int 1, .int (-1)] d2 = some (.int z) := by
        obtain ⟨v, hv, hm⟩ := ix_some [V.int (10 ^ (30 : Int).toNat - 1), .int (1 - 10 ^ (30 : Int).toNat), .int 0, .int 1, .int (-1)] e0 e1
        simp only [List.mem_cons, List.not_mem_nil, or_false] at hm
        rcases hm with rfl | rfl | rfl | rfl | rfl <;> exact ⟨_, hv⟩
      obtain ⟨z, hz⟩ := hd
      exact ⟨l, _, d2, _, rfl, rfl, .inl (.inl hl2), hz, q z _ (((D1.new hl).trans D2).mono (by omega))⟩
    · refine ⟨_, rfl, rfl, _, rfl, ite2 (fun e => ?_) (fun e => ?_)⟩
      · refine ⟨.ref p, rfl, 10, 8, rfl, rfl, ⟨by decide, by decide, by decide⟩, p, n + 1, _, rfl, D1.box, by omega, (by decide), (by decide), fun d2 H2 e0 e1 D2 => ?_⟩
        refine ⟨10, 22, rfl, rfl, ⟨by decide, by decide, by decide⟩, d2, _, rfl, rfl, .inl ⟨by omega, ?_⟩, ?_⟩
        · have : ((10 : Int) ^ (8 : Int).toNat) = 100000000 := by decide
          rw [this] at e1
          omega
        refine ⟨.ref p, rfl, 10, 8, rfl, rfl, ⟨by decide, by decide, by decide⟩, p, n + 2, _, rfl, D2.box, by omega, (by decide), (by decide), fun d3 H3 e0 e1 D3 => ?_⟩
        exact ⟨_, _, rfl, rfl, q _ _ (((D1.trans D2).trans D3).mono (by omega))⟩
      · refine ⟨.ref p, rfl, p, n + 1, 61, rfl, D1.box, by omega, by decide, by decide, fun d2 H2 e0 e1 D2 => ?_⟩
        exact ⟨d2, 30, rfl, rfl, q _ _ ((D1.trans D2).mono (by omega))⟩
theorem ok_bounds (T : Txt K mg) (c__law_take : Cl P w K mg base 2 "_law_take" ["box", "many"] sp_take) (D : Df K mg "_law_bounds" s__law_bounds ["box", "number"]) : Cl P w K mg base 3 "_law_bounds" ["box", "number"] sp_bounds := by
  refine ok_of D sc__law_bounds (fun vs H Q E h => ?_) (fun f cdv A outer s H vs Q E hr h => ?_)
  · obtain ⟨p, n, z, rfl, _⟩ := h
    rfl
  · obtain ⟨p, n, z, rfl, hb, hn, q⟩ := h
    refine ⟨_, (pss_cons (ps_set (i := 2) sc__law_bounds.nd rfl (.inl rfl) (pe_op op_add (pv 1) (pe_ix ix_list (pe_lst (pa_cons pe_int (pa_cons pe_int (pa_cons (pe_un un_neg pe_int) (pa_cons (pe_un un_neg pe_int) (pa_cons pe_int (pa_cons (pe_un un_neg (pe_op op_pow pe_int pe_int)) pa_nil))))))) (pe_cl c__law_take hr (by decide) (by rfl) (pa_cons (pv 0) (pa_cons pe_int pa_nil))) (fun _ _ => rfl))))
      (pss_cons (ps_set (i := 3) sc__law_bounds.nd rfl (.inl rfl) (pe_op op_add (pv 2) (pe_ix ix_list (pe_lst (pa_cons pe_int (pa_cons pe_int (pa_cons pe_int (pa_cons pe_int (pa_cons (pe_un un_neg pe_int) (pa_cons (pe_op op_pow pe_int pe_int) pa_nil))))))) (pe_cl c__law_take hr (by decide) (by rfl) (pa_cons (pv 0) (pa_cons pe_int pa_nil))) (fun _ _ => rfl))))
      (pss_cons (ps_set (i := 4) sc__law_bounds.nd rfl (.inl rfl) (pe_op op_sub (pe_op op_pow pe_int pe_int) pe_int))
      (pss_one (ps_ret (pe_tup (pa_cons (pe_callB (call_max2 rfl) (by rfl) T.b_max (by decide +kernel) (pa_cons (pe_un un_neg (pv 4)) (pa_cons (pe_callB (call_min2 rfl) (by rfl) T.b_min (by decide +kernel) (pa_cons (pv 4) (pa_cons (pv 2) pa_nil))) pa_nil))) (pa_cons (pe_callB (call_max2 rfl) (by rfl) T.b_max (by decide +kernel) (pa_cons (pe_un un_neg (pv 4)) (pa_cons (pe_callB (call_min2 rfl) (by rfl) T.b_min (by decide +kernel) (pa_cons (pv 4) (pa_cons (pv 3) pa_nil))) pa_nil))) pa_nil)))))))), ?_⟩
    refine ⟨.int z, rfl, 1, rfl, 30, rfl, 10, 29, rfl, rfl, ⟨by decide, by decide, by decide⟩, _, rfl, (by show 6 ≤ sizeLine; decide), fun l hl => ?_⟩
    refine ⟨.ref p, rfl, p, n, 6, rfl, hb.same (same_new hl), by omega, by decide, by decide, fun d1 H1 d0 d1' D1 => ?_⟩
    have hl1 : H1 l = _ := D1.bt l _ (hb.ne hl).symm upd_same
    have D1' : Dr p (n + 1) H H1 := ((Dr.refl hb).new hl).trans D1
    obtain ⟨z1, hz1⟩ : ∃ z1 : Int, atI [V.int 0, .int 1, .int (-1), .int (-30), .int 30, .int (-(10 ^ (29 : Int).toNat))] d1 = some (.int z1) := by
      obtain ⟨v, hv, hm⟩ := ix_some [V.int 0, .int 1, .int (-1), .int (-30), .int 30, .int (-(10 ^ (29 : Int).toNat))] d0 d1'
      simp only [List.mem_cons, List.not_mem_nil, or_false] at hm
      rcases hm with rfl | rfl | rfl | rfl | rfl | rfl <;> exact ⟨_, hv⟩
    refine ⟨l, _, d1, _, rfl, rfl, .inl (.inl hl1), hz1, z, z1, rfl, rfl, ?_⟩
    refine ⟨_, rfl, 1, rfl, 10, 29, rfl, rfl, ⟨by decide, by decide, by decide⟩, (by show 6 ≤ sizeLine; decide), fun l2 hl2 => ?_⟩
    refine ⟨.ref p, rfl, p, n + 1, 6, rfl, D1.box.same (same_new hl2), by omega, by decide, by decide, fun d2 H2 e0 e1 D2 => ?_⟩
    have hl3 : H2 l2 = _ := D2.bt l2 _ (D1.box.ne hl2).symm upd_same
    have D2' : Dr p (n + 2) H H2 := (D1'.new hl2).trans D2
    obtain ⟨z2, hz2⟩ : ∃ z2 : Int, atI [V.int 0, .int 1, .int 2, .int 60, .int (-1), .int (10 ^ (29 : Int).toNat)] d2 = some (.int z2) := by
      obtain ⟨v, hv, hm⟩ := ix_some [V.int 0, .int 1, .int 2, .int 60, .int (-1), .int (10 ^ (29 : Int).toNat)] e0 e1
      simp only [List.mem_cons, List.not_mem_nil, or_false] at hm
      rcases hm with rfl | rfl | rfl | rfl | rfl | rfl <;> exact ⟨_, hv⟩
    refine ⟨l2, _, d2, _, rfl, rfl, .inl (.inl hl3), hz2, _, z2, rfl, rfl, ?_⟩
    -- most = 10 ** 30 - 1
    refine ⟨10, 30, rfl, rfl, ⟨by decide, by decide, by decide⟩, _, 1, rfl, rfl, ?_⟩
    refine ⟨_, rfl, _, rfl, _, rfl, _, rfl, _, _, rfl, _, _, rfl, _, rfl, _, rfl, _, rfl, _, rfl, _, _, rfl, _, _, rfl, (by show 2 ≤ sizeLine; decide), fun t ht => ?_⟩
    exact q t _ _ _ (D2'.new ht) (D2'.box.ne ht).symm upd_same
end
end My
set_option Elab.async false
set_option linter.all false
set_option maxHeartbeats 4000000
set_option maxHeartbeats 4000000
namespace My
open PySem PySem.Spec PyProof.Rows L2
section
variable {P : Program} {w : World} {K : PySem.W.Frag} {mg : Str → Option Value} {base : Heap}
theorem ok_text (T : Txt K mg) (c__law_take : Cl P w K mg base 2 "_law_take" ["box", "many"] sp_take) (D : Df K mg "_law_text" s__law_text ["box"]) : Cl P w K mg base 3 "_law_text" ["box"] sp_text := by
  refine ok_of D sc__law_text (fun vs H Q E h => ?_) (fun f cdv A outer s H vs Q E hr h => ?_)
  · obtain ⟨p, n, rfl, _⟩ := h
    rfl
  · obtain ⟨p, n, rfl, hb, hn, q⟩ := h
    refine ⟨_, (pss_cons (ps_set (i := 1) sc__law_text.nd rfl (.inr rfl) pe_str)
      (pss_cons (ps_set (i := 2) sc__law_text.nd rfl (.inl rfl) pe_str)
      (pss_cons (ps_set (i := 3) sc__law_text.nd rfl (.inl rfl) (pe_cmpR op_eq (pe_cl c__law_take hr (by decide) (by rfl) (pa_cons (pv 0) (pa_cons pe_int pa_nil))) pe_int (nomark _)))
      (pss_cons (ps_set (i := 4) sc__law_text.nd rfl (.inl rfl) (pe_cl c__law_take hr (by decide) (by rfl) (pa_cons (pv 0) (pa_cons pe_int pa_nil))))
      (pss_cons (ps_set (i := 5) sc__law_text.nd rfl (.inl rfl) (pe_ix ix_str (pv 2) (pe_cl c__law_take hr (by decide) (by rfl) (pa_cons (pv 0) (pa_cons (pe_callB call_len (by rfl) T.b_len (by decide +kernel) (pa_cons (pv 2) pa_nil)) pa_nil))) (fun _ _ => rfl)))
      (pss_cons (ps_set (i := 6) sc__law_text.nd rfl (.inl rfl) (pe_ix ix_list (pe_lst (pa_cons pe_int (pa_cons pe_int (pa_cons pe_int (pa_cons (pe_cl c__law_take hr (by decide) (by rfl) (pa_cons (pv 0) (pa_cons pe_int pa_nil))) pa_nil))))) (pe_cl c__law_take hr (by decide) (by rfl) (pa_cons (pv 0) (pa_cons pe_int pa_nil))) (fun _ _ => rfl)))
      (pss_cons (ps_set (i := 7) sc__law_text.nd rfl (.inl rfl) (pe_join pe_str (pe_lc (own := [("k", 9)]) rfl sc__law_text.nd (pi_range1 (by rfl) T.b_range (pa_cons (pv 6) pa_nil)) (blkOk_by (own := [("k", 9)]) (N := N__law_text) (sc := defScope s__law_text) (by decide +kernel)) (fun _ _ _ _ _ => (pg_name (i := 9) sc__law_text.nd rfl (.inl rfl))) (fun _ _ _ _ _ => pts_nil) (fun _ _ _ _ _ => (pe_ix ix_str (pv 1) (pe_cl c__law_take hr (by decide) (by rfl) (pa_cons (pv 0) (pa_cons pe_int pa_nil))) (fun _ _ => rfl))))))
      (pss_cons (ps_set (i := 8) sc__law_text.nd rfl (.inl rfl) (pe_cl c__law_take hr (by decide) (by rfl) (pa_cons (pv 0) (pa_cons (pe_op op_add (pe_callB call_len (by rfl) T.b_len (by decide +kernel) (pa_cons (pv 7) pa_nil)) pe_int) pa_nil))))
      (pss_one (ps_ret (pe_ifExp (pt_val (pv 3)) (pe_op op_add_str (pe_op op_add_str (pe_slice C8.sl_txt (pv 7) po_none (po_some (pv 8))) (pv 5)) (pe_slice C8.sl_txt (pv 7) (po_some (pe_op op_add (pv 8) (pv 4))) po_none)) (pv 7)))))))))))), ?_⟩
    -- spoilt, gone, sign
    refine ⟨.ref p, rfl, p, n, 2, rfl, hb, by omega, by decide, by decide, fun d1 H1 d1a d1b D1 => ⟨rfl, ?_⟩⟩
    refine ⟨.ref p, rfl, p, n + 1, 2, rfl, D1.box, by omega, by decide, by decide, fun d2 H2 d2a d2b D2 => ?_⟩
    refine ⟨_, rfl, .ref p, rfl, _, rfl, _, _, rfl, ⟨by decide +kernel, rfl⟩, p, n + 2, _, rfl, D2.box, by omega, by decide +kernel, by decide +kernel, fun d3 H3 d3a d3b D3 => ?_⟩
    obtain ⟨c, hc, mc⟩ := ix_some (Str.cps " !\"#$&'()*+,-./0123456789:;<=>?@ABCDEFGHIJKLMNOPQRSTUVWXYZ[\\]^_`abcdefghijklmnopqrstuvwxyz{|}~\n").toList d3a (by rw [Array.length_toList]; exact d3b)
    refine ⟨_, d3, c, rfl, rfl, by decide +kernel, hc, ?_⟩
    have ac : ∀ c ∈ (Str.cps " !\"#$&'()*+,-./0123456789:;<=>?@ABCDEFGHIJKLMNOPQRSTUVWXYZ[\\]^_`abcdefghijklmnopqrstuvwxyz{|}~\n").toList, c < 128 := by decide +kernel
    have a0 : c < 128 := ac c mc
    clear ac mc
    -- size
    refine ⟨.ref p, rfl, p, n + 3, 9, rfl, D3.box, by omega, by decide, by decide, fun d4 H4 d4a d4b D4 => ⟨by show 4 ≤ sizeLine; decide, fun l hl => ?_⟩⟩
    refine ⟨.ref p, rfl, p, n + 4, 4, rfl, (D4.new hl).box, by omega, by decide, by decide, fun d5 H5 d5a d5b D5 => ?_⟩
    have hl2 : H5 l = _ := D5.bt l _ (D4.box.ne hl).symm upd_same
    obtain ⟨z, hz, z0, z1⟩ : ∃ z : Int, atI [V.int 6, .int 7, .int 1, .int d4] d5 = some (.int z) ∧ 0 ≤ z ∧ z ≤ 9 := by
      obtain ⟨v, hv, hm⟩ := ix_some [V.int 6, .int 7, .int 1, .int d4] d5a d5b
      simp only [List.mem_cons, List.not_mem_nil, or_false] at hm
      rcases hm with rfl | rfl | rfl | rfl <;> exact ⟨_, hv, by omega, by omega⟩
    refine ⟨l, _, d5, _, rfl, rfl, .inl (.inl hl2), hz, ?_⟩
    have DA : Dr p (n + 5) H H5 := (((D1.trans D2).trans D3).trans (D4.new hl)).trans D5
    -- text
    refine ⟨⟨_, rfl⟩, _, rfl, z, rfl, by omega, by omega, fun Dl hDl => ?_⟩
    refine lc_range (lo := 0) (n := z.toNat) (fun i H' => ∃ cs : List Nat, cs.length = i ∧ (∀ c ∈ cs, c < 128) ∧ H' Dl = some (.lst (cs.map fun c => .str ⟨#[c]⟩)) ∧ Dr p (n + 5 + i) H H' ∧ Dl ≠ p) ⟨[], rfl, (fun _ z => nomatch z), upd_same, DA.new hDl, (DA.box.ne hDl).symm⟩ ?_ ?_
    · rintro i H6 hi ⟨cs, ec, ea, eD, D6, nD⟩
      refine ⟨rfl, _, rfl, .ref p, rfl, p, n + 5 + i, 26, rfl, D6.box, by omega, by decide, by decide, fun d7 H7 d7a d7b D7 => ?_⟩
      obtain ⟨c7, hc7, m7⟩ := ix_some (Str.cps "abcdefghijklmnopqrstuvwxyz").toList d7a (by rw [Array.length_toList]; exact d7b)
      refine ⟨_, d7, c7, rfl, rfl, by decide +kernel, hc7, _, D7.bt _ _ nD eD, ?_, cs ++ [c7], ?_, ?_, ?_, ?_, nD⟩
      · rw [List.length_map]
        exact Evl.sz_lt (by omega)
      · rw [List.length_append, ec]
        rfl
      · have a7 : ∀ c ∈ (Str.cps "abcdefghijklmnopqrstuvwxyz").toList, c < 128 := by decide +kernel
        intro c hc
        rcases List.mem_append.mp hc with hc | hc
        · exact ea c hc
        · rw [List.mem_singleton.mp hc]
          exact a7 _ m7
      · rw [upd_same, List.map_append]
        rfl
      · have D8 : Dr p (n + 5 + (i + 1)) H H7 := (D6.trans D7).mono (by omega)
        refine ⟨?_, fun b o hbp hbo => ?_⟩
        · obtain ⟨a, b, c, e, r⟩ := D8.box
          exact ⟨a, b, c, by rw [upd_ne nD.symm]; exact e, r⟩
        · rw [upd_ne (ne_of_none (DA.bt b o hbp hbo) hDl)]
          exact D8.bt b o hbp hbo
    · rintro H6 ⟨cs, ec, ea, eD, D6, nD⟩
      have hcl : cs.length ≤ 9 := by omega
      refine ⟨_, Dl, cs.map fun c => (⟨#[c]⟩ : Str), rfl, rfl, .inl (.inl (.inl (by rw [eD, List.map_map]; rfl))), ?_, ?_⟩
      · rw [lens1]
        show cs.length + _ * 0 ≤ 16777216
        omega
      · rw [join_signs]
        -- at
        refine ⟨.ref p, rfl, _, rfl, _, _, rfl, ⟨S_le (by omega), rfl⟩, _, 1, rfl, rfl, p, n + 5 + z.toNat, _, rfl, D6.box, by omega, by omega, ?_, fun d8 H8 d8a d8b D8 => ?_⟩
        · rw [SX.S_len]
          omega
        have DZ : Dr p (n + 20) H H8 := (D6.trans D8).mono (by omega)
        refine ⟨_, rfl, _, rfl, ite2 (fun e => ?_) (fun e => ?_)⟩
        · refine ⟨_, rfl, _, rfl, d8, rfl, SX.S cs, rfl, S_le (by omega), _, rfl, _, ⟨#[c]⟩, rfl, rfl, ?_, ?_⟩
          · rw [SX.slice_to d8a, SX.S_len, List.length_take]
            refine Nat.le_trans (Nat.add_le_add (Nat.min_le_right _ _) (Nat.le_refl _)) (Evl.sz_of ?_)
            show cs.length + 1 ≤ 100000
            omega
          · refine ⟨_, rfl, _, rfl, _, rfl, d8, d2, rfl, rfl, _, rfl, SX.S cs, rfl, S_le (by omega), _, _, rfl, rfl, ?_, ?_⟩
            · rw [SX.slice_to d8a, SX.slice_from (by omega), show (⟨#[c]⟩ : Str) = SX.S [c] from rfl, SX.S_cat, SX.S_len, SX.S_len, List.length_append, List.length_take, List.length_drop]
              refine Evl.sz_of ?_
              show min _ _ + 1 + _ ≤ 100000
              omega
            · rw [SX.slice_to d8a, SX.slice_from (by omega), show (⟨#[c]⟩ : Str) = SX.S [c] from rfl, SX.S_cat, SX.S_cat]
              refine q _ _ ?_ (fun y hy => ?_) DZ
              · rw [List.length_append, List.length_append, List.length_take, List.length_drop]
                show min _ _ + 1 + _ ≤ 1000
                omega
              · rcases List.mem_append.mp hy with hy | hy
                · rcases List.mem_append.mp hy with hy | hy
                  · exact ea y (List.mem_of_mem_take hy)
                  · rw [List.mem_singleton.mp hy]
                    exact a0
                · exact ea y (List.mem_of_mem_drop hy)
        · exact ⟨_, rfl, q _ _ (by omega) ea DZ⟩
end
end My
set_option Elab.async false
set_option linter.all false
set_option maxHeartbeats 4000000
set_option maxHeartbeats 4000000
namespace My
open PySem PySem.Spec PyProof.Rows L2
/-- a thing that is asked about, as it stands in the heap -/
inductive Th (K : PySem.W.Frag) (H : Hp) : V → Prop where
  | non : Th K H .non
  | bl (b : Bool) : Th K H (.bl b)
  | int (i : Int) : Th K H (.int i)
  | str (l : List Nat) (h : l.length ≤ 1000) (a : ∀ c ∈ l, c < 128) : Th K H (.str (SX.S l))
  | lst {a : Addr} {xs : List V} (e : H a = some (.lst xs)) : Th K H (.ref a)
  | tup {a : Addr} {xs : List V} (e : H a = some (.tup xs)) : Th K H (.ref a)
  | dct {a : Addr} {xs : List (Key × V)} (e : H a = some (.dK xs)) : Th K H (.ref a)
  | exc {a C : Addr} {fs : List (Str × V)} (e : Exn H a C fs) (i : ExI K C) (n1 : PySem.W.kitOne K (.ref C) (.type "int") = some false) (n2 : PySem.W.kitOne K (.ref C) (.type "bool") = some false) (n3 : PySem.W.kitOne K (.ref C) (.type "str") = some false) : Th K H (.ref a)
theorem Th.same {K : PySem.W.Frag} {H H' : Hp} {x : V} (h : Th K H x) (s : Same H H') : Th K H' x := by
  cases h with
  | non => exact .non
  | bl b => exact .bl b
  | int i => exact .int i
  | str l h a => exact .str l h a
  | lst e => exact .lst (s _ _ e)
  | tup e => exact .tup (s _ _ e)
  | dct e => exact .dct (s _ _ e)
  | exc e i a b c => exact .exc (e.same s) i a b c
def vInt : V → Bool
  | .int _ => true
  | .bl _ => true
  | _ => false
def vBl : V → Bool
  | .bl _ => true
  | _ => false
def vStr : V → Bool
  | .str _ => true
  | _ => false
def isNum : V → Bool
  | .int _ => true
  | _ => false
def sp_num (K : PySem.W.Frag) : Sp := fun vs H Q _ => ∃ x : V, vs = [x] ∧ Th K H x ∧ Q (.bl (isNum x)) H
def RB (K : PySem.W.Frag) : List V → Hp → VK → Prop := fun xs H Q => rIsi K xs H Q ∨ ∃ (a C : Addr) (fs : List (Str × V)) (c : V) (u : Value) (b : Bool), xs = [.ref a, c] ∧ Exn H a C fs ∧ ExI K C ∧ ClsV c u ∧ PySem.W.kitOne K (.ref C) u = some b ∧ Q (.bl b) H
theorem isi_b {K : PySem.W.Frag} {H : Hp} {x : V} {T t : String} {b : Bool} (h : TyOf K H x (.type t)) (e : kitB t T = some b) {Q : VK} (q : Q (.bl b) H) : RB K [x, .ty T] H Q :=
  .inl ⟨x, .ty T, _, _, b, rfl, .ty T, .base h, kit_ty e, q⟩
theorem Th.int? {K : PySem.W.Frag} {H : Hp} {x : V} (h : Th K H x) {Q : VK} (q : Q (.bl (vInt x)) H) : RB K [x, .ty "int"] H Q := by
  cases h with
  | non => exact isi_b (b := false) .non (by decide +kernel) q
  | bl b => exact isi_b (b := true) (.bl b) (by decide +kernel) q
  | int i => exact isi_b (b := true) (.int i) (by decide +kernel) q
  | str l h a => exact isi_b (b := false) (.str _) (by decide +kernel) q
  | lst e => exact isi_b (b := false) (.lst e) (by decide +kernel) q
  | tup e => exact isi_b (b := false) (.tup e) (by decide +kernel) q
  | dct e => exact isi_b (b := false) (.dK e) (by decide +kernel) q
  | exc e i a b c => exact .inr ⟨_, _, _, _, _, _, rfl, e, i, .ty _, a, q⟩
theorem Th.bl? {K : PySem.W.Frag} {H : Hp} {x : V} (h : Th K H x) {Q : VK} (q : Q (.bl (vBl x)) H) : RB K [x, .ty "bool"] H Q := by
  cases h with
  | non => exact isi_b (b := false) .non (by decide +kernel) q
  | bl b => exact isi_b (b := true) (.bl b) (by decide +kernel) q
  | int i => exact isi_b (b := false) (.int i) (by decide +kernel) q
  | str l h a => exact isi_b (b := false) (.str _) (by decide +kernel) q
  | lst e => exact isi_b (b := false) (.lst e) (by decide +kernel) q
  | tup e => exact isi_b (b := false) (.tup e) (by decide +kernel) q
  | dct e => exact isi_b (b := false) (.dK e) (by decide +kernel) q
  | exc e i a b c => exact .inr ⟨_, _, _, _, _, _, rfl, e, i, .ty _, b, q⟩
theorem Th.str? {K : PySem.W.Frag} {H : Hp} {x : V} (h : Th K H x) {Q : VK} (q : Q (.bl (vStr x)) H) : RB K [x, .ty "str"] H Q := by
  cases h with
  | non => exact isi_b (b := false) .non (by decide +kernel) q
  | bl b => exact isi_b (b := false) (.bl b) (by decide +kernel) q
  | int i => exact isi_b (b := false) (.int i) (by decide +kernel) q
  | str l h a => exact isi_b (b := true) (.str _) (by decide +kernel) q
  | lst e => exact isi_b (b := false) (.lst e) (by decide +kernel) q
  | tup e => exact isi_b (b := false) (.tup e) (by decide +kernel) q
  | dct e => exact isi_b (b := false) (.dK e) (by decide +kernel) q
  | exc e i a b c => exact .inr ⟨_, _, _, _, _, _, rfl, e, i, .ty _, c, q⟩
def whole (x : V) (lo hi : Int) : Bool := match x with
  | .int i => decide (lo ≤ i) && decide (i ≤ hi)
  | _ => false
def letters26 : List Nat := (Str.cps "abcdefghijklmnopqrstuvwxyz").toList
def nameL (l : List Nat) : Bool := decide (1 ≤ l.length) && decide (l.length ≤ 6) && l.all fun c => decide (c ∈ letters26)
def nameV : V → Bool
  | .str z => nameL z.cps.toList
  | _ => false
def sp_thing (K : PySem.W.Frag) : Sp := fun vs H Q _ => ∃ (p : Addr) (n : Nat), vs = [.ref p] ∧ Box n H p ∧ n ≤ 900000 ∧ ∀ v H', Th K H' v → Dr p (n + 1) H H' → Q v H'
def sp_whole (K : PySem.W.Frag) : Sp := fun vs H Q _ => ∃ (x : V) (lo hi : Int), vs = [x, .int lo, .int hi] ∧ Th K H x ∧ Q (.bl (whole x lo hi)) H
def sp_name (K : PySem.W.Frag) : Sp := fun vs H Q _ => ∃ x : V, vs = [x] ∧ Th K H x ∧ ∀ H', Same H H' → Q (.bl (nameV x)) H'
def sp_made (K : PySem.W.Frag) : Sp := fun vs H Q _ => ∃ x : V, vs = [x, .str "abcdefghijklmnopqrstuvwxyz", .int 6] ∧ Th K H x ∧ ∀ H', Same H H' → Q (.bl (nameV x)) H'
theorem same_new2 {H : Hp} {p : Addr} {o u : HO} (h : H p = none) : Same H (upd (upd H p o) p u) := fun b x e => by
  have n := ne_of_none e h
  rw [upd_ne n, upd_ne n]
  exact e
section
variable {P : Program} {w : World} {K : PySem.W.Frag} {mg : Str → Option Value} {base : Heap}
theorem ok_thing (T : Txt K mg) (c__law_take : Cl P w K mg base 2 "_law_take" ["box", "many"] sp_take) (D : Df K mg "_law_thing" s__law_thing ["box"]) : Cl P w K mg base 3 "_law_thing" ["box"] (sp_thing K) := by
  refine ok_of D sc__law_thing (fun vs H Q E h => ?_) (fun f cdv A outer s H vs Q E hr h => ?_)
  · obtain ⟨p, n, rfl, _⟩ := h
    rfl
  · obtain ⟨p, n, rfl, hb, hn, q⟩ := h
    refine ⟨_, (pss_cons (ps_set (i := 1) sc__law_thing.nd rfl (.inl rfl) (pe_lst (pa_cons pe_non (pa_cons pe_bl (pa_cons pe_bl (pa_cons pe_str (pa_cons pe_str (pa_cons pe_int (pa_cons (pe_un un_neg pe_int) (pa_cons pe_int (pa_cons (pe_op op_pow pe_int pe_int) (pa_cons (pe_lst pa_nil) (pa_cons (pe_lst (pa_cons pe_int pa_nil)) (pa_cons (pe_tup pa_nil) (pa_cons (pe_tup (pa_cons pe_int pa_nil)) (pa_cons pe_dnewK (pa_cons (pe_disp (pps_cons pe_str pe_int pps_nil) (by rfl) (by rfl) (fun z => by cases z) (by decide)) (pa_cons (pe_lst (pa_cons pe_str (pa_cons (pe_lst (pa_cons pe_int pa_nil)) pa_nil))) (pa_cons (pe_tup (pa_cons pe_str pa_nil)) pa_nil)))))))))))))))))))
      (pss_one (ps_ret (pe_ix ix_list (pv 1) (pe_cl c__law_take hr (by decide) (by rfl) (pa_cons (pv 0) (pa_cons pe_int pa_nil))) (fun _ _ => rfl))))), ?_⟩
    refine ⟨1, rfl, 10, 29, rfl, rfl, ⟨by decide, by decide, by decide⟩, Nat.zero_le _, fun p1 h1 => ?_⟩
    refine ⟨by show 1 ≤ sizeLine; decide, fun p2 h2 => ?_⟩
    refine ⟨Nat.zero_le _, fun p3 h3 => ?_⟩
    refine ⟨by show 1 ≤ sizeLine; decide, fun p4 h4 => ?_⟩
    intro p5 h5 p6 h6
    refine ⟨upd_same, [((Sum.inr "a" : Key), V.int 1)], rfl, by decide, ?_⟩
    refine ⟨by show 1 ≤ sizeLine; decide, fun p7 h7 => ?_⟩
    refine ⟨by show 2 ≤ sizeLine; decide, fun p8 h8 => ?_⟩
    refine ⟨by show 1 ≤ sizeLine; decide, fun p9 h9 => ?_⟩
    refine ⟨by show 17 ≤ sizeLine; decide, fun l hl => ?_⟩
    have S1 := same_new (o := .lst []) h1
    have S2 := same_new (o := .lst [.int 1]) h2
    have S3 := same_new (o := .tup []) h3
    have S4 := same_new (o := .tup [.int 1]) h4
    have S5 := same_new (o := .dK []) h5
    have S6 := same_new2 (o := .dK []) (u := .dK (mergeK [] [((Sum.inr "a" : Key), V.int 1)])) h6
    have S7 := same_new (o := .lst [.int 1]) h7
    have S8 := same_new (o := .lst [.str "a", .ref p7]) h8
    have S9 := same_new (o := .tup [.str "a"]) h9
    have SL := same_new (o := .lst [.non, .bl true, .bl false, .str "", .str "gen", .int 0, .int (-1), .int 1, .int (10 ^ (29 : Int).toNat), .ref p1, .ref p2, .ref p3, .ref p4, .ref p5, .ref p6, .ref p8, .ref p9]) hl
    have R9 := SL
    have R8 := S9.trans R9
    have R7 := S8.trans R8
    have R6 := S7.trans R7
    have R5 := S6.trans R6
    have R4 := S5.trans R5
    have R3 := S4.trans R4
    have R2 := S3.trans R3
    have R1 := S2.trans R2
    have R0 := S1.trans R1
    refine ⟨_, rfl, .ref p, rfl, p, n, 17, rfl, hb.same R0, by omega, by decide, by decide, fun d H' d0 d1 D => ?_⟩
    have hl2 : H' l = _ := D.bt l _ (Box.ne (hb.same (S1.trans (S2.trans (S3.trans (S4.trans (S5.trans (S6.trans (S7.trans (S8.trans S9))))))))) hl).symm upd_same
    have n1 : p1 ≠ p := (Box.ne hb h1).symm
    have E1 := D.bt p1 _ n1 (R1 p1 _ upd_same)
    have n2 : p2 ≠ p := (Box.ne (hb.same S1) h2).symm
    have E2 := D.bt p2 _ n2 (R2 p2 _ upd_same)
    have n3 : p3 ≠ p := (Box.ne ((hb.same S1).same S2) h3).symm
    have E3 := D.bt p3 _ n3 (R3 p3 _ upd_same)
    have n4 : p4 ≠ p := (Box.ne (((hb.same S1).same S2).same S3) h4).symm
    have E4 := D.bt p4 _ n4 (R4 p4 _ upd_same)
    have n5 : p5 ≠ p := (Box.ne ((((hb.same S1).same S2).same S3).same S4) h5).symm
    have E5 := D.bt p5 _ n5 (R5 p5 _ upd_same)
    have n6 : p6 ≠ p := (Box.ne (((((hb.same S1).same S2).same S3).same S4).same S5) h6).symm
    have E6 := D.bt p6 _ n6 (R6 p6 _ upd_same)
    have n7 : p7 ≠ p := (Box.ne ((((((hb.same S1).same S2).same S3).same S4).same S5).same S6) h7).symm
    have E7 := D.bt p7 _ n7 (R7 p7 _ upd_same)
    have n8 : p8 ≠ p := (Box.ne (((((((hb.same S1).same S2).same S3).same S4).same S5).same S6).same S7) h8).symm
    have E8 := D.bt p8 _ n8 (R8 p8 _ upd_same)
    have n9 : p9 ≠ p := (Box.ne ((((((((hb.same S1).same S2).same S3).same S4).same S5).same S6).same S7).same S8) h9).symm
    have E9 := D.bt p9 _ n9 (R9 p9 _ upd_same)
    obtain ⟨v, hv, hm⟩ := ix_some [V.non, .bl true, .bl false, .str "", .str "gen", .int 0, .int (-1), .int 1, .int (10 ^ (29 : Int).toNat), .ref p1, .ref p2, .ref p3, .ref p4, .ref p5, .ref p6, .ref p8, .ref p9] d0 d1
    refine ⟨l, _, d, v, rfl, rfl, .inl (.inl hl2), hv, q v H' ?_ ⟨D.box, fun c o hc ho => D.bt c o hc (R0 c o ho)⟩⟩
    simp only [List.mem_cons, List.not_mem_nil, or_false] at hm
    rcases hm with rfl | rfl | rfl | rfl | rfl | rfl | rfl | rfl | rfl | rfl | rfl | rfl | rfl | rfl | rfl | rfl | rfl
    · exact .non
    · exact .bl _
    · exact .bl _
    · exact .str [] (by decide) (fun _ z => nomatch z)
    · exact (SX.S_tl "gen" ▸ Th.str (Str.cps "gen").toList (by decide +kernel) (by decide +kernel) : Th K H' (.str "gen"))
    · exact .int _
    · exact .int _
    · exact .int _
    · exact .int _
    · exact .lst E1
    · exact .lst E2
    · exact .tup E3
    · exact .tup E4
    · exact .dct E5
    · exact .dct E6
    · exact .lst E8
    · exact .tup E9
theorem ok_isNum (T : Txt K mg) (D : Df K mg "is_number" s_is_number ["thing"]) : Cl P w K mg base 1 "is_number" ["thing"] (sp_num K) := by
  refine ok_of D sc_is_number (fun vs H Q E h => ?_) (fun f cdv A outer s H vs Q E hr h => ?_)
  · obtain ⟨x, rfl, _⟩ := h
    rfl
  · obtain ⟨x, rfl, hx, q⟩ := h
    refine ⟨_, (pss_one (ps_ret (pe_and (pe_callB call_isb (by rfl) T.b_isinstance (by decide +kernel) (pa_cons (pv 0) (pa_cons (pe_bltn (v := .ty "int") (u := .type "int") (by rfl) T.b_int (by decide +kernel) rfl) pa_nil))) (pe_one (pe_not (pe_callB call_isb (by rfl) T.b_isinstance (by decide +kernel) (pa_cons (pv 0) (pa_cons (pe_bltn (v := .ty "bool") (u := .type "bool") (by rfl) T.b_bool (by decide +kernel) rfl) pa_nil)))))))), ?_⟩
    refine ⟨x, rfl, hx.int? ⟨_, rfl, ite2 (fun e => ?_) (fun e => ?_)⟩⟩
    · refine ⟨x, rfl, hx.bl? ⟨_, rfl, ?_⟩⟩
      have e2 : isNum x = !vBl x := by
        cases x with
        | int i => rfl
        | bl b => rfl
        | _ => exact absurd e Bool.false_ne_true
      exact e2 ▸ q
    · have e2 : isNum x = false := by
        cases x with
        | int i => exact absurd rfl e
        | _ => rfl
      exact e2 ▸ q
theorem ok_whole (T : Txt K mg) (c_is_number : Cl P w K mg base 1 "is_number" ["thing"] (sp_num K)) (D : Df K mg "is_whole" s_is_whole ["thing", "low", "high"]) : Cl P w K mg base 2 "is_whole" ["thing", "low", "high"] (sp_whole K) := by
  refine ok_of D sc_is_whole (fun vs H Q E h => ?_) (fun f cdv A outer s H vs Q E hr h => ?_)
  · obtain ⟨p, n, z, rfl, _⟩ := h
    rfl
  · obtain ⟨x, lo, hi, rfl, hx, q⟩ := h
    refine ⟨_, (pss_one (ps_ret (pe_and (pe_cl c_is_number hr (by decide) (by rfl) (pa_cons (pv 0) pa_nil)) (pe_one (pe_chain op_le op_le (pv 1) (pv 0) (pv 2)))))), ?_⟩
    have qf : whole x lo hi = false → Q (.bl false) H := fun e => e ▸ q
    refine ⟨x, rfl, x, rfl, hx, _, rfl, ite2 (fun e => ?_) (fun e => ?_)⟩
    · cases x with
      | int i =>
        refine ⟨.int lo, rfl, .int i, rfl, lo, i, rfl, rfl, _, rfl, ite2 (fun e3 => ?_) (fun e3 => ?_)⟩
        · refine ⟨.int hi, rfl, i, hi, rfl, rfl, ?_⟩
          have e4 : whole (.int i) lo hi = decide (i ≤ hi) := by
            show (decide (lo ≤ i) && decide (i ≤ hi)) = _
            rw [e3, Bool.true_and]
          show Q (.bl (decide (i ≤ hi))) H
          rw [← e4]
          exact q
        · refine qf ?_
          show (decide (lo ≤ i) && decide (i ≤ hi)) = _
          rw [Bool.eq_false_iff.mpr e3, Bool.false_and]
      | _ => exact absurd e Bool.false_ne_true
    · refine qf ?_
      cases x with
      | int i => exact absurd rfl e
      | _ => rfl
theorem ok_wdue (T : Txt K mg) (D : Df K mg "_law_whole_due" s__law_whole_due ["thing", "low", "high"]) : Cl P w K mg base 2 "_law_whole_due" ["thing", "low", "high"] (sp_whole K) := by
  refine ok_of D sc__law_whole_due (fun vs H Q E h => ?_) (fun f cdv A outer s H vs Q E hr h => ?_)
  · obtain ⟨p, n, z, rfl, _⟩ := h
    rfl
  · obtain ⟨x, lo, hi, rfl, hx, q⟩ := h
    refine ⟨_, (pss_cons (ps_if (PW.pt (pw_or (pt_val (pe_callB call_isb (by rfl) T.b_isinstance (by decide +kernel) (pa_cons (pv 0) (pa_cons (pe_bltn (v := .ty "bool") (u := .type "bool") (by rfl) T.b_bool (by decide +kernel) rfl) pa_nil)))) (pw_or1 (pt_not (pt_val (pe_callB call_isb (by rfl) T.b_isinstance (by decide +kernel) (pa_cons (pv 0) (pa_cons (pe_bltn (v := .ty "int") (u := .type "int") (by rfl) T.b_int (by decide +kernel) rfl) pa_nil)))))))) (pss_one (ps_ret pe_bl)) pss_nil)
      (pss_one (ps_ret (pe_and (pe_cmpR op_le (pv 1) (pv 0) (nomark _)) (pe_one (pe_cmpR op_le (pv 0) (pv 2) (nomark _))))))), ?_⟩
    have qf : whole x lo hi = false → Q (.bl false) H := fun e => e ▸ q
    refine ⟨x, rfl, hx.bl? ⟨_, rfl, ite2 (fun e => ?_) (fun e => ?_)⟩⟩
    · refine qf ?_
      cases x with
      | bl b => rfl
      | _ => exact absurd e Bool.false_ne_true
    · refine ⟨x, rfl, hx.int? ⟨_, rfl, ite2 (fun e2 => ?_) (fun e2 => ?_)⟩⟩
      · refine qf ?_
        cases x with
        | bl b => exact absurd rfl e
        | int i => exact absurd e2 Bool.false_ne_true
        | _ => rfl
      · cases x with
        | bl b => exact absurd rfl e
        | int i =>
          refine ⟨.int lo, rfl, .int i, rfl, lo, i, rfl, rfl, _, rfl, ite2 (fun e3 => ?_) (fun e3 => ?_)⟩
          · refine ⟨.int i, rfl, .int hi, rfl, i, hi, rfl, rfl, ?_⟩
            have e4 : whole (.int i) lo hi = decide (i ≤ hi) := by
              show (decide (lo ≤ i) && decide (i ≤ hi)) = _
              rw [e3, Bool.true_and]
            show Q (.bl (decide (i ≤ hi))) H
            rw [← e4]
            exact q
          · refine qf ?_
            show (decide (lo ≤ i) && decide (i ≤ hi)) = _
            rw [Bool.eq_false_iff.mpr e3, Bool.false_and]
        | _ => exact absurd rfl e2
theorem Th.str_of {H : Hp} {x : V} (h : Th K H x) (e : vStr x = true) : ∃ l : List Nat, x = .str (SX.S l) ∧ l.length ≤ 1000 ∧ ∀ c ∈ l, c < 128 := by
  cases h with
  | str l h a => exact ⟨l, rfl, h, a⟩
  | _ => exact absurd e Bool.false_ne_true
theorem nameV_no {x : V} (e : ¬ vStr x = true) : nameV x = false := by
  cases x with
  | str z => exact absurd rfl e
  | _ => rfl
theorem nameV_S (l : List Nat) : nameV (.str (SX.S l)) = nameL l := rfl
theorem ok_made (T : Txt K mg) (D : Df K mg "is_made_of" s_is_made_of ["thing", "signs", "most"]) : Cl P w K mg base 2 "is_made_of" ["thing", "signs", "most"] (sp_made K) := by
  refine ok_of D sc_is_made_of (fun vs H Q E h => ?_) (fun f cdv A outer s H vs Q E hr h => ?_)
  · obtain ⟨x, rfl, _⟩ := h
    rfl
  · obtain ⟨x, rfl, hx, q⟩ := h
    refine ⟨_, (pss_one (ps_ret (pe_and (pe_callB call_isb (by rfl) T.b_isinstance (by decide +kernel) (pa_cons (pv 0) (pa_cons (pe_bltn (v := .ty "str") (u := .type "str") (by rfl) T.b_str (by decide +kernel) rfl) pa_nil))) (pe_and (pe_chain op_le op_le pe_int (pe_callB call_len (by rfl) T.b_len (by decide +kernel) (pa_cons (pv 0) pa_nil)) (pv 2)) (pe_one (pe_callB (cr_all rfl) (by rfl) T.b_all (by decide +kernel) (pa_cons (pe_lc (own := [("sign", 3)]) rfl sc_is_made_of.nd (pi_str (pv 0)) (blkOk_by (own := [("sign", 3)]) (N := N_is_made_of) (sc := defScope s_is_made_of) (by decide +kernel)) (fun _ _ _ _ _ => (pg_name (i := 3) sc_is_made_of.nd rfl (.inl rfl))) (fun _ _ _ _ _ => pts_nil) (fun _ _ _ _ _ => (pe_cmpR op_in_sign (pv 3) (pv 1) rfl))) pa_nil))))))), ?_⟩
    have qf : ∀ H', Same H H' → nameV x = false → Q (.bl false) H' := fun H' s e => e ▸ q H' s
    refine ⟨x, rfl, hx.str? ⟨_, rfl, ite2 (fun e => ?_) (fun e => ?_)⟩⟩
    · obtain ⟨l, rfl, hl, ha⟩ := hx.str_of e
      refine ⟨.str (SX.S l), rfl, _, _, rfl, ⟨S_le hl, rfl⟩, 1, _, rfl, rfl, _, rfl, ite2 (fun e2 => ?_) (fun e2 => ?_)⟩
      · have f2 := of_decide_eq_true e2
        rw [SX.S_len] at f2
        refine ⟨.int 6, rfl, _, 6, rfl, rfl, _, rfl, ite2 (fun e3 => ?_) (fun e3 => ?_)⟩
        · have f3 := of_decide_eq_true e3
          rw [SX.S_len] at f3
          refine ⟨.str (SX.S l), rfl, _, rfl, fun Dl hDl => ?_⟩
          refine lc_it walk_str (fun i H' => Same H H' ∧ H' Dl = some (.lst ((l.take i).map fun c => .bl (decide (c ∈ letters26))))) ⟨same_new hDl, upd_same⟩ (fun _ _ _ _ => trivial) ?_ ?_
          · rintro i x H1 H2 hi ⟨hs, hD⟩ ⟨rfl, c, hc, rfl⟩
            refine ⟨rfl, .str ⟨#[c]⟩, rfl, .str "abcdefghijklmnopqrstuvwxyz", rfl, c, _, rfl, rfl, _, hD, ?_, ?_, ?_⟩
            · rw [List.length_map, List.length_take]
              exact Evl.sz_lt (by omega)
            · exact fun b o e => by
                rw [upd_ne (ne_of_none e hDl)]
                exact hs b o e
            · have hc' : l[i]? = some c := by
                rw [← hc]
                simp
              rw [upd_same, List.take_add_one, hc', List.map_append]
              rfl
          · rintro H1 ⟨hs, hD⟩
            have hsz : (SX.S l).cps.size = l.length := SX.S_len l
            rw [hsz, List.take_length] at hD
            refine ⟨Dl, l.map fun c => decide (c ∈ letters26), rfl, .inl (.inl (by rw [hD, List.map_map]; rfl)), ?_⟩
            have e5 : nameV (.str (SX.S l)) = (l.map fun c => decide (c ∈ letters26)).all id := by
              rw [nameV_S]
              unfold nameL
              rw [decide_eq_true (by omega), decide_eq_true (by omega), List.all_map]
              rfl
            exact e5 ▸ q H1 hs
        · refine qf H (Same.refl H) ?_
          rw [nameV_S]
          unfold nameL
          have f3 : ¬ l.length ≤ 6 := fun z => e3 (decide_eq_true (by rw [SX.S_len]; omega))
          rw [decide_eq_false f3, Bool.and_false, Bool.false_and]
      · refine ⟨_, rfl, ite2 (fun z => absurd z (by decide)) fun _ => qf H (Same.refl H) ?_⟩
        rw [nameV_S]
        unfold nameL
        have f3 : ¬ 1 ≤ l.length := fun z => e2 (decide_eq_true (by rw [SX.S_len]; omega))
        rw [decide_eq_false f3, Bool.false_and, Bool.false_and]
    · exact qf H (Same.refl H) (nameV_no e)
theorem ok_name (T : Txt K mg) (c_is_made_of : Cl P w K mg base 2 "is_made_of" ["thing", "signs", "most"] (sp_made K)) (D : Df K mg "is_name" s_is_name ["thing"]) : Cl P w K mg base 3 "is_name" ["thing"] (sp_name K) := by
  refine ok_of D sc_is_name (fun vs H Q E h => ?_) (fun f cdv A outer s H vs Q E hr h => ?_)
  · obtain ⟨x, rfl, _⟩ := h
    rfl
  · obtain ⟨x, rfl, hx, q⟩ := h
    refine ⟨_, (pss_one (ps_ret (pe_cl c_is_made_of hr (by decide) (by rfl) (pa_cons (pv 0) (pa_cons (C8.pe_gc (by rfl) T.g_SMALL_LETTERS) (pa_cons (C8.pe_gc (by rfl) T.g_LONGEST_NAME) pa_nil)))))), ?_⟩
    exact ⟨x, rfl, x, rfl, hx, q⟩
theorem ok_ndue (T : Txt K mg) (D : Df K mg "_law_name_due" s__law_name_due ["thing"]) : Cl P w K mg base 2 "_law_name_due" ["thing"] (sp_name K) := by
  refine ok_of D sc__law_name_due (fun vs H Q E h => ?_) (fun f cdv A outer s H vs Q E hr h => ?_)
  · obtain ⟨x, rfl, _⟩ := h
    rfl
  · obtain ⟨x, rfl, hx, q⟩ := h
    refine ⟨_, (pss_cons (ps_if (PW.pt (pw_or (pt_not (pt_val (pe_callB call_isb (by rfl) T.b_isinstance (by decide +kernel) (pa_cons (pv 0) (pa_cons (pe_bltn (v := .ty "str") (u := .type "str") (by rfl) T.b_str (by decide +kernel) rfl) pa_nil))))) (pw_or (pt_cmpR op_eq (pv 0) pe_str (nomark _)) (pw_or1 (pt_cmpR op_gt (pe_callB call_len (by rfl) T.b_len (by decide +kernel) (pa_cons (pv 0) pa_nil)) pe_int (nomark _)))))) (pss_one (ps_ret pe_bl)) pss_nil)
      (pss_one (ps_ret (pe_cmpR (op_eqD hr.units) (pe_lc (own := [("sign", 1)]) rfl sc__law_name_due.nd (pi_str (pv 0)) (blkOk_by (own := [("sign", 1)]) (N := N__law_name_due) (sc := defScope s__law_name_due) (by decide +kernel)) (fun _ _ _ _ _ => (pg_name (i := 1) sc__law_name_due.nd rfl (.inl rfl))) (fun _ _ _ _ _ => (pts_one (pt_cmpR op_notIn_sign (pv 1) pe_str rfl))) (fun _ _ _ _ _ => (pv 1))) (pe_lst pa_nil) (nomark _))))), ?_⟩
    have qf : ∀ H', Same H H' → nameV x = false → Q (.bl false) H' := fun H' s e => e ▸ q H' s
    refine ⟨x, rfl, hx.str? ⟨_, rfl, ite2 (fun e => ?_) (fun e => ?_)⟩⟩
    · refine qf H (Same.refl H) (nameV_no fun z => ?_)
      rw [z] at e
      exact absurd e (by decide)
    · have e' : vStr x = true := by
        cases z : vStr x with
        | true => rfl
        | false => exact absurd (by rw [z]; rfl) e
      obtain ⟨l, rfl, hl, ha⟩ := hx.str_of e'
      refine ⟨_, rfl, rfl, _, rfl, ite2 (fun e2 => ?_) (fun e2 => ?_)⟩
      · have f2 : SX.S l = "" := V.str.inj (of_decide_eq_true e2)
        have f3 : l = [] := SX.S_inj (b := []) f2
        subst f3
        exact qf H (Same.refl H) rfl
      · have hne : 1 ≤ l.length := by
          cases l with
          | nil => exact absurd (by decide +kernel) e2
          | cons a r => exact Nat.succ_le_succ (Nat.zero_le _)
        refine ⟨_, rfl, _, _, rfl, ⟨S_le hl, rfl⟩, _, 6, rfl, rfl, _, rfl, ite2 (fun e3 => ?_) (fun e3 => ?_)⟩
        · have f3 := of_decide_eq_true e3
          rw [SX.S_len] at f3
          refine qf H (Same.refl H) ?_
          rw [nameV_S]
          unfold nameL
          rw [decide_eq_false (show ¬ l.length ≤ 6 by omega), Bool.and_false, Bool.false_and]
        · have f3 : l.length ≤ 6 := by
            have z : ¬ ((6 : Int) < ((SX.S l).length : Int)) := fun z => e3 (decide_eq_true z)
            rw [SX.S_len] at z
            omega
          refine ⟨.str (SX.S l), rfl, _, rfl, fun Dl hDl => ?_⟩
          refine lc_it walk_str (fun i H' => Same H H' ∧ H' Dl = some (.lst (((l.take i).filter fun c => !decide (c ∈ letters26)).map fun c => .str ⟨#[c]⟩))) ⟨same_new hDl, upd_same⟩ (fun _ _ _ _ => trivial) ?_ ?_
          · rintro i x H1 H2 hi ⟨hs, hD⟩ ⟨rfl, c, hc, rfl⟩
            have hc' : l[i]? = some c := by
              rw [← hc]
              simp
            refine ⟨rfl, .str ⟨#[c]⟩, rfl, c, _, rfl, rfl, _, rfl, ite2 (fun e4 => ?_) (fun e4 => ?_)⟩
            · have e5 : (!decide (c ∈ letters26)) = true := e4
              refine ⟨_, rfl, _, hD, ?_, ?_, ?_⟩
              · rw [List.length_map]
                refine Evl.sz_lt (Nat.lt_of_le_of_lt (List.length_filter_le _ _) ?_)
                rw [List.length_take]
                omega
              · exact fun b o e => by
                  rw [upd_ne (ne_of_none e hDl)]
                  exact hs b o e
              · rw [upd_same, List.take_add_one, hc', List.filter_append, List.map_append]
                show some (HO.lst (_ ++ [_])) = some (HO.lst (_ ++ List.map _ (List.filter _ [c])))
                rw [List.filter_cons, if_pos e5]
                rfl
            · have e5 : ¬ (!decide (c ∈ letters26)) = true := e4
              refine ⟨hs, ?_⟩
              rw [hD, List.take_add_one, hc', List.filter_append, List.map_append]
              show some (HO.lst _) = some (HO.lst (_ ++ List.map _ (List.filter _ [c])))
              rw [List.filter_cons, if_neg e5]
              show _ = some (HO.lst (_ ++ []))
              rw [List.append_nil]
          · rintro H1 ⟨hs, hD⟩
            have hsz : (SX.S l).cps.size = l.length := SX.S_len l
            rw [hsz, List.take_length] at hD
            refine ⟨Nat.zero_le _, fun p hp => ?_⟩
            have hp2 : (upd H1 p (.lst [])) Dl = _ := same_new hp _ _ hD
            have hm : ∀ c ∈ (l.filter fun c => !decide (c ∈ letters26)), c < 128 := fun c hc => ha c (List.mem_filter.mp hc).1
            refine ⟨_, _, .lst (.inl (.inl hp2)) (dpall_signs _), .lst (.inl (.inl upd_same)) .nil, shaped_signs hm, by decide +kernel, ?_⟩
            have e5 : nameV (.str (SX.S l)) = PyData.eqv (.list ((l.filter fun c => !decide (c ∈ letters26)).map fun c => PyData.str ⟨#[c]⟩)) (.list []) := by
              rw [nameV_S, eqv_nil]
              unfold nameL
              rw [decide_eq_true hne, decide_eq_true f3]
              show (l.all fun c => decide (c ∈ letters26)) = _
              rw [Bool.eq_iff_iff]
              simp
            exact e5 ▸ q _ (hs.trans (same_new hp))
end
end My
set_option Elab.async false
set_option linter.all false
set_option maxHeartbeats 4000000
namespace My
open PySem PySem.Spec PyProof.Rows L2
theorem same_of {p : Addr} {H H1 H2 : Hp} (S : Same H H1) (hp : H p = none) (B : Bt p H1 H2) : Same H H2 := fun b o e => B b o (ne_of_none e hp) (S b o e)
/-- what the top leaves of an own exception class -/
structure ExK (K : PySem.W.Frag) (mg : Str → Option Value) (x : Str) (C fI : Addr) : Prop where
  T : OexC K C
  gC : mg x = some (.ref C)
  iC : PySem.W.findIn K (.ref C) "__init__" = some (some (.ref fI))
  tI : PySem.W.typeIn K (.ref fI) = some (.type "function")
  I : ExI K C
  nF : PySem.W.findIn K (.ref C) "found" = some none
def Mx (P : Program) (w : World) (K : PySem.W.Frag) (mg : Str → Option Value) (base : Heap) (k : Nat) (x : Str) (C : Addr) (sp : Sp) : Prop := OexC K C ∧ mg x = some (.ref C) ∧ ∃ fI fd ps, PySem.W.findIn K (.ref C) "__init__" = some (some (.ref fI)) ∧ PySem.W.typeIn K (.ref fI) = some (.type "function") ∧ FnOk P w K mg base CX0 k fI fd ps sp ∧ Binds K fd ps []
theorem pe_mkx {X : Cx} {k j : Nat} {x : Str} {C : Addr} {sp : Sp} {e : Expr} {es : List Expr} {t : TA} {p pos : Pos} (c : Mx X.prog X.w X.K X.mg X.base k x C sp) (hr : Room j X.A) (hk : k + 1 ≤ j) (hg : Gl X x) (ha : PA X (e :: es) t)
    (hdb : (x == ("__debug__" : Str)) = false := by decide) (he : starEach (e :: es) X.env = (false, eval e X.env) :: starEach es X.env := by rfl) (hpl : (backTo pos (starEach es X.env)).any (·.1) = false := by rfl) :
    PE X (.Call (.Name x p) (e :: es) [] pos) (tMkV C sp t) := by
  obtain ⟨T, hm, fI, fd, ps, iC, tI, F, b⟩ := c
  exact pe_oexv T iC tI F (hr.mono hk) b hg hm ha hdb he hpl
def sp_base (K : PySem.W.Frag) : Sp := fun vs H Q _ => ∃ (a C : Addr) (x : V), vs = [.ref a, x] ∧ OexC K C ∧ H a = some (exo a C none) ∧ Q .non H
def sp_found (C : Addr) : Sp := fun vs H Q _ => ∃ (a : Addr) (x : V), vs = [.ref a, x] ∧ H a = some (exo a C none) ∧ ∀ dx, H dx = none → dx ≠ a → Q .non (upd (upd H dx (exd dx [("found", x)])) a (exo a C (some dx)))
section
variable {P : Program} {w : World} {K : PySem.W.Frag} {mg : Str → Option Value} {base : Heap}
theorem ok_PlaceError {f : Addr} {fd : FuncData} (T : Txt K mg) (vV : PySem.W.findCls K (.type "ValueError") (.type "type") "__init__" = some (.val (.builtin "ValueError.__init__"))) (F : Fun K "__init__" "PlaceError.__init__" s_PlaceError___init__ f fd) : FnOk P w K mg base CX0 2 f fd ["self", "text"] (sp_base K) := by
  refine F.ok sc_PlaceError___init__ (fun vs H Q E h => ?_) (fun cdv A outer s H vs Q E hr h => ?_)
  · obtain ⟨a, C, x, rfl, _⟩ := h
    rfl
  · obtain ⟨a, C, x, rfl, hC, ha, q⟩ := h
    refine ⟨_, (pss_one (ps_expr (pe_veinit (by rfl) T.b_ValueError vV (pa_cons (pv 0) (pa_cons (pv 1) pa_nil))))), ?_⟩
    exact ⟨.ref a, rfl, x, rfl, a, C, [x], rfl, (by show 1 ≤ 1000; decide), hC, ha, q⟩
theorem ok_NoNumber {f fB C B : Addr} {fd fdB : FuncData} (X : ExK K mg "NoNumber" C f) (cd : CDef K B "__init__" fB) (gB : mg "PlaceError" = some (.ref B)) (kB : PySem.W.keepIn K (.ref fB) = true) (bB : Binds K fdB ["self", "text"] []) (GB : FnOk P w K mg base CX0 2 fB fdB ["self", "text"] (sp_base K)) (F : Fun K "__init__" "NoNumber.__init__" s_NoNumber___init__ f fd) : FnOk P w K mg base CX0 3 f fd ["self", "found"] (sp_found C) := by
  refine F.ok sc_NoNumber___init__ (fun vs H Q E h => ?_) (fun cdv A outer s H vs Q E hr h => ?_)
  · obtain ⟨a, x, rfl, _⟩ := h
    rfl
  · obtain ⟨a, x, rfl, ha, q⟩ := h
    refine ⟨_, pss_cons (ps_expr (pe_cinit cd GB hr (by rfl) gB kB bB (pa_cons (pv 0) (pa_cons pe_str pa_nil)))) (pss_one (ps_ost (pv 0) (pv 1))), ?_⟩
    refine ⟨.ref a, rfl, a, C, _, rfl, X.T, ha, ?_⟩
    exact ⟨x, rfl, .ref a, rfl, a, C, rfl, X.T, X.nF, .inl ⟨ha, q⟩⟩
/-- law's: a list of at most 63 ints is handed in, True comes out -/
def sp_law (K : PySem.W.Frag) : Sp := fun vs H Q _ => ∃ (a : Addr) (ns : List Int), vs = [.ref a] ∧ SqL K H a (ns.map V.int) ∧ ns.length ≤ 63 ∧ ∀ H', Q (.bl true) H'
abbrev LV : Nat := 5
theorem ok_law {f C : Addr} {fd : FuncData} (T : Txt K mg) (F : Fun K "law" "law" s_law f fd) (X : ∃ fI, ExK K mg "NoNumber" C fI) (k1 : PySem.W.kitOne K (.ref C) (.type "int") = some false) (k2 : PySem.W.kitOne K (.ref C) (.type "bool") = some false) (k3 : PySem.W.kitOne K (.ref C) (.type "str") = some false)
    (c__law_cell : Cl P w K mg base 2 "_law_cell" ["script", "k"] (sp_cell K)) (c__law_box : Cl P w K mg base 2 "_law_box" ["cell"] sp_box) (c__law_number : Cl P w K mg base 3 "_law_number" ["box"] (sp_drawI 5)) (c__law_bounds : Cl P w K mg base 3 "_law_bounds" ["box", "number"] sp_bounds)
    (c__law_text : Cl P w K mg base 3 "_law_text" ["box"] sp_text) (c__law_thing : Cl P w K mg base 3 "_law_thing" ["box"] (sp_thing K)) (c_NoNumber : Mx P w K mg base 3 "NoNumber" C (sp_found C)) (c_is_whole : Cl P w K mg base 2 "is_whole" ["thing", "low", "high"] (sp_whole K)) (c__law_whole_due : Cl P w K mg base 2 "_law_whole_due" ["thing", "low", "high"] (sp_whole K))
    (c_is_name : Cl P w K mg base 3 "is_name" ["thing"] (sp_name K)) (c__law_name_due : Cl P w K mg base 2 "_law_name_due" ["thing"] (sp_name K)) : FnOk P w K mg base CX0 LV f fd ["script"] (sp_law K) := by
  refine F.ok sc_law (fun vs H Q E h => ?_) (fun cdv A outer s H vs Q E hr h => ?_)
  · obtain ⟨a, ns, rfl, _⟩ := h
    rfl
  · obtain ⟨a, ns, rfl, hS, hlen, q⟩ := h
    obtain ⟨fI, X⟩ := X
    refine ⟨_, (pss_cons (ps_for PassesOwn.never rfl (pi_range1 (by rfl) T.b_range (pa_cons (pe_callB (call_max2 rfl) (by rfl) T.b_max (by decide +kernel) (pa_cons pe_int (pa_cons (pe_callB (call_min2 rfl) (by rfl) T.b_min (by decide +kernel) (pa_cons (pe_callB call_len (by rfl) T.b_len (by decide +kernel) (pa_cons (pv 0) pa_nil)) (pa_cons pe_int pa_nil))) pa_nil))) pa_nil)) (pg_name (i := 1) sc_law.nd rfl (.inl rfl))
        (pss_cons (ps_set (i := 2) sc_law.nd rfl (.inl rfl) (pe_cl c__law_box hr (by decide) (by rfl) (pa_cons (pe_cl c__law_cell hr (by decide) (by rfl) (pa_cons (pv 0) (pa_cons (pv 1) pa_nil))) pa_nil)))
        (pss_cons (ps_set (i := 3) sc_law.nd rfl (.inl rfl) (pe_cl c__law_number hr (by decide) (by rfl) (pa_cons (pv 2) pa_nil)))
        (pss_cons (ps_set (i := 4) sc_law.nd rfl (.inl rfl) (pe_lst (pa_cons (pe_cl c__law_bounds hr (by decide) (by rfl) (pa_cons (pv 2) (pa_cons (pv 3) pa_nil))) (pa_cons (pe_tup (pa_cons pe_int (pa_cons pe_int pa_nil))) (pa_cons (pe_tup (pa_cons (pe_un un_neg pe_int) (pa_cons pe_int pa_nil))) pa_nil)))))
        (pss_one (ps_for PassesOwn.never rfl (pi_list (pe_op op_rep (pe_lst (pa_cons (pv 3) (pa_cons (pe_cl c__law_text hr (by decide) (by rfl) (pa_cons (pv 2) pa_nil)) (pa_cons (pe_cl c__law_thing hr (by decide) (by rfl) (pa_cons (pv 2) pa_nil)) (pa_cons (pe_mkx c_NoNumber hr (by decide) (by rfl) (pa_cons (pv 3) pa_nil)) pa_nil))))) pe_int)) (pg_name (i := 5) sc_law.nd rfl (.inl rfl))
          (pss_cons (ps_for PassesOwn.never rfl (pi_list (pv 4)) (pg_tup rfl (pgs_cons (pg_name (i := 6) sc_law.nd rfl (.inl rfl)) (pgs_cons (pg_name (i := 7) sc_law.nd rfl (.inl rfl)) pgs_nil)))
            (pss_one (ps_if (pt_cmpR op_ne (pe_callB call_repr_bool (by rfl) T.b_repr (by decide +kernel) (pa_cons (pe_cl c_is_whole hr (by decide) (by rfl) (pa_cons (pv 5) (pa_cons (pv 6) (pa_cons (pv 7) pa_nil)))) pa_nil)) (pe_callB call_repr_bool (by rfl) T.b_repr (by decide +kernel) (pa_cons (pe_cl c__law_whole_due hr (by decide) (by rfl) (pa_cons (pv 5) (pa_cons (pv 6) (pa_cons (pv 7) pa_nil)))) pa_nil)) (nomark _)) (pss_one (ps_ret pe_bl)) pss_nil)))
          (pss_one (ps_if (pt_cmpR op_ne (pe_callB call_repr_bool (by rfl) T.b_repr (by decide +kernel) (pa_cons (pe_cl c_is_name hr (by decide) (by rfl) (pa_cons (pv 5) pa_nil)) pa_nil)) (pe_callB call_repr_bool (by rfl) T.b_repr (by decide +kernel) (pa_cons (pe_cl c__law_name_due hr (by decide) (by rfl) (pa_cons (pv 5) pa_nil)) pa_nil)) (nomark _)) (pss_one (ps_ret pe_bl)) pss_nil)))))))))
      (pss_one (ps_ret pe_bl))), ?_⟩
    refine ⟨.ref a, rfl, _, _, rfl, .inl ⟨_, hS, rfl⟩, _, _, rfl, _, _, rfl, _, rfl, ?_, ?_, for_range (lo := 0) (fun i σ H' => ∃ t1 t2 t3 t4 t5 t6 t7, σ = [some (.ref a), t1, t2, t3, t4, t5, t6, t7] ∧ Same H H') ⟨_, _, _, _, _, _, _, rfl, Same.refl H⟩ ?_ ?_⟩
    · rw [List.length_map]
      split <;> split <;> omega
    · rw [List.length_map]
      split <;> split <;> omega
    · rintro i σ H1 hi ⟨t1, t2, t3, t4, t5, t6, t7, rfl, S1⟩
      -- box
      refine ⟨.ref a, rfl, .int (0 + i), rfl, a, ns, 0 + (i : Int), rfl, S1.seq hS, by omega, fun z => ?_⟩
      refine ⟨z, rfl, fun p H2 hp S2 B2 => ?_⟩
      -- number
      refine ⟨.ref p, rfl, p, 0, rfl, B2, by decide, fun y H3 D3 => ?_⟩
      -- bounds
      refine ⟨.ref p, rfl, .int y, rfl, p, 5, y, rfl, D3.box, by decide, fun t b1 b2 H4 D4 nt ht => ?_⟩
      refine ⟨by show 2 ≤ sizeLine; decide, fun q1 hq1 => ?_⟩
      refine ⟨1, rfl, by show 2 ≤ sizeLine; decide, fun q2 hq2 => ?_⟩
      refine ⟨by show 3 ≤ sizeLine; decide, fun l hl => ?_⟩
      have D4' := ((D4.new (o := .tup [.int 0, .int 1]) hq1).new (o := .tup [.int (-1), .int 4]) hq2).new (o := .lst [.ref t, .ref q1, .ref q2]) hl
      have nq1 := (D4.box.ne hq1).symm
      have nq2 := ((D4.new (o := .tup [.int 0, .int 1]) hq1).box.ne hq2).symm
      have nl := (((D4.new (o := .tup [.int 0, .int 1]) hq1).new (o := .tup [.int (-1), .int 4]) hq2).box.ne hl).symm
      have ht1 := same_new (o := .lst [.ref t, .ref q1, .ref q2]) hl _ _ (same_new (o := .tup [.int (-1), .int 4]) hq2 _ _ (same_new (o := .tup [.int 0, .int 1]) hq1 _ _ ht))
      have hq1' := same_new (o := .lst [.ref t, .ref q1, .ref q2]) hl _ _ (same_new (o := .tup [.int (-1), .int 4]) hq2 _ _ (upd_same (H := H4) (a := q1) (o := .tup [.int 0, .int 1])))
      have hq2' := same_new (o := .lst [.ref t, .ref q1, .ref q2]) hl _ _ (upd_same (H := upd H4 q1 (.tup [.int 0, .int 1])) (a := q2) (o := .tup [.int (-1), .int 4]))
      have hl' := upd_same (H := upd (upd H4 q1 (.tup [.int 0, .int 1])) q2 (.tup [.int (-1), .int 4])) (a := l) (o := .lst [.ref t, .ref q1, .ref q2])
      -- the things
      refine ⟨.int y, rfl, .ref p, rfl, p, 7, rfl, D4'.box, by decide, fun tl H6 htl atl D6 => ?_⟩
      refine ⟨.ref p, rfl, p, 27, rfl, D6.box, by decide, fun v H7 hv D7 => ?_⟩
      refine ⟨.int y, rfl, by show 1 ≤ 1000; decide, fun e he => ?_⟩
      refine ⟨e, _, rfl, upd_same, fun dx hdx ndx => ⟨rfl, ?_⟩⟩
      have hdx' : H7 dx = none := by
        rw [upd_ne ndx] at hdx
        exact hdx
      have SE : Same H7 (upd (upd (upd H7 e (exo e C none)) dx (exd dx [("found", .int y)])) e (exo e C (some dx))) := fun b o z => by
        rw [upd_ne (ne_of_none z he), upd_ne (ne_of_none z hdx'), upd_ne (ne_of_none z he)]
        exact z
      have XE : Exn (upd (upd (upd H7 e (exo e C none)) dx (exd dx [("found", .int y)])) e (exo e C (some dx))) e C [("found", .int y)] := ⟨dx, upd_same, by rw [upd_ne ndx, upd_same]⟩
      generalize upd (upd (upd H7 e (exo e C none)) dx (exd dx [("found", .int y)])) e (exo e C (some dx)) = H8 at SE XE ⊢
      refine ⟨by show 4 ≤ sizeLine; decide, fun l2 hl2 => ?_⟩
      refine ⟨l2, 2, _, rfl, rfl, upd_same, by decide, by decide, by show 4 * 2 ≤ sizeLine; decide, fun l3 hl3 => ?_⟩
      have SL : Same H8 (upd (upd H8 l2 (.lst [.int y, .str (SX.S tl), v, .ref e])) l3 (.lst (List.replicate (2 : Int).toNat [.int y, .str (SX.S tl), v, .ref e]).flatten)) := (same_new hl2).trans (same_new hl3)
      have hl3' := upd_same (H := upd H8 l2 (.lst [.int y, .str (SX.S tl), v, .ref e])) (a := l3) (o := .lst (List.replicate (2 : Int).toNat [.int y, .str (SX.S tl), v, .ref e]).flatten)
      generalize upd (upd H8 l2 (.lst [.int y, .str (SX.S tl), v, .ref e])) l3 (.lst (List.replicate (2 : Int).toNat [.int y, .str (SX.S tl), v, .ref e]).flatten) = H9 at SL hl3' ⊢
      have B69 := ((D6.bt.trans D7.bt).trans (Bt.same SE)).trans (Bt.same SL)
      have S9 : Same H H9 := S1.trans (same_of S2 hp (D3.bt.trans (D4'.bt.trans B69)))
      have eT := B69 _ _ nt ht1
      have e1 := B69 _ _ nq1 hq1'
      have e2 := B69 _ _ nq2 hq2'
      have eL := B69 _ _ nl hl'
      have T9 : ∀ x ∈ (List.replicate (2 : Int).toNat [V.int y, .str (SX.S tl), v, .ref e]).flatten, Th K H9 x := by
        intro x hx
        have hx' : x ∈ [V.int y, .str (SX.S tl), v, .ref e, V.int y, .str (SX.S tl), v, .ref e] := hx
        have a1 : Th K H9 (.int y) := .int y
        have a2 : Th K H9 (.str (SX.S tl)) := .str tl htl atl
        have a3 : Th K H9 v := hv.same (SE.trans SL)
        have a4 : Th K H9 (.ref e) := .exc (XE.same SL) X.I k1 k2 k3
        simp only [List.mem_cons, List.not_mem_nil, or_false] at hx'
        rcases hx' with rfl | rfl | rfl | rfl | rfl | rfl | rfl | rfl <;> assumption
      generalize (List.replicate (2 : Int).toNat [V.int y, .str (SX.S tl), v, .ref e]).flatten = xs at hl3' T9 ⊢
      refine ⟨l3, rfl, ⟨_, .inl (.inl hl3')⟩, for_list (K := K) (a := l3) (xs := xs) (fun j σ H' => ∃ t5 t6 t7, σ = [some (.ref a), some (.int (0 + (i : Int))), some (.ref p), some (.int y), some (.ref l), t5, t6, t7] ∧ Same H9 H') ⟨_, _, _, rfl, Same.refl _⟩ (fun j σ H' _ ⟨_, _, _, _, z⟩ => z.seq (.inl (.inl hl3'))) ?_ ?_⟩
      · rintro j x σ HA hj ⟨t5, t6, t7, rfl, SA⟩
        have TA : Th K HA x := (T9 x (List.mem_of_getElem? hj)).same SA
        -- for low, high in bounds
        refine ⟨.ref l, rfl, l, rfl, ⟨_, .inl (.inl (SA _ _ eL))⟩, for_list (K := K) (a := l) (xs := [.ref t, .ref q1, .ref q2]) (fun j2 σ H' => ∃ t6 t7, σ = [some (.ref a), some (.int (0 + (i : Int))), some (.ref p), some (.int y), some (.ref l), some x, t6, t7] ∧ Same HA H') ⟨_, _, rfl, Same.refl _⟩ (fun j2 σ H' _ ⟨_, _, _, z⟩ => z.seq (.inl (.inl (SA _ _ eL)))) ?_ ?_⟩
        · rintro j2 u σ HB hj2 ⟨t6, t7, rfl, SB⟩
          have hu : ∃ (c : Addr) (lo up : Int), u = .ref c ∧ HB c = some (.tup [.int lo, .int up]) := by
            have hm := List.mem_of_getElem? hj2
            simp only [List.mem_cons, List.not_mem_nil, or_false] at hm
            rcases hm with rfl | rfl | rfl
            · exact ⟨_, _, _, rfl, SB _ _ (SA _ _ eT)⟩
            · exact ⟨_, _, _, rfl, SB _ _ (SA _ _ e1)⟩
            · exact ⟨_, _, _, rfl, SB _ _ (SA _ _ e2)⟩
          obtain ⟨c, lo, up, rfl, hc⟩ := hu
          refine ⟨c, [.int lo, .int up], rfl, .inl (.inl hc), rfl, .int lo, [.int up], rfl, .int up, [], rfl, rfl, ?_⟩
          refine ⟨x, rfl, .int lo, rfl, .int up, rfl, x, lo, up, rfl, TA.same SB, _, rfl, ?_⟩
          refine ⟨x, rfl, .int lo, rfl, .int up, rfl, x, lo, up, rfl, TA.same SB, _, rfl, rfl, _, rfl, ite2 (fun z => ?_) (fun _ => ⟨_, _, rfl, SB⟩)⟩
          rw [repr_ne, bne_self_eq_false] at z
          exact absurd z Bool.false_ne_true
        · rintro σ HB ⟨t6, t7, rfl, SB⟩
          refine ⟨x, rfl, x, rfl, TA.same SB, fun HC SC => ⟨_, rfl, ?_⟩⟩
          refine ⟨x, rfl, x, rfl, (TA.same SB).same SC, fun HD SD => ⟨_, rfl, rfl, _, rfl, ite2 (fun z => ?_) (fun _ => ⟨_, _, _, rfl, SA.trans (SB.trans (SC.trans SD))⟩)⟩⟩
          rw [repr_ne, bne_self_eq_false] at z
          exact absurd z Bool.false_ne_true
      · rintro σ H' ⟨t5, t6, t7, rfl, SS⟩
        exact ⟨_, _, _, _, _, _, _, rfl, S9.trans SS⟩
    · rintro σ H1 ⟨t1, t2, t3, t4, t5, t6, t7, rfl, S1⟩
      exact q _
end
end My
set_option Elab.async false
set_option linter.all false
set_option maxRecDepth 100000
set_option maxHeartbeats 4000000
namespace My
open PySem PySem.Spec PyProof.Rows L2
theorem kit_sub {K : PySem.W.Frag} {C : Addr} {T : String} {b : Bool} (m : PySem.W.kitMeta T = true) (h : PySem.W.subIn K (.ref C) (.type T) = some b) : PySem.W.kitOne K (.ref C) (.type T) = some b := by
  have e : (Value.ref C == Value.type T) = false := rfl
  unfold PySem.W.kitOne
  rw [e, if_neg Bool.false_ne_true]
  show (if PySem.W.kitMeta T = true then PySem.W.subIn K (.ref C) (.type T) else none) = some b
  rw [if_pos m]
  exact h
theorem all_mk {l : PySem.W.OpenLaw} {w : World} {K : PySem.W.Frag} {h : Heap} {mg : Str → Option Value} {fa f_is_number f_is_whole f_is_name f_is_made_of f__law_cell f__law_box f__law_take f__law_thing f__law_number f__law_bounds f__law_text f__law_whole_due f__law_name_due f_law : Addr} (X : K.In h) (G : h.Ns mainGlobals mg) (hfa : mg "law" = some (.ref fa))
    {od_is_number an_is_number : Option Addr} {sl_is_number : Array (Option Value)} {oc_is_number kV_is_number dc_is_number pm_is_number cd_is_number ct_is_number : Value}
    {od_is_whole an_is_whole : Option Addr} {sl_is_whole : Array (Option Value)} {oc_is_whole kV_is_whole dc_is_whole pm_is_whole cd_is_whole ct_is_whole : Value}
    {od_is_name an_is_name : Option Addr} {sl_is_name : Array (Option Value)} {oc_is_name kV_is_name dc_is_name pm_is_name cd_is_name ct_is_name : Value}
    {od_is_made_of an_is_made_of : Option Addr} {sl_is_made_of : Array (Option Value)} {oc_is_made_of kV_is_made_of dc_is_made_of pm_is_made_of cd_is_made_of ct_is_made_of : Value}
    {od__law_cell an__law_cell : Option Addr} {sl__law_cell : Array (Option Value)} {oc__law_cell kV__law_cell dc__law_cell pm__law_cell cd__law_cell ct__law_cell : Value}
    {od__law_box an__law_box : Option Addr} {sl__law_box : Array (Option Value)} {oc__law_box kV__law_box dc__law_box pm__law_box cd__law_box ct__law_box : Value}
    {od__law_take an__law_take : Option Addr} {sl__law_take : Array (Option Value)} {oc__law_take kV__law_take dc__law_take pm__law_take cd__law_take ct__law_take : Value}
    {od__law_thing an__law_thing : Option Addr} {sl__law_thing : Array (Option Value)} {oc__law_thing kV__law_thing dc__law_thing pm__law_thing cd__law_thing ct__law_thing : Value}
    {od__law_number an__law_number : Option Addr} {sl__law_number : Array (Option Value)} {oc__law_number kV__law_number dc__law_number pm__law_number cd__law_number ct__law_number : Value}
    {od__law_bounds an__law_bounds : Option Addr} {sl__law_bounds : Array (Option Value)} {oc__law_bounds kV__law_bounds dc__law_bounds pm__law_bounds cd__law_bounds ct__law_bounds : Value}
    {od__law_text an__law_text : Option Addr} {sl__law_text : Array (Option Value)} {oc__law_text kV__law_text dc__law_text pm__law_text cd__law_text ct__law_text : Value}
    {od__law_whole_due an__law_whole_due : Option Addr} {sl__law_whole_due : Array (Option Value)} {oc__law_whole_due kV__law_whole_due dc__law_whole_due pm__law_whole_due cd__law_whole_due ct__law_whole_due : Value}
    {od__law_name_due an__law_name_due : Option Addr} {sl__law_name_due : Array (Option Value)} {oc__law_name_due kV__law_name_due dc__law_name_due pm__law_name_due cd__law_name_due ct__law_name_due : Value}
    {od_law an_law : Option Addr} {sl_law : Array (Option Value)} {oc_law kV_law dc_law pm_law cd_law ct_law : Value}
    (a_is_number : PySem.W.nsIn K mainGlobals "is_number" = some (some (.ref f_is_number))) (l_is_number : K.lookup f_is_number = some ⟨oc_is_number, od_is_number, .func (PySem.W.fnOf "is_number" "is_number" (defArgs s_is_number) (defBody s_is_number) (defScope s_is_number) .none kV_is_number dc_is_number pm_is_number an_is_number cd_is_number ct_is_number), sl_is_number⟩) (c_is_number : PySem.W.codeIn K cd_is_number "is_number" = true) (k_is_number : PySem.W.keepIn K (.ref f_is_number) = true)
    (a_is_whole : PySem.W.nsIn K mainGlobals "is_whole" = some (some (.ref f_is_whole))) (l_is_whole : K.lookup f_is_whole = some ⟨oc_is_whole, od_is_whole, .func (PySem.W.fnOf "is_whole" "is_whole" (defArgs s_is_whole) (defBody s_is_whole) (defScope s_is_whole) .none kV_is_whole dc_is_whole pm_is_whole an_is_whole cd_is_whole ct_is_whole), sl_is_whole⟩) (c_is_whole : PySem.W.codeIn K cd_is_whole "is_whole" = true) (k_is_whole : PySem.W.keepIn K (.ref f_is_whole) = true)
    (a_is_name : PySem.W.nsIn K mainGlobals "is_name" = some (some (.ref f_is_name))) (l_is_name : K.lookup f_is_name = some ⟨oc_is_name, od_is_name, .func (PySem.W.fnOf "is_name" "is_name" (defArgs s_is_name) (defBody s_is_name) (defScope s_is_name) .none kV_is_name dc_is_name pm_is_name an_is_name cd_is_name ct_is_name), sl_is_name⟩) (c_is_name : PySem.W.codeIn K cd_is_name "is_name" = true) (k_is_name : PySem.W.keepIn K (.ref f_is_name) = true)
    (a_is_made_of : PySem.W.nsIn K mainGlobals "is_made_of" = some (some (.ref f_is_made_of))) (l_is_made_of : K.lookup f_is_made_of = some ⟨oc_is_made_of, od_is_made_of, .func (PySem.W.fnOf "is_made_of" "is_made_of" (defArgs s_is_made_of) (defBody s_is_made_of) (defScope s_is_made_of) .none kV_is_made_of dc_is_made_of pm_is_made_of an_is_made_of cd_is_made_of ct_is_made_of), sl_is_made_of⟩) (c_is_made_of : PySem.W.codeIn K cd_is_made_of "is_made_of" = true) (k_is_made_of : PySem.W.keepIn K (.ref f_is_made_of) = true)
    (a__law_cell : PySem.W.nsIn K mainGlobals "_law_cell" = some (some (.ref f__law_cell))) (l__law_cell : K.lookup f__law_cell = some ⟨oc__law_cell, od__law_cell, .func (PySem.W.fnOf "_law_cell" "_law_cell" (defArgs s__law_cell) (defBody s__law_cell) (defScope s__law_cell) .none kV__law_cell dc__law_cell pm__law_cell an__law_cell cd__law_cell ct__law_cell), sl__law_cell⟩) (c__law_cell : PySem.W.codeIn K cd__law_cell "_law_cell" = true) (k__law_cell : PySem.W.keepIn K (.ref f__law_cell) = true)
    (a__law_box : PySem.W.nsIn K mainGlobals "_law_box" = some (some (.ref f__law_box))) (l__law_box : K.lookup f__law_box = some ⟨oc__law_box, od__law_box, .func (PySem.W.fnOf "_law_box" "_law_box" (defArgs s__law_box) (defBody s__law_box) (defScope s__law_box) .none kV__law_box dc__law_box pm__law_box an__law_box cd__law_box ct__law_box), sl__law_box⟩) (c__law_box : PySem.W.codeIn K cd__law_box "_law_box" = true) (k__law_box : PySem.W.keepIn K (.ref f__law_box) = true)
    (a__law_take : PySem.W.nsIn K mainGlobals "_law_take" = some (some (.ref f__law_take))) (l__law_take : K.lookup f__law_take = some ⟨oc__law_take, od__law_take, .func (PySem.W.fnOf "_law_take" "_law_take" (defArgs s__law_take) (defBody s__law_take) (defScope s__law_take) .none kV__law_take dc__law_take pm__law_take an__law_take cd__law_take ct__law_take), sl__law_take⟩) (c__law_take : PySem.W.codeIn K cd__law_take "_law_take" = true) (k__law_take : PySem.W.keepIn K (.ref f__law_take) = true)
    (a__law_thing : PySem.W.nsIn K mainGlobals "_law_thing" = some (some (.ref f__law_thing))) (l__law_thing : K.lookup f__law_thing = some ⟨oc__law_thing, od__law_thing, .func (PySem.W.fnOf "_law_thing" "_law_thing" (defArgs s__law_thing) (defBody s__law_thing) (defScope s__law_thing) .none kV__law_thing dc__law_thing pm__law_thing an__law_thing cd__law_thing ct__law_thing), sl__law_thing⟩) (c__law_thing : PySem.W.codeIn K cd__law_thing "_law_thing" = true) (k__law_thing : PySem.W.keepIn K (.ref f__law_thing) = true)
    (a__law_number : PySem.W.nsIn K mainGlobals "_law_number" = some (some (.ref f__law_number))) (l__law_number : K.lookup f__law_number = some ⟨oc__law_number, od__law_number, .func (PySem.W.fnOf "_law_number" "_law_number" (defArgs s__law_number) (defBody s__law_number) (defScope s__law_number) .none kV__law_number dc__law_number pm__law_number an__law_number cd__law_number ct__law_number), sl__law_number⟩) (c__law_number : PySem.W.codeIn K cd__law_number "_law_number" = true) (k__law_number : PySem.W.keepIn K (.ref f__law_number) = true)
    (a__law_bounds : PySem.W.nsIn K mainGlobals "_law_bounds" = some (some (.ref f__law_bounds))) (l__law_bounds : K.lookup f__law_bounds = some ⟨oc__law_bounds, od__law_bounds, .func (PySem.W.fnOf "_law_bounds" "_law_bounds" (defArgs s__law_bounds) (defBody s__law_bounds) (defScope s__law_bounds) .none kV__law_bounds dc__law_bounds pm__law_bounds an__law_bounds cd__law_bounds ct__law_bounds), sl__law_bounds⟩) (c__law_bounds : PySem.W.codeIn K cd__law_bounds "_law_bounds" = true) (k__law_bounds : PySem.W.keepIn K (.ref f__law_bounds) = true)
    (a__law_text : PySem.W.nsIn K mainGlobals "_law_text" = some (some (.ref f__law_text))) (l__law_text : K.lookup f__law_text = some ⟨oc__law_text, od__law_text, .func (PySem.W.fnOf "_law_text" "_law_text" (defArgs s__law_text) (defBody s__law_text) (defScope s__law_text) .none kV__law_text dc__law_text pm__law_text an__law_text cd__law_text ct__law_text), sl__law_text⟩) (c__law_text : PySem.W.codeIn K cd__law_text "_law_text" = true) (k__law_text : PySem.W.keepIn K (.ref f__law_text) = true)
    (a__law_whole_due : PySem.W.nsIn K mainGlobals "_law_whole_due" = some (some (.ref f__law_whole_due))) (l__law_whole_due : K.lookup f__law_whole_due = some ⟨oc__law_whole_due, od__law_whole_due, .func (PySem.W.fnOf "_law_whole_due" "_law_whole_due" (defArgs s__law_whole_due) (defBody s__law_whole_due) (defScope s__law_whole_due) .none kV__law_whole_due dc__law_whole_due pm__law_whole_due an__law_whole_due cd__law_whole_due ct__law_whole_due), sl__law_whole_due⟩) (c__law_whole_due : PySem.W.codeIn K cd__law_whole_due "_law_whole_due" = true) (k__law_whole_due : PySem.W.keepIn K (.ref f__law_whole_due) = true)
    (a__law_name_due : PySem.W.nsIn K mainGlobals "_law_name_due" = some (some (.ref f__law_name_due))) (l__law_name_due : K.lookup f__law_name_due = some ⟨oc__law_name_due, od__law_name_due, .func (PySem.W.fnOf "_law_name_due" "_law_name_due" (defArgs s__law_name_due) (defBody s__law_name_due) (defScope s__law_name_due) .none kV__law_name_due dc__law_name_due pm__law_name_due an__law_name_due cd__law_name_due ct__law_name_due), sl__law_name_due⟩) (c__law_name_due : PySem.W.codeIn K cd__law_name_due "_law_name_due" = true) (k__law_name_due : PySem.W.keepIn K (.ref f__law_name_due) = true)
    (a_law : PySem.W.nsIn K mainGlobals "law" = some (some (.ref f_law))) (l_law : K.lookup f_law = some ⟨oc_law, od_law, .func (PySem.W.fnOf "law" "law" (defArgs s_law) (defBody s_law) (defScope s_law) .none kV_law dc_law pm_law an_law cd_law ct_law), sl_law⟩) (c_law : PySem.W.codeIn K cd_law "law" = true) (k_law : PySem.W.keepIn K (.ref f_law) = true)
    (z_ValueError : PySem.W.nsIn K mainGlobals "ValueError" = some none)
    (z_all : PySem.W.nsIn K mainGlobals "all" = some none)
    (z_bool : PySem.W.nsIn K mainGlobals "bool" = some none)
    (z_int : PySem.W.nsIn K mainGlobals "int" = some none)
    (z_isinstance : PySem.W.nsIn K mainGlobals "isinstance" = some none)
    (z_len : PySem.W.nsIn K mainGlobals "len" = some none)
    (z_max : PySem.W.nsIn K mainGlobals "max" = some none)
    (z_min : PySem.W.nsIn K mainGlobals "min" = some none)
    (z_range : PySem.W.nsIn K mainGlobals "range" = some none)
    (z_repr : PySem.W.nsIn K mainGlobals "repr" = some none)
    (z_str : PySem.W.nsIn K mainGlobals "str" = some none)
    {t_LONGEST_NAME : Tok} (y_LONGEST_NAME : PySem.W.nsIn K mainGlobals "LONGEST_NAME" = some (some (.int 6 t_LONGEST_NAME)))
    {t_SMALL_LETTERS : Tok} (y_SMALL_LETTERS : PySem.W.nsIn K mainGlobals "SMALL_LETTERS" = some (some (.str "abcdefghijklmnopqrstuvwxyz" t_SMALL_LETTERS)))
    {C B fI fB : Addr} {nm qn : Str} {NC : Addr} {bs : List Value} {sn : List Str} {sub : List Value} {ab : Bool} {col : Option Bool} {dd : Option Addr} {m0 m1 m2 m3 m5 : Option Value} {odI anI odB anB : Option Addr} {slI slB : Array (Option Value)} {ocI kVI dcI pmI cdI ctI ocB kVB dcB pmB cdB ctB : Value} (aN : PySem.W.nsIn K mainGlobals "NoNumber" = some (some (.ref C))) (aB : PySem.W.nsIn K mainGlobals "PlaceError" = some (some (.ref B))) (iN : PySem.W.findIn K (.ref C) "__init__" = some (some (.ref fI))) (lI : K.lookup fI = some ⟨ocI, odI, .func (PySem.W.fnOf "__init__" "NoNumber.__init__" (defArgs s_NoNumber___init__) (defBody s_NoNumber___init__) (defScope s_NoNumber___init__) .none kVI dcI pmI anI cdI ctI), slI⟩) (cI : PySem.W.codeIn K cdI "NoNumber.__init__" = true) (kI : PySem.W.keepIn K (.ref fI) = true) (tI : PySem.W.typeIn K (.ref fI) = some (.type "function")) (atB : PySem.W.findCls K (.ref B) (.type "type") "__init__" = some (.val (.ref fB))) (lB : K.lookup fB = some ⟨ocB, odB, .func (PySem.W.fnOf "__init__" "PlaceError.__init__" (defArgs s_PlaceError___init__) (defBody s_PlaceError___init__) (defScope s_PlaceError___init__) .none kVB dcB pmB anB cdB ctB), slB⟩) (cB : PySem.W.codeIn K cdB "PlaceError.__init__" = true) (kB : PySem.W.keepIn K (.ref fB) = true) (gaB : PySem.W.specialIn K (.ref B) "__getattribute__" = some (some (.builtin "type.__getattribute__"))) (rdB : PySem.W.readsIn K B (.type "type") = true) (vV : PySem.W.findCls K (.type "ValueError") (.type "type") "__init__" = some (.val (.builtin "ValueError.__init__"))) (xC : K.lookup C = some (excClassObj nm qn C NC bs [.ref B, .type "ValueError", .type "Exception", .type "BaseException", .type "object"] true sn sub ab col dd m0 m1 m2 m3 m5 "ValueError.__new__")) (saC : PySem.W.findIn K (.ref C) "__setattr__" = some (some (.builtin "object.__setattr__"))) (exC : PySem.W.subIn K (.ref C) (.type "BaseException") = some true) (tyC : PySem.W.typeIn K (.ref C) = some (.type "type")) (kC : PySem.W.keepIn K (.ref C) = true) (clC : PySem.W.isClsIn K C = true) (gaC : PySem.W.findIn K (.ref C) "__getattribute__" = some (some (.builtin "BaseException.__getattribute__"))) (gtC : PySem.W.findIn K (.ref C) "__getattr__" = some none) (caC : PySem.W.findIn K (.ref C) "__class__" = some (some (.builtin "object.__class__"))) (hnC : PySem.W.specialIn K (.builtin "object.__class__") "__get__" = some (some (.builtin "getset_descriptor.__get__"))) (tkC : PySem.W.takesIn K (.builtin "object.__class__") = some true) (hmC : PySem.W.mroIn K C (.type "object") = some true) (nF : PySem.W.findIn K (.ref C) "found" = some none) (q1 : PySem.W.subIn K (.ref C) (.type "int") = some false) (q2 : PySem.W.subIn K (.ref C) (.type "bool") = some false) (q3 : PySem.W.subIn K (.ref C) (.type "str") = some false)
    : ∃ fd : FuncData, (∀ (s : Shared) (v : Value), BindsTo s fd ⟨[v], []⟩ [("script", v)]) ∧ ∀ base : Heap, K.In base → base.Ns mainGlobals mg → FnOk l.prog w K mg base CX0 LV fa fd ["script"] (sp_law K) := by
  have e := hfa.symm.trans (PySem.W.mg_of X G a_law)
  cases e
  have T : Txt K mg := ⟨PySem.W.mg_none_of X G z_ValueError, PySem.W.mg_none_of X G z_all, PySem.W.mg_none_of X G z_bool, PySem.W.mg_none_of X G z_int, PySem.W.mg_none_of X G z_isinstance, PySem.W.mg_none_of X G z_len, PySem.W.mg_none_of X G z_max, PySem.W.mg_none_of X G z_min, PySem.W.mg_none_of X G z_range, PySem.W.mg_none_of X G z_repr, PySem.W.mg_none_of X G z_str, ⟨_, PySem.W.mg_of X G y_LONGEST_NAME, ⟨_, rfl⟩⟩, ⟨_, PySem.W.mg_of X G y_SMALL_LETTERS, ⟨_, rfl⟩⟩⟩
  have D_is_number : Df K mg "is_number" s_is_number ["thing"] := ⟨_, _, fun_mk (st := s_is_number) l_is_number c_is_number k_is_number, PySem.W.mg_of X G a_is_number, (fun_mk (st := s_is_number) l_is_number c_is_number k_is_number).binds (ps := ["thing"]) fun _ _ _ _ _ _ us hl => match us, hl with | [_], _ => rfl⟩
  have D_is_whole : Df K mg "is_whole" s_is_whole ["thing", "low", "high"] := ⟨_, _, fun_mk (st := s_is_whole) l_is_whole c_is_whole k_is_whole, PySem.W.mg_of X G a_is_whole, (fun_mk (st := s_is_whole) l_is_whole c_is_whole k_is_whole).binds (ps := ["thing", "low", "high"]) fun _ _ _ _ _ _ us hl => match us, hl with | [_, _, _], _ => rfl⟩
  have D_is_name : Df K mg "is_name" s_is_name ["thing"] := ⟨_, _, fun_mk (st := s_is_name) l_is_name c_is_name k_is_name, PySem.W.mg_of X G a_is_name, (fun_mk (st := s_is_name) l_is_name c_is_name k_is_name).binds (ps := ["thing"]) fun _ _ _ _ _ _ us hl => match us, hl with | [_], _ => rfl⟩
  have D_is_made_of : Df K mg "is_made_of" s_is_made_of ["thing", "signs", "most"] := ⟨_, _, fun_mk (st := s_is_made_of) l_is_made_of c_is_made_of k_is_made_of, PySem.W.mg_of X G a_is_made_of, (fun_mk (st := s_is_made_of) l_is_made_of c_is_made_of k_is_made_of).binds (ps := ["thing", "signs", "most"]) fun _ _ _ _ _ _ us hl => match us, hl with | [_, _, _], _ => rfl⟩
  have D__law_cell : Df K mg "_law_cell" s__law_cell ["script", "k"] := ⟨_, _, fun_mk (st := s__law_cell) l__law_cell c__law_cell k__law_cell, PySem.W.mg_of X G a__law_cell, (fun_mk (st := s__law_cell) l__law_cell c__law_cell k__law_cell).binds (ps := ["script", "k"]) fun _ _ _ _ _ _ us hl => match us, hl with | [_, _], _ => rfl⟩
  have D__law_box : Df K mg "_law_box" s__law_box ["cell"] := ⟨_, _, fun_mk (st := s__law_box) l__law_box c__law_box k__law_box, PySem.W.mg_of X G a__law_box, (fun_mk (st := s__law_box) l__law_box c__law_box k__law_box).binds (ps := ["cell"]) fun _ _ _ _ _ _ us hl => match us, hl with | [_], _ => rfl⟩
  have D__law_take : Df K mg "_law_take" s__law_take ["box", "many"] := ⟨_, _, fun_mk (st := s__law_take) l__law_take c__law_take k__law_take, PySem.W.mg_of X G a__law_take, (fun_mk (st := s__law_take) l__law_take c__law_take k__law_take).binds (ps := ["box", "many"]) fun _ _ _ _ _ _ us hl => match us, hl with | [_, _], _ => rfl⟩
  have D__law_thing : Df K mg "_law_thing" s__law_thing ["box"] := ⟨_, _, fun_mk (st := s__law_thing) l__law_thing c__law_thing k__law_thing, PySem.W.mg_of X G a__law_thing, (fun_mk (st := s__law_thing) l__law_thing c__law_thing k__law_thing).binds (ps := ["box"]) fun _ _ _ _ _ _ us hl => match us, hl with | [_], _ => rfl⟩
  have D__law_number : Df K mg "_law_number" s__law_number ["box"] := ⟨_, _, fun_mk (st := s__law_number) l__law_number c__law_number k__law_number, PySem.W.mg_of X G a__law_number, (fun_mk (st := s__law_number) l__law_number c__law_number k__law_number).binds (ps := ["box"]) fun _ _ _ _ _ _ us hl => match us, hl with | [_], _ => rfl⟩
  have D__law_bounds : Df K mg "_law_bounds" s__law_bounds ["box", "number"] := ⟨_, _, fun_mk (st := s__law_bounds) l__law_bounds c__law_bounds k__law_bounds, PySem.W.mg_of X G a__law_bounds, (fun_mk (st := s__law_bounds) l__law_bounds c__law_bounds k__law_bounds).binds (ps := ["box", "number"]) fun _ _ _ _ _ _ us hl => match us, hl with | [_, _], _ => rfl⟩
  have D__law_text : Df K mg "_law_text" s__law_text ["box"] := ⟨_, _, fun_mk (st := s__law_text) l__law_text c__law_text k__law_text, PySem.W.mg_of X G a__law_text, (fun_mk (st := s__law_text) l__law_text c__law_text k__law_text).binds (ps := ["box"]) fun _ _ _ _ _ _ us hl => match us, hl with | [_], _ => rfl⟩
  have D__law_whole_due : Df K mg "_law_whole_due" s__law_whole_due ["thing", "low", "high"] := ⟨_, _, fun_mk (st := s__law_whole_due) l__law_whole_due c__law_whole_due k__law_whole_due, PySem.W.mg_of X G a__law_whole_due, (fun_mk (st := s__law_whole_due) l__law_whole_due c__law_whole_due k__law_whole_due).binds (ps := ["thing", "low", "high"]) fun _ _ _ _ _ _ us hl => match us, hl with | [_, _, _], _ => rfl⟩
  have D__law_name_due : Df K mg "_law_name_due" s__law_name_due ["thing"] := ⟨_, _, fun_mk (st := s__law_name_due) l__law_name_due c__law_name_due k__law_name_due, PySem.W.mg_of X G a__law_name_due, (fun_mk (st := s__law_name_due) l__law_name_due c__law_name_due k__law_name_due).binds (ps := ["thing"]) fun _ _ _ _ _ _ us hl => match us, hl with | [_], _ => rfl⟩
  have D_law : Df K mg "law" s_law ["script"] := ⟨_, _, fun_mk (st := s_law) l_law c_law k_law, PySem.W.mg_of X G a_law, (fun_mk (st := s_law) l_law c_law k_law).binds (ps := ["script"]) fun _ _ _ _ _ _ us hl => match us, hl with | [_], _ => rfl⟩
  exact ⟨_, fun s v => .of_eq rfl, fun base _ _ => by
    have FB := fun_mk (st := s_PlaceError___init__) lB cB kB
    have bB : Binds K _ ["self", "text"] [] := FB.binds (ps := ["self", "text"]) fun _ _ _ _ _ _ us hl => match us, hl with | [_, _], _ => rfl
    have FI := fun_mk (st := s_NoNumber___init__) lI cI kI
    have bI : Binds K _ ["self", "found"] [] := FI.binds (ps := ["self", "found"]) fun _ _ _ _ _ _ us hl => match us, hl with | [_, _], _ => rfl
    have TC : OexC K C := ⟨⟨_, _, _, _, _, _, _, _, _, _, _, _, _, _, _, xC, by rfl⟩, saC, exC, tyC, kC⟩
    have IC : ExI K C := ⟨clC, gaC, gtC, exC, caC, hnC, tkC, hmC⟩
    have XK : ExK K mg "NoNumber" C fI := ⟨TC, PySem.W.mg_of X G aN, iN, tI, IC, nF⟩
    have X : ∃ fI, ExK K mg "NoNumber" C fI := ⟨fI, XK⟩
    have GB : FnOk l.prog w K mg base CX0 2 fB _ ["self", "text"] (sp_base K) := ok_PlaceError T vV FB
    have GN : FnOk l.prog w K mg base CX0 3 fI _ ["self", "found"] (sp_found C) := ok_NoNumber XK ⟨gaB, rdB, atB⟩ (PySem.W.mg_of (by assumption) G aB) kB bB GB FI
    have cNN : Mx l.prog w K mg base 3 "NoNumber" C (sp_found C) := ⟨TC, XK.gC, fI, _, _, iN, tI, GN, bI⟩
    have cTake : Cl l.prog w K mg base 2 "_law_take" ["box", "many"] sp_take := ok_take T D__law_take
    have cCell : Cl l.prog w K mg base 2 "_law_cell" ["script", "k"] (sp_cell K) := ok_cell T D__law_cell
    have cBox : Cl l.prog w K mg base 2 "_law_box" ["cell"] sp_box := ok_box T D__law_box
    have cNumber : Cl l.prog w K mg base 3 "_law_number" ["box"] (sp_drawI 5) := ok_number T cTake D__law_number
    have cBounds : Cl l.prog w K mg base 3 "_law_bounds" ["box", "number"] sp_bounds := ok_bounds T cTake D__law_bounds
    have cText : Cl l.prog w K mg base 3 "_law_text" ["box"] sp_text := ok_text T cTake D__law_text
    have cThing : Cl l.prog w K mg base 3 "_law_thing" ["box"] (sp_thing K) := ok_thing T cTake D__law_thing
    have cNum : Cl l.prog w K mg base 1 "is_number" ["thing"] (sp_num K) := ok_isNum T D_is_number
    have cWhole : Cl l.prog w K mg base 2 "is_whole" ["thing", "low", "high"] (sp_whole K) := ok_whole T cNum D_is_whole
    have cWdue : Cl l.prog w K mg base 2 "_law_whole_due" ["thing", "low", "high"] (sp_whole K) := ok_wdue T D__law_whole_due
    have cMade : Cl l.prog w K mg base 2 "is_made_of" ["thing", "signs", "most"] (sp_made K) := ok_made T D_is_made_of
    have cName : Cl l.prog w K mg base 3 "is_name" ["thing"] (sp_name K) := ok_name T cMade D_is_name
    have cNdue : Cl l.prog w K mg base 2 "_law_name_due" ["thing"] (sp_name K) := ok_ndue T D__law_name_due
    exact ok_law T (fun_mk (st := s_law) l_law c_law k_law) X (kit_sub (by decide +kernel) q1) (kit_sub (by decide +kernel) q2) (kit_sub (by decide +kernel) q3) cCell cBox cNumber cBounds cText cThing cNN cWhole cWdue cName cNdue⟩
end My
open PySem PySem.W PyProof.Rows
set_option maxHeartbeats 0 in
theorem PySem.Challenge.cw_bookplaces_k01_wholes_and_names_holds : PySem.Challenge.rw_bookplaces_k01_wholes_and_names.Holds := by
  w_on; o_law; k_head; (case hw => w_witness2)
  k_fill
  refine L2.walk_of (l := PySem.Challenge.rw_bookplaces_k01_wholes_and_names) (n := 63) (k := My.LV) (x := "script") (CX := fun _ => L2.CX0) (sp := fun w => My.sp_law _) rfl (by decide) rfl ⟨rfl, by decide, by decide⟩ (fun w h Y => PySem.W.kIn_of Y) ?F (fun _ _ a ns hl _ hS => ⟨a, ns, rfl, hS, hl, fun _ => rfl⟩) (fun _ _ _ _ _ h => h)
  case F =>
    intro w mg fa h KX G hmg
    refine' My.all_mk KX G hmg ?a_is_number ?l_is_number ?c_is_number ?k_is_number ?a_is_whole ?l_is_whole ?c_is_whole ?k_is_whole ?a_is_name ?l_is_name ?c_is_name ?k_is_name ?a_is_made_of ?l_is_made_of ?c_is_made_of ?k_is_made_of ?a__law_cell ?l__law_cell ?c__law_cell ?k__law_cell ?a__law_box ?l__law_box ?c__law_box ?k__law_box ?a__law_take ?l__law_take ?c__law_take ?k__law_take ?a__law_thing ?l__law_thing ?c__law_thing ?k__law_thing ?a__law_number ?l__law_number ?c__law_number ?k__law_number ?a__law_bounds ?l__law_bounds ?c__law_bounds ?k__law_bounds ?a__law_text ?l__law_text ?c__law_text ?k__law_text ?a__law_whole_due ?l__law_whole_due ?c__law_whole_due ?k__law_whole_due ?a__law_name_due ?l__law_name_due ?c__law_name_due ?k__law_name_due ?a_law ?l_law ?c_law ?k_law ?z_ValueError ?z_all ?z_bool ?z_int ?z_isinstance ?z_len ?z_max ?z_min ?z_range ?z_repr ?z_str ?y_LONGEST_NAME ?y_SMALL_LETTERS ?aN ?aB ?iN ?lI ?cI ?kI ?tI ?atB ?lB ?cB ?kB ?gaB ?rdB ?vV ?xC ?saC ?exC ?tyC ?kC ?clC ?gaC ?gtC ?caC ?hnC ?tkC ?hmC ?nF ?q1 ?q2 ?q3
    (case a_is_number => k_is); (case l_is_number => k_is); (case c_is_number => k_is); (case k_is_number => k_is); (case a_is_whole => k_is); (case l_is_whole => k_is)
    (case c_is_whole => k_is); (case k_is_whole => k_is); (case a_is_name => k_is); (case l_is_name => k_is); (case c_is_name => k_is); (case k_is_name => k_is)
    (case a_is_made_of => k_is); (case l_is_made_of => k_is); (case c_is_made_of => k_is); (case k_is_made_of => k_is); (case a__law_cell => k_is); (case l__law_cell => k_is)
    (case c__law_cell => k_is); (case k__law_cell => k_is); (case a__law_box => k_is); (case l__law_box => k_is); (case c__law_box => k_is); (case k__law_box => k_is)
    (case a__law_take => k_is); (case l__law_take => k_is); (case c__law_take => k_is); (case k__law_take => k_is); (case a__law_thing => k_is); (case l__law_thing => k_is)
    (case c__law_thing => k_is); (case k__law_thing => k_is); (case a__law_number => k_is); (case l__law_number => k_is); (case c__law_number => k_is); (case k__law_number => k_is)
    (case a__law_bounds => k_is); (case l__law_bounds => k_is); (case c__law_bounds => k_is); (case k__law_bounds => k_is); (case a__law_text => k_is); (case l__law_text => k_is)
    (case c__law_text => k_is); (case k__law_text => k_is); (case a__law_whole_due => k_is); (case l__law_whole_due => k_is); (case c__law_whole_due => k_is); (case k__law_whole_due => k_is)
    (case a__law_name_due => k_is); (case l__law_name_due => k_is); (case c__law_name_due => k_is); (case k__law_name_due => k_is); (case a_law => k_is); (case l_law => k_is)
    (case c_law => k_is); (case k_law => k_is); (case z_ValueError => k_is); (case z_all => k_is); (case z_bool => k_is); (case z_int => k_is)
    (case z_isinstance => k_is); (case z_len => k_is); (case z_max => k_is); (case z_min => k_is); (case z_range => k_is); (case z_repr => k_is)
    (case z_str => k_is); (case y_LONGEST_NAME => k_is); (case y_SMALL_LETTERS => k_is); (case aN => k_is); (case aB => k_is); (case iN => k_is)
    (case lI => k_is); (case cI => k_is); (case kI => k_is); (case tI => k_is); (case atB => k_is); (case lB => k_is)
    (case cB => k_is); (case kB => k_is); (case gaB => k_is); (case rdB => k_is); (case vV => k_is); (case xC => k_is)
    (case saC => k_is); (case exC => k_is); (case tyC => k_is); (case kC => k_is); (case clC => k_is); (case gaC => k_is)
    (case gtC => k_is); (case caC => k_is); (case hnC => k_is); (case tkC => k_is); (case hmC => k_is); (case nF => k_is)
    (case q1 => k_is); (case q2 => k_is); (case q3 => k_is)
