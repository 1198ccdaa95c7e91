import PyProof.Rows.All
import Wide.All
import OpenK.AllK
import Wide.FinOn
import KE.GoesMore
import HandS.ForMost
import HandS.IsInst
import HandS.TupAny
import HandS.Zip
import HandS.Strs
import HandS.Style
import HandS.Walk
import HandS.Defaults
import HandS.HeadHook4
import KE.KExcIs
import HandS.ExcInit
import HandS.ExcIs
import HandS.ExcField
import HandS.HeadHook1
import KE.GoesEnum
import PyProof.DictUpdate
import PyProof.EnumMake
import PyProof.ReprRoads
import PyProof.ReprLen
import PyProof.ReprText
import HandS.HeadEnd
import HandS.TupSets
import PyProof.Rows.SortShellAny
import PyProof.Rows.SortStr
import HandS.Deep
import HandS.Evl
import HandS.Head2
import KE.KStateDown
import HandS.Head0
import HandS.Head1
import PySem.Challenge.RW_kinsignals_k06_signals_and_refusals
set_option Elab.async false
set_option linter.all false
set_option maxRecDepth 100000
set_option maxHeartbeats 4000000
/-! Own layer: a def as its caller sees it, data told as a whole, heaps. -/
namespace Kin
open PySem PySem.Spec PyProof.Rows L2

/-! ### a def as its caller sees it -/
structure Cal (P : Program) (w : World) (K : PySem.W.Frag) (mg : Str → Option Value) (base : Heap) (x : Str) (ps : List Str) (k : Nat) (sp : Sp) : Prop where
  ex : ∃ (f : Addr) (fd : FuncData), FnOk P w K mg base CX0 k f fd ps sp ∧ mg x = some (.ref f) ∧ PySem.W.keepIn K (.ref f) = true ∧ Binds K fd ps []
section
variable {X : Cx} {x : Str} {ps : List Str} {k : Nat} {sp : Sp} {e : Expr} {es : List Expr} {t : TA} {p pos : Pos}
theorem pe_cal (c : Cal X.prog X.w X.K X.mg X.base x ps k sp) (hr : Room k X.A) (hg : Gl X x) (hx : Passes CX0 X E0) (ha : PA X (e :: es) t) (hdb : (x == ("__debug__" : Str)) = false := by decide)
    (he : starEach (e :: es) X.env = (false, eval e X.env) :: starEach es X.env := by rfl) (hpl : (backTo pos (starEach es X.env)).any (·.1) = false := by rfl) :
    PE X (.Call (.Name x p) (e :: es) [] pos) (tCall sp [] E0 t) := by
  obtain ⟨f, fd, F, hm, hk, hb⟩ := c.ex
  exact pe_call F hr hg hm hk hb .nil hx ha hdb he hpl
theorem pe_cal0 (c : Cal X.prog X.w X.K X.mg X.base x ps k sp) (hr : Room k X.A) (hg : Gl X x) (hx : Passes CX0 X E0) (hdb : (x == ("__debug__" : Str)) = false := by decide) :
    PE X (.Call (.Name x p) [] [] pos) (tCall sp [] E0 tNil) := by
  obtain ⟨f, fd, F, hm, hk, hb⟩ := c.ex
  exact pe_call0 F hr hg hm hk hb .nil hx hdb
end

/-! ### heaps -/
theorem same_upd {H : Hp} {p : Addr} {o : HO} (h : H p = none) : Same H (upd H p o) := fun b x e => by
  rw [upd_ne (ne_of_none e h)]
  exact e
theorem Same.tup {K : PySem.W.Frag} {H H' : Hp} {a : Addr} {xs : List V} (e : Same H H') (h : SqT K H a xs) : SqT K H' a xs := by
  rcases h with (h | ⟨o, h⟩) | h
  · exact .inl (.inl (e _ _ h))
  · exact .inl (.inr ⟨o, e _ _ h⟩)
  · exact .inr h
theorem sqT_new {K : PySem.W.Frag} {H : Hp} {p : Addr} {xs : List V} : SqT K (upd H p (.tup xs)) p xs := .inl (.inl upd_same)
theorem sqL_new {K : PySem.W.Frag} {H : Hp} {p : Addr} {xs : List V} : SqL K (upd H p (.lst xs)) p xs := .inl (.inl upd_same)

/-! ### data: those of the library, and {} -/
mutual
/-- v stands for d in H -/
inductive Dp (K : PySem.W.Frag) (H : Hp) : V → PyData → Prop where
  | non : Dp K H .non .none
  | bl (t : Bool) : Dp K H (V.bl t) (PyData.bool t)
  | int (n : Int) : Dp K H (V.int n) (PyData.int n)
  | str (z : Str) : Dp K H (V.str z) (PyData.str z)
  | lst {p : Addr} {us : List V} {es : List PyData} (at_ : SqL K H p us) (each : DpAll K H us es) : Dp K H (V.ref p) (PyData.list es)
  | tup {p : Addr} {us : List V} {es : List PyData} (at_ : SqT K H p us) (each : DpAll K H us es) : Dp K H (V.ref p) (PyData.tuple es)
  | dct {p : Addr} (at_ : H p = some (.dK [])) : Dp K H (V.ref p) (PyData.dict [])
/-- one by one -/
inductive DpAll (K : PySem.W.Frag) (H : Hp) : List V → List PyData → Prop where
  | nil : DpAll K H [] []
  | cons {u : V} {us : List V} {e : PyData} {es : List PyData} (one : Dp K H u e) (rest : DpAll K H us es) : DpAll K H (u :: us) (e :: es)
end
section
variable {K : PySem.W.Frag} {H H' : Hp}
mutual
theorem dp_L2 : ∀ {d : PyData} {v : V}, d.canLay0 = true → Dp K H v d → L2.Dp K H v d
  | _, _, _, .non => .non
  | _, _, _, .bl b => .bl b
  | _, _, _, .int i => .int i
  | _, _, _, .str z => .str z
  | _, _, e, .lst h a => .lst h (dpA_L2 (by rw [PyData.canLay0] at e; exact e) a)
  | _, _, e, .tup h a => .tup h (dpA_L2 (by rw [PyData.canLay0] at e; exact e) a)
  | _, _, e, .dct _ => by rw [PyData.canLay0] at e; cases e
theorem dpA_L2 : ∀ {ds : List PyData} {vs : List V}, PyData.canLayAll0 ds = true → DpAll K H vs ds → L2.DpAll K H vs ds
  | _, _, _, .nil => .nil
  | _, _, e, .cons h t => by
    rw [PyData.canLayAll0] at e
    obtain ⟨e1, e2⟩ := Bool.and_eq_true_iff.mp e
    exact .cons (dp_L2 e1 h) (dpA_L2 e2 t)
end
end
section
variable {X : Cx}
def rEqD (K : PySem.W.Frag) : R2 := fun u v H Q => ∃ a b, Dp K H u a ∧ Dp K H v b ∧ SeqAt.shaped a = true ∧ SeqAt.shaped b = true ∧ Q (.bl (a.eqv b)) H
def rNeD (K : PySem.W.Frag) : R2 := fun u v H Q => ∃ a b, Dp K H u a ∧ Dp K H v b ∧ SeqAt.shaped a = true ∧ SeqAt.shaped b = true ∧ Q (.bl (!a.eqv b)) H
theorem op_eqD (hu : X.A.units + 64 < cLine) : OpR X (compareOp .Eq) (rEqD X.K) := fun pins s σ H x y v u Q I rx ry h => by
  obtain ⟨d, e, hd, he, sd, se, q⟩ := h
  exact L2.op_eqD hu pins s σ H x y v u Q I rx ry ⟨d, e, dp_L2 (SeqAt.canLay_of_shaped sd) hd, dp_L2 (SeqAt.canLay_of_shaped se) he, sd, se, q⟩
theorem op_neD (hu : X.A.units + 64 < cLine) : OpR X (compareOp .NotEq) (rNeD X.K) := fun pins s σ H x y v u Q I rx ry h => by
  obtain ⟨d, e, hd, he, sd, se, q⟩ := h
  exact L2.op_neD hu pins s σ H x y v u Q I rx ry ⟨d, e, dp_L2 (SeqAt.canLay_of_shaped sd) hd, dp_L2 (SeqAt.canLay_of_shaped se) he, sd, se, q⟩
end
section
variable {K : PySem.W.Frag} {H H' : Hp}
mutual
theorem dp_mono (e : Same H H') : ∀ {d : PyData} {v : V}, Dp K H v d → Dp K H' v d
  | _, _, .non => .non
  | _, _, .bl b => .bl b
  | _, _, .int i => .int i
  | _, _, .str x => .str x
  | _, _, .lst h a => .lst (e.seq h) (dpA_mono e a)
  | _, _, .tup h a => .tup (Same.tup e h) (dpA_mono e a)
  | _, _, .dct h => .dct (e _ _ h)
theorem dpA_mono (e : Same H H') : ∀ {ds : List PyData} {vs : List V}, DpAll K H vs ds → DpAll K H' vs ds
  | _, _, .nil => .nil
  | _, _, .cons h t => .cons (dp_mono e h) (dpA_mono e t)
end
theorem dpA_len : ∀ {ds : List PyData} {vs : List V}, DpAll K H vs ds → vs.length = ds.length
  | _, _, .nil => rfl
  | _, _, .cons _ t => by rw [List.length_cons, List.length_cons, dpA_len t]
theorem dpA_get : ∀ {ds : List PyData} {vs : List V} {i : Nat} {v : V}, DpAll K H vs ds → vs[i]? = some v → ∃ d, ds[i]? = some d ∧ Dp K H v d
  | _, _, 0, _, .cons h _, e => ⟨_, rfl, by cases e; exact h⟩
  | _, _, i + 1, _, .cons _ t, e => by
    obtain ⟨d, h1, h2⟩ := dpA_get (i := i) t (by simpa using e)
    exact ⟨d, by simpa using h1, h2⟩
  | _, _, _, _, .nil, e => by simp at e
theorem dpA_app : ∀ {ds es : List PyData} {vs ws : List V}, DpAll K H vs ds → DpAll K H ws es → DpAll K H (vs ++ ws) (ds ++ es)
  | _, _, _, _, .nil, h => h
  | _, _, _, _, .cons h t, h' => .cons h (dpA_app t h')
theorem dpA_drop : ∀ {ds : List PyData} {vs : List V} (n : Nat), DpAll K H vs ds → DpAll K H (vs.drop n) (ds.drop n)
  | _, _, 0, h => h
  | _, _, n + 1, .nil => .nil
  | _, _, n + 1, .cons _ t => dpA_drop n t
theorem dpA_take : ∀ {ds : List PyData} {vs : List V} (n : Nat), DpAll K H vs ds → DpAll K H (vs.take n) (ds.take n)
  | _, _, 0, _ => .nil
  | _, _, n + 1, .nil => .nil
  | _, _, n + 1, .cons h t => .cons h (dpA_take n t)
theorem dpA_rev {ds : List PyData} {vs : List V} (h : DpAll K H vs ds) : DpAll K H vs.reverse ds.reverse := by
  induction vs generalizing ds with
  | nil =>
    cases h
    exact .nil
  | cons v r ih =>
    cases h with
    | cons h t =>
      rw [List.reverse_cons, List.reverse_cons]
      exact dpA_app (ih t) (.cons h .nil)
theorem dpA_strs (ws : List Str) : DpAll K H (ws.map V.str) (ws.map PyData.str) := by
  induction ws with
  | nil => exact .nil
  | cons w r ih => exact .cons (.str w) ih

/-- a datum's type, and what isinstance says of it -/
def tyD : PyData → String
  | .none => "NoneType"
  | .bool _ => "bool"
  | .int _ => "int"
  | .str _ => "str"
  | .list _ => "list"
  | .tuple _ => "tuple"
  | .dict _ => "dict"
theorem tyx_of {v : V} {d : PyData} (h : Dp K H v d) : TyX K H v (.type (tyD d)) := by
  cases h with
  | non => exact .base .non
  | bl b => exact .base (.bl b)
  | int i => exact .base (.int i)
  | str x => exact .base (.str x)
  | lst h a =>
    rcases h with (h | ⟨o, h⟩) | ⟨o, its, n, h, hc, _⟩
    · exact .base (.lst h)
    · exact .base (.frz h)
    · exact .kList h hc
  | tup h a =>
    rcases h with (h | ⟨o, h⟩) | ⟨o, its, n, h, hc, _⟩
    · exact .base (.tup h)
    · exact .fTuple h
    · exact .kTuple h hc
  | dct h => exact .base (.dK h)
def isaInt : PyData → Bool
  | .int _ => true
  | .bool _ => true
  | _ => false
def isaBool : PyData → Bool
  | .bool _ => true
  | _ => false
def isaStr : PyData → Bool
  | .str _ => true
  | _ => false
def isaTup : PyData → Bool
  | .tuple _ => true
  | _ => false
def nodict : PyData → Bool := fun _ => true
theorem nd_of {v : V} {d : PyData} (h : Dp K H v d) : nodict d = true := rfl
theorem kit_int : ∀ {d : PyData}, nodict d = true → PySem.W.kitOne K (.type (tyD d)) (.type "int") = some (isaInt d)
  | .none, _ => kit_ty (a := "NoneType") (r := false) (by decide +kernel)
  | .bool _, _ => kit_ty (a := "bool") (r := true) (by decide +kernel)
  | .int _, _ => kit_ty (a := "int") (r := true) (by decide +kernel)
  | .str _, _ => kit_ty (a := "str") (r := false) (by decide +kernel)
  | .list _, _ => kit_ty (a := "list") (r := false) (by decide +kernel)
  | .tuple _, _ => kit_ty (a := "tuple") (r := false) (by decide +kernel)
  | .dict _, _ => kit_ty (a := "dict") (r := false) (by decide +kernel)
theorem kit_bool : ∀ {d : PyData}, nodict d = true → PySem.W.kitOne K (.type (tyD d)) (.type "bool") = some (isaBool d)
  | .none, _ => kit_ty (a := "NoneType") (r := false) (by decide +kernel)
  | .bool _, _ => kit_ty (a := "bool") (r := true) (by decide +kernel)
  | .int _, _ => kit_ty (a := "int") (r := false) (by decide +kernel)
  | .str _, _ => kit_ty (a := "str") (r := false) (by decide +kernel)
  | .list _, _ => kit_ty (a := "list") (r := false) (by decide +kernel)
  | .tuple _, _ => kit_ty (a := "tuple") (r := false) (by decide +kernel)
  | .dict _, _ => kit_ty (a := "dict") (r := false) (by decide +kernel)
theorem kit_str : ∀ {d : PyData}, nodict d = true → PySem.W.kitOne K (.type (tyD d)) (.type "str") = some (isaStr d)
  | .none, _ => kit_ty (a := "NoneType") (r := false) (by decide +kernel)
  | .bool _, _ => kit_ty (a := "bool") (r := false) (by decide +kernel)
  | .int _, _ => kit_ty (a := "int") (r := false) (by decide +kernel)
  | .str _, _ => kit_ty (a := "str") (r := true) (by decide +kernel)
  | .list _, _ => kit_ty (a := "list") (r := false) (by decide +kernel)
  | .tuple _, _ => kit_ty (a := "tuple") (r := false) (by decide +kernel)
  | .dict _, _ => kit_ty (a := "dict") (r := false) (by decide +kernel)
theorem kit_tup : ∀ {d : PyData}, nodict d = true → PySem.W.kitOne K (.type (tyD d)) (.type "tuple") = some (isaTup d)
  | .none, _ => kit_ty (a := "NoneType") (r := false) (by decide +kernel)
  | .bool _, _ => kit_ty (a := "bool") (r := false) (by decide +kernel)
  | .int _, _ => kit_ty (a := "int") (r := false) (by decide +kernel)
  | .str _, _ => kit_ty (a := "str") (r := false) (by decide +kernel)
  | .list _, _ => kit_ty (a := "list") (r := false) (by decide +kernel)
  | .tuple _, _ => kit_ty (a := "tuple") (r := true) (by decide +kernel)
  | .dict _, _ => kit_ty (a := "dict") (r := false) (by decide +kernel)
end

/-! ### words in tables -/
theorem inV_strs (z : Str) (ws : List Str) : inV (.str z) (ws.map V.str) = decide (z ∈ ws) := by
  unfold inV
  induction ws with
  | nil => simp
  | cons w r ih =>
    rw [List.map_cons, List.any_cons, ih]
    show ((w == z) || decide (z ∈ r)) = decide (z ∈ w :: r)
    by_cases h : w = z
    · subst h
      simp
    · have h2 : ¬ z = w := fun q => h q.symm
      simp [h, h2]
theorem flat_strs (ws : List Str) : (ws.map V.str).all flatV = true := by
  induction ws with
  | nil => rfl
  | cons w r ih =>
    rw [List.map_cons, List.all_cons, ih]
    rfl
theorem in_k {H : Hp} {z : Str} {ws : List Str} {Q : VK} (q : Q (.bl (decide (z ∈ ws))) H) : Q (.bl (inV (.str z) (ws.map V.str))) H := by
  rw [inV_strs]
  exact q
theorem notin_k {H : Hp} {z : Str} {ws : List Str} {Q : VK} (q : Q (.bl (!decide (z ∈ ws))) H) : Q (.bl (!inV (.str z) (ws.map V.str))) H := by
  rw [inV_strs]
  exact q

theorem iteLen {n : Nat} {m : Int} {A B : Prop} (h1 : (n : Int) ≠ m → A) (h2 : (n : Int) = m → B) : if (!decide (V.int (n : Int) = V.int m)) = true then A else B := by
  by_cases h : (n : Int) = m
  · have e : (!decide (V.int (n : Int) = V.int m)) = false := by rw [h]; simp
    rw [e]
    exact iteF (h2 h)
  · have e : (!decide (V.int (n : Int) = V.int m)) = true := by
      have : ¬ V.int (n : Int) = V.int m := fun q => h (V.int.inj q)
      simp [this]
    rw [e]
    exact iteT (h1 h)
theorem iteLenE {n : Nat} {m : Int} {A B : Prop} (h1 : (n : Int) = m → A) (h2 : (n : Int) ≠ m → B) : if decide (V.int (n : Int) = V.int m) = true then A else B := by
  by_cases h : (n : Int) = m
  · have e : decide (V.int (n : Int) = V.int m) = true := by rw [h]; simp
    rw [e]
    exact iteT (h1 h)
  · have e : decide (V.int (n : Int) = V.int m) = false := by
      have : ¬ V.int (n : Int) = V.int m := fun q => h (V.int.inj q)
      simp [this]
    rw [e]
    exact iteF (h2 h)
theorem dec_int' {a b : Int} : decide (V.int a = V.int b) = decide (a = b) := by
  by_cases h : a = b
  · subst h
    simp
  · have : ¬ V.int a = V.int b := fun q => h (V.int.inj q)
    simp [h, this]
theorem dec_str {a b : Str} : decide (V.str a = V.str b) = decide (a = b) := by
  by_cases h : a = b
  · subst h
    simp
  · have : ¬ V.str a = V.str b := fun q => h (V.str.inj q)
    simp [h, this]
theorem same_mut {H H' : Hp} {p : Addr} {o : HO} (e : Same H H') (h : H p = none) : Same H (upd H' p o) := fun b x hb => by
  rw [upd_ne (ne_of_none hb h)]
  exact e b x hb
theorem cut1 (xs : List V) : cutV xs (some 1) none = xs.drop 1 := by
  unfold cutV
  rw [show HT.sIx xs.length 0 (some 1) = min 1 xs.length from HT.sIx_nat xs.length 0 1, HT.sIx_none]
  cases xs with
  | nil => rfl
  | cons x r =>
    rw [show min 1 (x :: r).length = 1 by
      rw [List.length_cons]
      omega]
    show (List.take ((x :: r).length - 1) r) = r
    rw [List.length_cons, Nat.add_sub_cancel]
    exact List.take_length
theorem sIx1 {x : V} {xs : List V} {b : Nat} : ¬ (HT.sIx (x :: xs).length 0 (some 1) = 0 ∧ b = (x :: xs).length) := by
  rw [show HT.sIx (x :: xs).length 0 (some 1) = min 1 (x :: xs).length from HT.sIx_nat (x :: xs).length 0 1, List.length_cons]
  omega
theorem sqT_cut1 {K : PySem.W.Frag} {H : Hp} {p : Addr} {x : V} {xs : List V} : SqT K (upd H p (.tup (cutV (x :: xs) (some 1) none))) p xs := by
  rw [cut1]
  exact sqT_new
theorem idx_min {w : Str} {l : List Str} {m : Nat} (hm : m < l.idxOf w) : l[m]? ≠ some w := fun q => by
  obtain ⟨hl, e⟩ := List.getElem?_eq_some_iff.mp q
  have h := List.not_of_lt_findIdx (p := (· == w)) (xs := l) (i := m) hm
  rw [e] at h
  simp at h
theorem map_range_eq {α β : Type} {l : List α} {b : Nat → β} {p : α → β} (h : ∀ i x, l[i]? = some x → b i = p x) : (List.range l.length).map b = l.map p := by
  apply List.ext_getElem
  · simp
  · intro i h1 h2
    have hi : i < l.length := by simpa using h2
    rw [List.getElem_map, List.getElem_map, List.getElem_range]
    exact h i _ (List.getElem?_eq_getElem hi)
theorem all_id {α : Type} {l : List α} {p : α → Bool} : (l.map p).all id = l.all p := by
  induction l with
  | nil => rfl
  | cons x r ih => rw [List.map_cons, List.all_cons, List.all_cons, ih]; rfl
/-! ### comprehensions of truths -/
theorem walk_zipT {K : PySem.W.Frag} {a b : Addr} {xs ys : List V} {n : Nat} (hn : n = min xs.length ys.length) : Walk (RZ.ItzT K a b) n (fun H => SqT K H a xs ∧ SqT K H b ys) (YPair (fun i => xs[i]?) (fun i => ys[i]?)) := by
  subst hn
  refine ⟨fun i _ hi q => ?_, fun _ q => ⟨xs, ys, q.1, q.2, by omega⟩, fun i H v H' _ q y => ?_⟩
  · have h1 : i < xs.length := by omega
    have h2 : i < ys.length := by omega
    exact ⟨xs, ys, xs[i], ys[i], q.1, q.2, by simp [h1], by simp [h2]⟩
  · obtain ⟨T, x, z, h1, h2, h3, h4, h5⟩ := y
    exact ⟨T, x, z, h1, h2, h3, h4 xs q.1, h5 ys q.2⟩
theorem lc_vals {J : It} {n : Nat} {G : Hp → Prop} {Y : Nat → Hp → V → Hp → Prop} (wk : Walk J n G Y) {g : TG} {te : TE} {vs : List Nat} {σ : L2.St} {H1 : Hp} {D : Addr} {Qd : Hp → Prop} (b : Nat → V) (hD : H1 D = none) (hn : n ≤ 1000000)
    (hG : ∀ H', Same H1 H' → G H')
    (hs : ∀ (i : Nat) (x : V) (H' H'' : Hp) (Qe : VK), i < n → Same H1 H' → Y i H' x H'' → (∀ H4, Same H' H4 → Qe (b i) H4) → g x (wipe σ vs) H'' fun σ2 H2 => wipe σ2 vs = wipe σ vs ∧ te σ2 H2 Qe)
    (q : ∀ H', Same H1 H' → H' D = some (.lst ((List.range n).map b)) → Qd H') :
    ∃ W : Nat → Nat → Hp → Prop, (∃ m, W 0 m (upd H1 D (.lst []))) ∧ ∀ i m H, W i m H →
      (J.stop i H ∧ Qd H) ∨ (J.go i H ∧ ∃ Nx : Hp → Prop, (∀ H', Nx H' → ∃ m', m' < m ∧ W (i + 1) m' H') ∧ ∀ x H', J.yld i H x H' → g x (wipe σ vs) H' fun σ2 H2 => wipe σ2 vs = wipe σ vs ∧ tYes σ2 H2 fun b H3 =>
        if b = true then te σ2 H3 fun y H4 => ∃ acc, H4 D = some (.lst acc) ∧ acc.length < sizeLine ∧ Nx (upd H4 D (.lst (acc ++ [y]))) else Nx H3) := by
  refine lc_it wk (tt := tYes) (fun i H' => Same H1 H' ∧ H' D = some (.lst ((List.range i).map b))) ⟨same_upd hD, upd_same⟩ (fun i H' _ p => hG H' p.1) (fun i x H' H'' hi p y => ?_) (fun H' p => q H' p.1 p.2)
  refine hs i x H' H'' _ hi p.1 y fun H4 s4 => ?_
  refine ⟨_, s4 _ _ p.2, ?_, ?_, ?_⟩
  · rw [List.length_map, List.length_range]
    exact Nat.lt_of_lt_of_le (Nat.lt_of_lt_of_le hi hn) (by decide)
  · intro c o e
    rw [upd_ne (ne_of_none e hD)]
    exact s4 _ _ (p.1 _ _ e)
  · rw [upd_same, List.range_succ, List.map_append]
    rfl
theorem lt1 (a b : Nat) : decide (([a] : List Nat) < [b]) = decide (a < b) := by
  by_cases h : a < b
  · rw [decide_eq_true h, decide_eq_true]
    exact List.cons_lt_cons_iff.mpr (.inl h)
  · rw [decide_eq_false h, decide_eq_false]
    intro q
    rcases List.cons_lt_cons_iff.mp q with z | ⟨_, z⟩
    · exact h z
    · exact absurd z (List.not_lt_nil _)
theorem at0 {α : Type} (x : α) (r : List α) : atI (x :: r) 0 = some x := by
  unfold atI ixN
  rw [if_pos (by decide), if_pos (by rw [List.length_cons]; omega)]
  rfl
end Kin
/-! What the program's looks tell, and what the law's own looks tell, as plain functions over data; that they tell the same. -/
namespace Kin
open PySem
def sig9 : List Str := ["kill", "halt", "on", "hang", "quit", "call", "kin", "rest", "reads"]
def sig7 : List Str := ["on", "hang", "quit", "call", "kin", "rest", "reads"]
def sure : List Str := ["kill", "halt"]
/-! ### the program's looks -/
def pWhole : PyData → Bool
  | .int _ => true
  | _ => false
def pNat : PyData → Bool
  | .int i => decide (0 ≤ i)
  | _ => false
def pSmall : PyData → Bool
  | .int i => decide (0 ≤ i) && decide (i ≤ 99)
  | _ => false
def pOne (d : PyData) (ws : List Str) : Bool := match d with
  | .str z => decide (z ∈ ws)
  | _ => false
def pLoose : PyData → Bool
  | .str z => decide (z ∈ sig9) && !decide (z ∈ sure)
  | _ => false
def pLoop : Nat → List PyData → Bool
  | _, [] => true
  | least, .str z :: r => if pLoose (.str z) then (if sig9.idxOf z < least then false else pLoop (sig9.idxOf z + 1) r) else false
  | _, _ :: _ => false
def pAre : PyData → Bool
  | .tuple ds => pLoop 0 ds
  | _ => false
def azAll (z : Str) : Bool := z.cps.toList.all fun c => decide (97 ≤ c) && decide (c ≤ 122)
def pTitle : PyData → Bool
  | .str z => decide (1 ≤ z.length) && decide (z.length ≤ 8) && azAll z
  | _ => false
def pRowNo (d : PyData) (n : Int) : Bool := match d with
  | .int i => decide (0 ≤ i) && decide (i < n)
  | _ => false
def pHandler (d : PyData) (n : Int) : Bool := match d with
  | .tuple [a, b] => pRowNo a n && pAre b
  | _ => false
def isNone : PyData → Bool
  | .none => true
  | _ => false
def isBool : PyData → Bool
  | .bool _ => true
  | _ => false
def pChild (kind : Str) (d : PyData) : Bool :=
  if pNat d = true then true else if kind = "which" then isNone d else if kind = "who" then pOne d ["self"] else pOne d ["self", "parent", "group"]
def pPart (kind : Str) (d : PyData) (n : Int) : Bool :=
  if kind = "title" then pTitle d else if kind = "small" then pSmall d else if kind = "whole" then pWhole d else if kind = "truth" then isBool d else
  if kind = "row" then pRowNo d n else if kind = "signal" then pOne d sig9 else if kind = "loose" then pLoose d else if kind = "signals" then pAre d else
  if kind = "how" then (pOne d ["plain", "ignore"] || pHandler d n) else if kind = "where" then pOne d ["new", "mine"] else pChild kind d
def forms : List (Str × List Str) := [("fork", []), ("exec", ["title"]), ("end", ["small"]), ("wait", ["which", "truth"]), ("pause", []), ("read", []), ("send", ["signal", "to"]), ("mask", ["signals"]), ("unmask", ["signals"]),
  ("handle", ["loose", "how"]), ("return", []), ("session", []), ("group", ["who", "where"]), ("front", ["who"]), ("taker", []), ("say", ["small"]), ("goto", ["row"]), ("if", ["whole", "row"])]
def pParts (n : Int) : List Str → List PyData → Bool
  | k :: ks, d :: ds => pPart k d n && pParts n ks ds
  | _, _ => true
def pRow (d : PyData) (n : Int) : Bool := match d with
  | .tuple (.str w :: ps) => (match forms.lookup w with
    | some ks => decide (ps.length = ks.length) && pParts n ks ps
    | none => false)
  | _ => false
/-! ### the law's looks -/
def lWhole (d : PyData) (lo hi : Int) : Bool := match d with
  | .int i => decide (lo ≤ i) && decide (i < hi)
  | _ => false
def lAll7 : List PyData → Bool
  | [] => true
  | d :: r => pOne d sig7 && lAll7 r
def ix7 : PyData → Nat
  | .str z => sig7.idxOf z
  | _ => 7
def lUp : List Nat → Bool
  | a :: b :: r => decide (a < b) && lUp (b :: r)
  | _ => true
def lAre : PyData → Bool
  | .tuple ds => lAll7 ds && lUp (ds.map ix7)
  | _ => false
def great : Int := 1000000000000
def lTitle : PyData → Bool
  | .str z => decide (0 < z.length) && decide (z.length < 9) && azAll z
  | _ => false
def lHandler (d : PyData) (n : Int) : Bool := match d with
  | .tuple [a, b] => lWhole a 0 n && lAre b
  | _ => false
def isTup : PyData → Bool
  | .tuple _ => true
  | _ => false
def lPart (w : Str) (at_ : Nat) (d : PyData) (n : Int) : Bool :=
  if w = "exec" then lTitle d else if w ∈ (["end", "say"] : List Str) then lWhole d 0 100 else
  if w = "wait" then (if at_ = 1 then isBool d else isNone d || lWhole d 0 great) else
  if w = "send" then (if at_ = 0 then pOne d (sure ++ sig7) else lWhole d 0 great || pOne d ["self", "parent", "group"]) else
  if w ∈ (["mask", "unmask"] : List Str) then lAre d else
  if w = "handle" ∧ at_ = 0 then pOne d sig7 else
  if w = "handle" then (if isTup d = true then lHandler d n else pOne d ["plain", "ignore"]) else
  if w ∈ (["group", "front"] : List Str) ∧ at_ = 0 then (lWhole d 0 great || pOne d ["self"]) else
  if w = "group" then pOne d ["new", "mine"] else
  if w = "if" ∧ at_ = 0 then lWhole d (0 - great) great else lWhole d 0 n
def many : List (Str × Int) := [("exec", 1), ("end", 1), ("wait", 2), ("send", 2), ("mask", 1), ("unmask", 1), ("handle", 2), ("group", 2), ("front", 1),
  ("say", 1), ("goto", 1), ("if", 2), ("fork", 0), ("pause", 0), ("read", 0), ("return", 0), ("session", 0), ("taker", 0)]
def lParts (w : Str) (n : Int) : Nat → List PyData → Bool
  | _, [] => true
  | i, d :: ds => lPart w i d n && lParts w n (i + 1) ds
def lRow (d : PyData) (n : Int) : Bool := match d with
  | .tuple (.str w :: ps) => (match many.lookup w with
    | some m => decide ((ps.length : Int) + 1 = 1 + m) && lParts w n 0 ps
    | none => false)
  | _ => false
/-! ### they tell the same -/
def bnd : PyData → Bool
  | .int i => decide (0 - great ≤ i) && decide (i < great)
  | _ => true
def bndAll : PyData → Bool
  | .tuple ps => ps.all bnd
  | _ => true
theorem loose_sig7 (z : Str) : (decide (z ∈ sig9) && !decide (z ∈ sure)) = decide (z ∈ sig7) := by
  by_cases h : z ∈ sig9
  · have hz : z = "kill" ∨ z = "halt" ∨ z = "on" ∨ z = "hang" ∨ z = "quit" ∨ z = "call" ∨ z = "kin" ∨ z = "rest" ∨ z = "reads" := by
      simpa [sig9] using h
    rcases hz with rfl | rfl | rfl | rfl | rfl | rfl | rfl | rfl | rfl <;> decide +kernel
  · have h7 : ¬ z ∈ sig7 := fun q => h (by
      have hz : z = "on" ∨ z = "hang" ∨ z = "quit" ∨ z = "call" ∨ z = "kin" ∨ z = "rest" ∨ z = "reads" := by simpa [sig7] using q
      rcases hz with rfl | rfl | rfl | rfl | rfl | rfl | rfl <;> decide +kernel)
    simp [h, h7]
theorem pLoose_eq (d : PyData) : pLoose d = pOne d sig7 := by
  cases d <;> first | rfl | exact loose_sig7 _
theorem idx_shift {z : Str} (h : z ∈ sig7) : sig9.idxOf z = sig7.idxOf z + 2 := by
  have hz : z = "on" ∨ z = "hang" ∨ z = "quit" ∨ z = "call" ∨ z = "kin" ∨ z = "rest" ∨ z = "reads" := by simpa [sig7] using h
  rcases hz with rfl | rfl | rfl | rfl | rfl | rfl | rfl <;> decide +kernel
theorem pLoop_nil (k : Nat) : pLoop k [] = true := by unfold pLoop; rfl
theorem pLoop_str (k : Nat) (z : Str) (r : List PyData) : pLoop k (.str z :: r) = if pLoose (.str z) = true then (if sig9.idxOf z < k then false else pLoop (sig9.idxOf z + 1) r) else false := by
  conv => lhs; unfold pLoop
theorem pLoop_eq : ∀ (ds : List PyData) (k : Nat), pLoop k ds = (lAll7 ds && lUp (ds.map ix7) && (match ds with | [] => true | d :: _ => decide (k ≤ ix7 d + 2)))
  | [], k => by rw [pLoop_nil]; rfl
  | d :: r, k => by
    cases d with
    | str z =>
      rw [pLoop_str, pLoose_eq]
      show (if decide (z ∈ sig7) = true then _ else false) = ((decide (z ∈ sig7) && lAll7 r) && lUp (sig7.idxOf z :: r.map ix7) && decide (k ≤ sig7.idxOf z + 2))
      by_cases h : z ∈ sig7
      · rw [if_pos (decide_eq_true h), idx_shift h, pLoop_eq r, decide_eq_true h, Bool.true_and]
        cases r with
        | nil =>
          by_cases hk : sig7.idxOf z + 2 < k
          · rw [if_pos hk]
            have : ¬ k ≤ sig7.idxOf z + 2 := by omega
            simp [this]
          · rw [if_neg hk]
            have : k ≤ sig7.idxOf z + 2 := by omega
            simp [this, lAll7, lUp]
        | cons d2 r2 =>
          show _ = (lAll7 (d2 :: r2) && lUp (sig7.idxOf z :: ix7 d2 :: r2.map ix7) && _)
          have e : lUp (sig7.idxOf z :: ix7 d2 :: r2.map ix7) = (decide (sig7.idxOf z < ix7 d2) && lUp (ix7 d2 :: r2.map ix7)) := by
            conv => lhs; unfold lUp
          rw [e]
          show (if _ then false else (lAll7 (d2 :: r2) && lUp (ix7 d2 :: r2.map ix7) && decide (sig7.idxOf z + 2 + 1 ≤ ix7 d2 + 2))) = _
          by_cases hk : sig7.idxOf z + 2 < k
          · rw [if_pos hk]
            have : ¬ k ≤ sig7.idxOf z + 2 := by omega
            simp [this]
          · rw [if_neg hk]
            have h1 : k ≤ sig7.idxOf z + 2 := by omega
            have h2 : decide (sig7.idxOf z + 2 + 1 ≤ ix7 d2 + 2) = decide (sig7.idxOf z < ix7 d2) := by
              by_cases q : sig7.idxOf z < ix7 d2
              · rw [decide_eq_true q, decide_eq_true (by omega)]
              · rw [decide_eq_false q, decide_eq_false (by omega)]
            rw [h2, decide_eq_true h1, Bool.and_true]
            cases lAll7 (d2 :: r2) <;> cases lUp (ix7 d2 :: r2.map ix7) <;> cases decide (sig7.idxOf z < ix7 d2) <;> rfl
      · rw [if_neg (by simpa using h), decide_eq_false h]
        rfl
    | none => rfl
    | bool b => rfl
    | int i => rfl
    | list x => rfl
    | tuple x => rfl
    | dict x => rfl
theorem are_eq (d : PyData) : pAre d = lAre d := by
  cases d with
  | tuple ds =>
    show pLoop 0 ds = (lAll7 ds && lUp (ds.map ix7))
    rw [pLoop_eq]
    cases ds with
    | nil => rfl
    | cons a r =>
      show (_ && decide (0 ≤ ix7 a + 2)) = _
      rw [decide_eq_true (Nat.zero_le _), Bool.and_true]
  | none => rfl
  | bool b => rfl
  | int i => rfl
  | list x => rfl
  | str x => rfl
  | dict x => rfl
theorem title_eq (d : PyData) : pTitle d = lTitle d := by
  cases d with
  | str z =>
    show (decide (1 ≤ z.length) && decide (z.length ≤ 8) && azAll z) = (decide (0 < z.length) && decide (z.length < 9) && azAll z)
    rw [show decide (z.length ≤ 8) = decide (z.length < 9) by
      by_cases h : z.length ≤ 8
      · rw [decide_eq_true h, decide_eq_true (by omega)]
      · rw [decide_eq_false h, decide_eq_false (by omega)]]
    rfl
  | _ => rfl
theorem rowno_eq (d : PyData) (n : Int) : pRowNo d n = lWhole d 0 n := by cases d <;> rfl
theorem small_eq (d : PyData) : pSmall d = lWhole d 0 100 := by
  cases d with
  | int i =>
    show (decide (0 ≤ i) && decide (i ≤ 99)) = (decide (0 ≤ i) && decide (i < 100))
    rw [show decide (i ≤ 99) = decide (i < 100) by
      by_cases h : i ≤ 99
      · rw [decide_eq_true h, decide_eq_true (by omega)]
      · rw [decide_eq_false h, decide_eq_false (by omega)]]
  | _ => rfl
theorem nat_eq {d : PyData} (h : bnd d = true) : pNat d = lWhole d 0 great := by
  cases d with
  | int i =>
    have h2 : i < great := by
      have := h
      simp only [bnd, Bool.and_eq_true, decide_eq_true_eq] at this
      exact this.2
    show decide (0 ≤ i) = (decide (0 ≤ i) && decide (i < great))
    rw [decide_eq_true h2, Bool.and_true]
  | _ => rfl
theorem whole_eq {d : PyData} (h : bnd d = true) : pWhole d = lWhole d (0 - great) great := by
  cases d with
  | int i =>
    show true = (decide (0 - great ≤ i) && decide (i < great))
    exact h.symm
  | _ => rfl
theorem handler_eq (d : PyData) (n : Int) : pHandler d n = lHandler d n := by
  cases d with
  | tuple ds =>
    match ds with
    | [] => rfl
    | [_] => rfl
    | [a, b] =>
      show (pRowNo a n && pAre b) = (lWhole a 0 n && lAre b)
      rw [rowno_eq, are_eq]
    | _ :: _ :: _ :: _ => rfl
  | _ => rfl
theorem how_eq (d : PyData) (n : Int) : (pOne d ["plain", "ignore"] || pHandler d n) = (if isTup d = true then lHandler d n else pOne d ["plain", "ignore"]) := by
  cases d with
  | tuple ds =>
    rw [handler_eq]
    rfl
  | str z =>
    show (pOne (.str z) ["plain", "ignore"] || false) = _
    rw [Bool.or_false]
    rfl
  | _ => rfl
theorem parts1 {n : Int} {k w : Str} {ps : List PyData} (h : ∀ d, bnd d = true → pPart k d n = lPart w 0 d n) (hb : ps.all bnd = true) (hl : ps.length = 1) : pParts n [k] ps = lParts w n 0 ps := by
  match ps, hl with
  | [a], _ =>
    have ha : bnd a = true := by simpa using hb
    show (pPart k a n && true) = (lPart w 0 a n && true)
    rw [h a ha]
theorem parts2 {n : Int} {k k2 w : Str} {ps : List PyData} (h : ∀ d, bnd d = true → pPart k d n = lPart w 0 d n) (h2 : ∀ d, bnd d = true → pPart k2 d n = lPart w 1 d n) (hb : ps.all bnd = true) (hl : ps.length = 2) : pParts n [k, k2] ps = lParts w n 0 ps := by
  match ps, hl with
  | [a, b], _ =>
    have hab : bnd a = true ∧ bnd b = true := by simpa using hb
    show (pPart k a n && (pPart k2 b n && true)) = (lPart w 0 a n && (lPart w 1 b n && true))
    rw [h a hab.1, h2 b hab.2]
theorem row_of {n : Int} {w : Str} {ks : List Str} {m : Nat} (hf : forms.lookup w = some ks) (hm : many.lookup w = some (m : Int)) (hk : ks.length = m) {ps : List PyData} (h : ps.length = m → pParts n ks ps = lParts w n 0 ps) :
    pRow (.tuple (.str w :: ps)) n = lRow (.tuple (.str w :: ps)) n := by
  show (match forms.lookup w with | some ks => decide (ps.length = ks.length) && pParts n ks ps | none => false) = (match many.lookup w with | some m => decide ((ps.length : Int) + 1 = 1 + m) && lParts w n 0 ps | none => false)
  rw [hf, hm]
  show (decide (ps.length = ks.length) && pParts n ks ps) = (decide ((ps.length : Int) + 1 = 1 + (m : Int)) && lParts w n 0 ps)
  by_cases hl : ps.length = m
  · rw [h hl, decide_eq_true (show ps.length = ks.length by omega), decide_eq_true (show (ps.length : Int) + 1 = 1 + (m : Int) by omega)]
  · rw [decide_eq_false (show ¬ ps.length = ks.length by omega), decide_eq_false (show ¬ (ps.length : Int) + 1 = 1 + (m : Int) by omega)]
    rfl
theorem lookup_none {α : Type} {z : Str} : ∀ {l : List (Str × α)}, ¬ z ∈ l.map (·.1) → l.lookup z = none
  | [], _ => rfl
  | (a, b) :: r, h => by
    have h1 : ¬ z = a := fun q => h (by simp [q])
    rw [List.lookup_cons]
    have : (z == a) = false := by simpa using h1
    rw [this]
    exact lookup_none fun q => h (by simp at q ⊢; exact .inr q)
def words18 : List Str := ["fork", "exec", "end", "wait", "pause", "read", "send", "mask", "unmask", "handle", "return", "session", "group", "front", "taker", "say", "goto", "if"]
theorem ite_t {α : Type} {c : Prop} [Decidable c] {a b : α} (h : decide c = true) : (if c then a else b) = a := if_pos (of_decide_eq_true h)
theorem ite_f {α : Type} {c : Prop} [Decidable c] {a b : α} (h : decide c = false) : (if c then a else b) = b := if_neg (of_decide_eq_false h)
theorem or_comm_b (a b : Bool) : (a || b) = (b || a) := by cases a <;> cases b <;> rfl
/-! ### texts and tuples that are not too long -/
mutual
def lenOk : PyData → Bool
  | .str z => decide (z.length ≤ 1000000)
  | .list xs => decide (xs.length ≤ 1000000) && lenAll xs
  | .tuple xs => decide (xs.length ≤ 1000000) && lenAll xs
  | .none | .bool _ | .int _ | .dict _ => true
def lenAll : List PyData → Bool
  | [] => true
  | x :: xs => lenOk x && lenAll xs
end
end Kin
namespace Kin
open PySem PySem.Spec PyProof.Rows L2
def topS (i : Nat) : Stmt := PySem.Challenge.pw_kinsignals_k06_signals_and_refusals.main.body.getD i (.Pass ⟨0, 0, 0, 0⟩)
abbrev FnP (K : PySem.W.Frag) (x : Str) (st : Stmt) (f : Addr) (fd : FuncData) : Prop := FunD K x x (defArgs st) (defBody st) (defScope st) [] [] f fd
structure Bi (K : PySem.W.Frag) (w : World) (mg : Str → Option Value) (tL : Tok) (es : Array DictEntry) (nF : Nat) : Prop where
  n_isinstance : mg "isinstance" = none
  n_int : mg "int" = none
  n_bool : mg "bool" = none
  n_str : mg "str" = none
  n_tuple : mg "tuple" = none
  n_list : mg "list" = none
  n_len : mg "len" = none
  n_all : mg "all" = none
  n_zip : mg "zip" = none
  n_enumerate : mg "enumerate" = none
  n_range : mg "range" = none
  n_sorted : mg "sorted" = none
  n_set : mg "set" = none
  n_repr : mg "repr" = none
  g_SIGNALS : mg "SIGNALS" = some (.ref (He.ga K "SIGNALS"))
  g_SURE : mg "SURE" = some (.ref (He.ga K "SURE"))
  g_FORMS : mg "FORMS" = some (.ref (He.ga K "FORMS"))
  g_LONGEST_TITLE : mg "LONGEST_TITLE" = some (.int 8 tL)
  sig : ∀ H, SqT K H (He.ga K "SIGNALS") (sig9.map V.str)
  sigK : ∃ o, K.lookup (He.ga K "SIGNALS") = some o ∧ o.cls = .type "tuple" ∧ o.dict = none
  sur : ∀ H, SqT K H (He.ga K "SURE") (sure.map V.str)
  kd : KDict K w (He.ga K "FORMS") es nF
  fno : ∀ z, forms.lookup z = none → PySem.W.nsIn K (He.ga K "FORMS") z = some none
  fyes : ∀ z ks, forms.lookup z = some ks → ∃ a, PySem.W.nsIn K (He.ga K "FORMS") z = some (some (.ref a)) ∧ ∀ H, SqT K H a (ks.map V.str)
section
variable {P : Program} {w : World} {K : PySem.W.Frag} {mg : Str → Option Value} {base : Heap} {tL : Tok} {es : Array DictEntry} {nF : Nat}
theorem Bi.r_SIGNALS (_ : Bi K w mg tL es nF) : RelV (.ref (He.ga K "SIGNALS")) (.ref (He.ga K "SIGNALS")) := rfl
theorem Bi.r_SURE (_ : Bi K w mg tL es nF) : RelV (.ref (He.ga K "SURE")) (.ref (He.ga K "SURE")) := rfl
theorem Bi.r_FORMS (_ : Bi K w mg tL es nF) : RelV (.ref (He.ga K "FORMS")) (.ref (He.ga K "FORMS")) := rfl
theorem Bi.r_LONGEST_TITLE (_ : Bi K w mg tL es nF) : RelV (.int 8) (.int 8 tL) := ⟨_, rfl⟩
/-- a look of one datum -/
def spD (K : PySem.W.Frag) (f : PyData → Bool) : Sp := fun vs H Q _ => ∃ (x : V) (d : PyData), vs = [x] ∧ Dp K H x d ∧ ∀ H', Same H H' → Q (.bl (f d)) H'
/-- .. and a number -/
def spDI (K : PySem.W.Frag) (f : PyData → Int → Bool) : Sp := fun vs H Q _ => ∃ (x : V) (d : PyData) (n : Int), vs = [x, .int n] ∧ Dp K H x d ∧ ∀ H', Same H H' → Q (.bl (f d n)) H'
theorem lenAll_mem {ds : List PyData} (h : lenAll ds = true) {d : PyData} (hd : d ∈ ds) : lenOk d = true := by
  induction ds with
  | nil => cases hd
  | cons a r ih =>
    have h' : (lenOk a && lenAll r) = true := by rw [← lenAll]; exact h
    have h2 := Bool.and_eq_true_iff.mp h'
    rcases List.mem_cons.mp hd with rfl | q
    · exact h2.1
    · exact ih h2.2 q
theorem lenOk_str {z : Str} (h : lenOk (.str z) = true) : z.length ≤ 1000000 := by
  rw [lenOk] at h
  exact of_decide_eq_true h
theorem lenOk_tup {ds : List PyData} (h : lenOk (.tuple ds) = true) : ds.length ≤ 1000000 ∧ lenAll ds = true := by
  rw [lenOk] at h
  obtain ⟨h1, h2⟩ := Bool.and_eq_true_iff.mp h
  exact ⟨of_decide_eq_true h1, h2⟩
/-- a look of a datum whose texts are not too long -/
def spDL (K : PySem.W.Frag) (f : PyData → Bool) : Sp := fun vs H Q _ => ∃ (x : V) (d : PyData), vs = [x] ∧ Dp K H x d ∧ lenOk d = true ∧ ∀ H', Same H H' → Q (.bl (f d)) H'
def spRow (K : PySem.W.Frag) (f : PyData → Int → Bool) : Sp := fun vs H Q _ => ∃ (x : V) (d : PyData) (n : Int), vs = [x, .int n] ∧ Dp K H x d ∧ lenOk d = true ∧ ∀ H', Same H H' → Q (.bl (f d n)) H'
def spOne (K : PySem.W.Frag) : Sp := fun vs H Q _ => ∃ (x : V) (d : PyData) (a : Addr) (ws : List Str), vs = [x, .ref a] ∧ Dp K H x d ∧ (SqL K H a (ws.map V.str) ∨ SqT K H a (ws.map V.str)) ∧ ∀ H', Same H H' → Q (.bl (pOne d ws)) H'
def spChild (K : PySem.W.Frag) : Sp := fun vs H Q _ => ∃ (x : V) (d : PyData) (k : Str), vs = [.str k, x] ∧ Dp K H x d ∧ ∀ H', Same H H' → Q (.bl (pChild k d)) H'
def spPart (K : PySem.W.Frag) : Sp := fun vs H Q _ => ∃ (x : V) (d : PyData) (k : Str) (n : Int), vs = [.str k, x, .int n] ∧ Dp K H x d ∧ lenOk d = true ∧ ∀ H', Same H H' → Q (.bl (pPart k d n)) H'

abbrev s_is_whole : Stmt := topS 1
theorem sc_is_whole : FnScope [("thing" : Str)] ["thing"] (defScope s_is_whole) := ⟨rfl, rfl, rfl, by decide +kernel, rfl, by decide +kernel, by decide +kernel⟩
theorem ok_is_whole {f : Addr} {fd : FuncData} (F : FnP K "is_whole" s_is_whole f fd) (T : Bi K w mg tL es nF) : FnOk P w K mg base CX0 1 f fd ["thing"] (spD K pWhole) := by
  refine F.ok sc_is_whole (fun vs H Q E h => ?_) (fun cdv A outer s H vs Q E hr h => ?_)
  · obtain ⟨x, d, rfl, _⟩ := h
    rfl
  · obtain ⟨x, d, rfl, hd, k⟩ := h
    refine ⟨_, PSs.nox (pss_one (ps_ret (pe_and (pe_callB call_isi (by rfl) T.n_isinstance boot_isinstance (pa_cons (pv 0) (pa_cons (pe_bltn (v := .ty "int") (by rfl) T.n_int boot_int rfl) pa_nil))) (pe_one (pe_not (pe_callB call_isi (by rfl) T.n_isinstance boot_isinstance (pa_cons (pv 0) (pa_cons (pe_bltn (v := .ty "bool") (by rfl) T.n_bool boot_bool rfl) pa_nil)))))))), ?_⟩
    refine ⟨x, rfl, x, _, _, _, _, rfl, .ty _, tyx_of hd, kit_int (nd_of hd), _, rfl, ?_⟩
    have k := k H (Same.refl H)
    cases hd with
    | int i => exact iteT ⟨_, rfl, _, _, _, _, _, rfl, .ty _, tyx_of (.int i), kit_bool (d := .int i) rfl, _, rfl, k⟩
    | bl b => exact iteT ⟨_, rfl, _, _, _, _, _, rfl, .ty _, tyx_of (.bl b), kit_bool (d := .bool b) rfl, _, rfl, k⟩
    | _ => exact iteF k
abbrev s_is_natural : Stmt := topS 2
theorem sc_is_natural : FnScope [("thing" : Str)] ["thing"] (defScope s_is_natural) := ⟨rfl, rfl, rfl, by decide +kernel, rfl, by decide +kernel, by decide +kernel⟩
theorem ok_is_natural {f : Addr} {fd : FuncData} (F : FnP K "is_natural" s_is_natural f fd) (T : Bi K w mg tL es nF) (c_is_whole : Cal P w K mg base "is_whole" ["thing"] 1 (spD K pWhole)) : FnOk P w K mg base CX0 2 f fd ["thing"] (spD K pNat) := by
  refine F.ok sc_is_natural (fun vs H Q E h => ?_) (fun cdv A outer s H vs Q E hr h => ?_)
  · obtain ⟨x, d, rfl, _⟩ := h
    rfl
  · obtain ⟨x, d, rfl, hd, k⟩ := h
    refine ⟨_, PSs.nox (pss_one (ps_ret (pe_and (pe_cal c_is_whole (hr.mono (by decide)) (by rfl) pass0 (pa_cons (pv 0) pa_nil)) (pe_one (pe_cmpR op_ge (pv 0) pe_int (nomark _)))))), ?_⟩
    refine ⟨x, rfl, x, d, rfl, hd, fun H1 s1 => ⟨_, rfl, ?_⟩⟩
    have k := k H1 s1
    cases hd <;> first | exact iteF k | exact iteT ⟨_, rfl, _, _, rfl, rfl, k⟩
abbrev s_is_small : Stmt := topS 3
theorem sc_is_small : FnScope [("thing" : Str)] ["thing"] (defScope s_is_small) := ⟨rfl, rfl, rfl, by decide +kernel, rfl, by decide +kernel, by decide +kernel⟩
theorem ok_is_small {f : Addr} {fd : FuncData} (F : FnP K "is_small" s_is_small f fd) (T : Bi K w mg tL es nF) (c_is_whole : Cal P w K mg base "is_whole" ["thing"] 1 (spD K pWhole)) : FnOk P w K mg base CX0 2 f fd ["thing"] (spD K pSmall) := by
  refine F.ok sc_is_small (fun vs H Q E h => ?_) (fun cdv A outer s H vs Q E hr h => ?_)
  · obtain ⟨x, d, rfl, _⟩ := h
    rfl
  · obtain ⟨x, d, rfl, hd, k⟩ := h
    refine ⟨_, PSs.nox (pss_one (ps_ret (pe_and (pe_cal c_is_whole (hr.mono (by decide)) (by rfl) pass0 (pa_cons (pv 0) pa_nil)) (pe_one (pe_chain op_le op_le pe_int (pv 0) pe_int))))), ?_⟩
    refine ⟨x, rfl, x, d, rfl, hd, fun H1 s1 => ⟨_, rfl, ?_⟩⟩
    have k := k H1 s1
    cases hd with
    | int i =>
      refine iteT ⟨_, rfl, _, _, rfl, rfl, _, rfl, ?_⟩
      have k : Q (.bl (decide (0 ≤ i) && decide (i ≤ 99))) H1 := k
      cases e : decide (0 ≤ i) with
      | true =>
        rw [e] at k
        exact iteT ⟨_, _, rfl, rfl, k⟩
      | false =>
        rw [e] at k
        exact iteF k
    | _ => exact iteF k
abbrev s_is_one_of : Stmt := topS 4
theorem sc_is_one_of : FnScope [("thing" : Str), ("words" : Str)] ["thing", "words"] (defScope s_is_one_of) := ⟨rfl, rfl, rfl, by decide +kernel, rfl, by decide +kernel, by decide +kernel⟩
theorem ok_is_one_of {f : Addr} {fd : FuncData} (F : FnP K "is_one_of" s_is_one_of f fd) (T : Bi K w mg tL es nF) : FnOk P w K mg base CX0 1 f fd ["thing", "words"] (spOne K) := by
  refine F.ok sc_is_one_of (fun vs H Q E h => ?_) (fun cdv A outer s H vs Q E hr h => ?_)
  · obtain ⟨x, d, a, ws, rfl, _⟩ := h
    rfl
  · obtain ⟨x, d, a, ws, rfl, hd, ha, k⟩ := h
    refine ⟨_, PSs.nox (pss_one (ps_ret (pe_and (pe_callB call_isi (by rfl) T.n_isinstance boot_isinstance (pa_cons (pv 0) (pa_cons (pe_bltn (v := .ty "str") (by rfl) T.n_str boot_str rfl) pa_nil))) (pe_one (pe_cmpR op_in_seq (pv 0) (pv 1) (by rfl)))))), ?_⟩
    refine ⟨x, rfl, x, _, _, _, _, rfl, .ty _, tyx_of hd, kit_str (nd_of hd), _, rfl, ?_⟩
    have k := k H (Same.refl H)
    cases hd with
    | str z => exact iteT ⟨_, rfl, _, rfl, a, _, rfl, ha, rfl, flat_strs ws, in_k k⟩
    | _ => exact iteF k
abbrev s_is_signal : Stmt := topS 8
theorem sc_is_signal : FnScope [("thing" : Str)] ["thing"] (defScope s_is_signal) := ⟨rfl, rfl, rfl, by decide +kernel, rfl, by decide +kernel, by decide +kernel⟩
theorem ok_is_signal {f : Addr} {fd : FuncData} (F : FnP K "is_signal" s_is_signal f fd) (T : Bi K w mg tL es nF) (c_is_one_of : Cal P w K mg base "is_one_of" ["thing", "words"] 1 (spOne K)) : FnOk P w K mg base CX0 2 f fd ["thing"] (spD K fun d => pOne d sig9) := by
  refine F.ok sc_is_signal (fun vs H Q E h => ?_) (fun cdv A outer s H vs Q E hr h => ?_)
  · obtain ⟨x, d, rfl, _⟩ := h
    rfl
  · obtain ⟨x, d, rfl, hd, k⟩ := h
    refine ⟨_, PSs.nox (pss_one (ps_ret (pe_cal c_is_one_of (hr.mono (by decide)) (by rfl) pass0 (pa_cons (pv 0) (pa_cons (pe_glob (by rfl) T.g_SIGNALS T.r_SIGNALS) pa_nil))))), ?_⟩
    exact ⟨x, rfl, x, d, _, sig9, rfl, hd, .inr (T.sig H), k⟩
abbrev s_is_loose : Stmt := topS 9
theorem sc_is_loose : FnScope [("thing" : Str)] ["thing"] (defScope s_is_loose) := ⟨rfl, rfl, rfl, by decide +kernel, rfl, by decide +kernel, by decide +kernel⟩
theorem ok_is_loose {f : Addr} {fd : FuncData} (F : FnP K "is_loose" s_is_loose f fd) (T : Bi K w mg tL es nF) (c_is_signal : Cal P w K mg base "is_signal" ["thing"] 2 (spD K fun d => pOne d sig9)) : FnOk P w K mg base CX0 3 f fd ["thing"] (spD K pLoose) := by
  refine F.ok sc_is_loose (fun vs H Q E h => ?_) (fun cdv A outer s H vs Q E hr h => ?_)
  · obtain ⟨x, d, rfl, _⟩ := h
    rfl
  · obtain ⟨x, d, rfl, hd, k⟩ := h
    refine ⟨_, PSs.nox (pss_one (ps_ret (pe_and (pe_cal c_is_signal (hr.mono (by decide)) (by rfl) pass0 (pa_cons (pv 0) pa_nil)) (pe_one (pe_cmpR op_notIn_seq (pv 0) (pe_glob (by rfl) T.g_SURE T.r_SURE) (by rfl)))))), ?_⟩
    refine ⟨x, rfl, x, d, rfl, hd, fun H1 s1 => ⟨_, rfl, ?_⟩⟩
    have k := k H1 s1
    cases hd with
    | str z =>
      have k : Q (.bl (decide (z ∈ sig9) && !decide (z ∈ sure))) H1 := k
      show if decide (z ∈ sig9) = true then _ else _
      cases e : decide (z ∈ sig9) with
      | true =>
        rw [e] at k
        exact iteT ⟨_, rfl, _, _, rfl, .inr (T.sur H1), rfl, flat_strs sure, notin_k k⟩
      | false =>
        rw [e] at k
        exact iteF k
    | _ => exact iteF k
end
end Kin
/-! An own exception as a value: it is made by its class, its __init__ walked as a def that calls the __init__ of an own base; its fields are read, isinstance is asked of it. -/
namespace Kin
open L2 PySem PySem.Spec PyProof.Rows
/-- B.__init__(self, ..), B an own class above that has none of its own -/
def tBiI (K : PySem.W.Frag) (ta : TA) : TE := tVeI K ta
/-- C(e, ..) as a value -/
def tMkE (C : Addr) (sp : Sp) (dvs : List V) (ta : TA) : TE := fun σ H Q => ta σ H fun vs H1 => vs.length ≤ 1000 ∧ ∀ a, H1 a = none →
  sp (.ref a :: (vs ++ dvs)) (upd H1 a (exo a C none)) (fun v H2 => v = .non ∧ Q (.ref a) H2) (fun _ _ _ => False)
/-- e.f of an exception with a dict -/
def tExF (K : PySem.W.Frag) (f : Str) (te : TE) : TE := fun σ H Q => te σ H fun x H1 => ∃ (a C d : Addr) (fs : List (Str × V)) (v : V), x = .ref a ∧ H1 a = some (exo a C (some d)) ∧ H1 d = some (exd d fs) ∧
  XfC K C ∧ PySem.W.findIn K (.ref C) f = some none ∧ fs.lookup f = some v ∧ Q v H1
/-- isinstance(e, c) of an exception, with a dict or without -/
def rIsX (K : PySem.W.Frag) : List V → Hp → VK → Prop := fun xs H Q => ∃ (a C : Addr) (d : Option Addr) (c : V) (u : Value) (b : Bool), xs = [.ref a, c] ∧ H a = some (exo a C d) ∧ (∀ e, d = some e → ∃ fs, H e = some (exd e fs)) ∧
  ExcC K C ∧ ClsV c u ∧ PySem.W.kitOne K (.ref C) u = some b ∧ Q (.bl b) H
section
variable {X : Cx} {e : Expr} {es : List Expr} {te : TE} {ta : TA} {f : Str} {p p1 p2 pos : Pos}
theorem pe_biinit {x : Str} {B : Addr} {pl : Sem Bool} (hg : Gl X x) (hm : X.mg x = some (.ref B)) (hga : PySem.W.specialIn X.K (.ref B) "__getattribute__" = some (some (.builtin "type.__getattribute__")))
    (hty : PySem.W.typeIn X.K (.ref B) = some (.type "type")) (hrd : PySem.W.readsIn X.K B (.type "type") = true) (vV : PySem.W.findCls X.K (.ref B) (.type "type") "__init__" = some (.val (.builtin "ValueError.__init__"))) (ha : PA X (e :: es) ta)
    (hdb : (x == ("__debug__" : Str)) = false := by decide)
    (hc : eval (.Call (.Attribute (.Name x p1) "__init__" p2) (e :: es) [] pos) X.env = (do
      let ov ← eval (.Name x p1) X.env
      standAt p2.atName
      let (f, first) ← holding [ov] (getMethod ov "__init__" pl)
      callWith pos f first (backTo pos (starEach (e :: es) X.env)) (backToKw pos (keywordEach [] X.env))) := by rfl)
    (he : starEach (e :: es) X.env = (false, eval e X.env) :: starEach es X.env := by rfl) (hpl : (backTo pos (starEach es X.env)).any (·.1) = false := by rfl) :
    PE X (.Call (.Attribute (.Name x p1) "__init__" p2) (e :: es) [] pos) (tBiI X.K ta) := by
  refine ⟨fun pins s σ H Q I h => ?_⟩
  refine PySem.W.methodCall_KW (ld_glob I hg hm ?_ hdb) hc
  obtain ⟨m, fr⟩ := I.fr
  refine PySem.W.method_of_cls fr I.ok.mod.kin hga (PySem.W.cls_val fr I.ok.mod.kin hty hrd vV (by decide +kernel) ?_)
  refine PyProof.Rows.callWith_method1 (thn (ha.run pos pins _ σ H _ (I.tok _) h) fun us s1 ⟨vs, H1, I1, r1, a, C, ws, ev, hl, T, ea, q⟩ => ?_) he hpl
  subst ev
  cases r1 with
  | @cons _ u0 _ ur ra rw' =>
    obtain rfl : u0 = Value.ref a := ra
    have hlen : ur.length ≤ sizeLine := by
      rw [← Paired.length rw', sizeLine_eq]
      omega
    exact oinit_ok T I1 ea hlen fun s' J => ⟨.non, H1, J, rfl, q⟩
section
variable {CX : CXT} {C fI : Addr} {k : Nat} {fd : FuncData} {ps : List Str} {sp : Sp} {ds : List Value} {dvs : List V}
theorem run_mkE {pins : List (Addr × Obj)} {σ : L2.St} {H1 : Hp} {s1 : Shared} {us : List Value} {vs : List V} {Q : VK} (T : OexC X.K C) (iC : PySem.W.findIn X.K (.ref C) "__init__" = some (some (.ref fI))) (tI : PySem.W.typeIn X.K (.ref fI) = some (.type "function"))
    (F1 : FnOk X.prog X.w X.K X.mg X.base CX k fI fd ps sp) (hr : Room (k + 1) X.A) (hb : Binds X.K fd ps ds) (hd : Vals dvs ds) (hx : Passes CX X (fun _ _ _ => False)) (I1 : Inv X pins σ H1 s1) (r1 : Vals vs us) (hz : vs.length ≤ 1000)
    (q1 : ∀ a, H1 a = none → sp (.ref a :: (vs ++ dvs)) (upd H1 a (exo a C none)) (fun v H2 => v = .non ∧ Q (.ref a) H2) (fun _ _ _ => False)) :
    wpAny (model X.prog X.w) X.A (call (.ref C) us) (EP X pins σ Q) X.xe s1 := by
  obtain ⟨nm, q, N, bs, bm, sn, sub, ab, col, dd, k0, k1, k2, k3, k5, hC, hbm⟩ := T.cls
  obtain ⟨hp, g, dr, tk, os⟩ := s1
  let top := hp.objs.size + 1
  let hq2 : Heap := (hp.push (PySem.W.kdv_tup us)).push (PySem.HandSPX.excO C hp.objs.size)
  have grown : ∀ b o, hp.get? b = some o → hq2.get? b = some o := fun b o z => Heap.get?_push_of_some _ (Heap.get?_push_of_some _ z)
  have there : hq2.get? top = some (PySem.HandSPX.excO C hp.objs.size) := by
    have z := Heap.get?_push_size (hp.push (PySem.W.kdv_tup us)) (o := PySem.HandSPX.excO C hp.objs.size) rfl
    rwa [Heap.size_push] at z
  have I2 : Inv X pins σ (upd H1 top (exo top C none)) ⟨hq2, g, dr, tk, os⟩ := I1.laid (t' := tk) (a := top) (o := exo top C none) (h' := hq2) grown (Nat.le_succ _) (exo_ok there)
  have want := q1 top (I1.hok.fresh (Nat.le_succ _))
  have all : Vals (V.ref top :: (vs ++ dvs)) (Value.ref top :: (us ++ ds)) := .cons rfl (r1.append hd)
  have many : (Value.ref top :: us ++ ds).length = ps.length := all.length.symm.trans (F1.len _ _ _ _ want)
  have few : us.length ≤ sizeLine := by
    rw [← Paired.length r1, sizeLine_eq]
    omega
  have body := F1.run _ X.stack _ _ ⟨Value.ref top :: us, []⟩ (Value.ref top :: (us ++ ds)) _ _ (fun _ _ _ => False) (hr.make C us []) (I2.env0.make C us []) (hb _ (Value.ref top :: us) I2.kIn many) all want
  refine wpAny_call (PySem.HandSPX.call_own F.excBase_ValueError (fun Y => PySem.HandSPX.refsVE_contains Y bm hbm) (I1.kIn _ _ hC) (PySem.W.looks_findIn I1.kIn iC) (fun self => PySem.W.bind_fn I1.kIn self tI) few (codeAny_mono body fun r s' hr' => ?_))
  cases r with
  | error er => exact hx pins σ _ _ er s' I2 hr'
  | ok fl =>
    cases fl with
    | ret u =>
      obtain ⟨v, H', J, rv, rfl, q3⟩ := I2.after hr'
      exact ⟨rv, ⟨V.ref top, H', J, rfl, q3⟩⟩
    | next => exact False.elim hr'
    | brk => exact False.elim hr'
    | cont => exact False.elim hr'
theorem pe_mkE {x : Str} (T : OexC X.K C) (iC : PySem.W.findIn X.K (.ref C) "__init__" = some (some (.ref fI))) (tI : PySem.W.typeIn X.K (.ref fI) = some (.type "function"))
    (F1 : FnOk X.prog X.w X.K X.mg X.base CX k fI fd ps sp) (hr : Room (k + 1) X.A) (hb : Binds X.K fd ps ds) (hd : Vals dvs ds) (hx : Passes CX X (fun _ _ _ => False)) (hg : Gl X x) (hm : X.mg x = some (.ref C)) (ha : PA X (e :: es) ta)
    (hdb : (x == ("__debug__" : Str)) = false := by decide) (he : starEach (e :: es) X.env = (false, eval e X.env) :: starEach es X.env := by rfl) (hpl : (backTo pos (starEach es X.env)).any (·.1) = false := by rfl) :
    PE X (.Call (.Name x p) (e :: es) [] pos) (tMkE C sp dvs ta) := by
  refine ⟨fun pins s σ H Q I h => ?_⟩
  refine wpAny_Call_Name_kw (ld_glob I hg hm ?_ hdb)
  exact PySem.W.callWith_K (h₀ := X.base) I.ok.mod.kin T.kC (thn (ha.run pos pins s σ H _ I h) fun us s1 ⟨vs, H1, I1, r1, hz, q1⟩ => ⟨I1.kIn, run_mkE T iC tI F1 hr hb hd hx I1 r1 hz q1⟩) he hpl
theorem pe_mkE0 {x : Str} (T : OexC X.K C) (iC : PySem.W.findIn X.K (.ref C) "__init__" = some (some (.ref fI))) (tI : PySem.W.typeIn X.K (.ref fI) = some (.type "function"))
    (F1 : FnOk X.prog X.w X.K X.mg X.base CX k fI fd ps sp) (hr : Room (k + 1) X.A) (hb : Binds X.K fd ps ds) (hd : Vals dvs ds) (hx : Passes CX X (fun _ _ _ => False)) (hg : Gl X x) (hm : X.mg x = some (.ref C))
    (hdb : (x == ("__debug__" : Str)) = false := by decide) : PE X (.Call (.Name x p) [] [] pos) (tMkE C sp dvs tNil) := by
  refine ⟨fun pins s σ H Q I h => ?_⟩
  refine wpAny_Call_Name_kw (ld_glob I hg hm ?_ hdb)
  exact PySem.W.callWith_K0 I.kIn T.kC (run_mkE (us := []) T iC tI F1 hr hb hd hx I .nil h.1 h.2)
end
theorem pe_exf (he : PE X e te) (hb : attributeBase e f X.env (eval e X.env) = eval e X.env := by rfl) : PE X (.Attribute e f pos) (tExF X.K f te) := by
  refine ⟨fun pins s σ H Q I h => ?_⟩
  refine attr_of hb (thn (he.run pins s σ H _ I h) fun u s1 hh => ?_)
  obtain ⟨x, H1, I1, rx, a, C, d, fs, v, rfl, ea, ed, T, hno, l, q⟩ := hh
  obtain rfl : u = Value.ref a := rx
  obtain ⟨t1, ho⟩ := exo_at I1.hok ea
  obtain ⟨mA, hns, hr⟩ := exd_at I1.hok ed
  obtain ⟨od, hod, hl⟩ := lookIn_ns hns
  obtain ⟨u, hu, ru⟩ := RelO.some_of (v := v) (o := mA f) (by rw [← l]; exact hr f)
  have J : PySem.W.InstAt s1.heap a _ C (some od) := ⟨ho, rfl, rfl, hod⟩
  exact HandSPX.exc_get I1.kIn J T.ga T.gg T.exC (PySem.W.findObj_own T.hdC hno rfl (by rw [hl, hu])) (handed_of ru) ⟨v, H1, I1.tok _, ru, q⟩
theorem call_isX : CallR X (.builtin "isinstance") (rIsX X.K) := by
  intro pins s σ H xs us Q I r h
  obtain ⟨a, C, d, c, u, b, rfl, ea, ed, T, k, ek, q⟩ := h
  obtain ⟨u1, u2, rfl, r1, r2⟩ := vals2 r
  obtain rfl : u1 = Value.ref a := r1
  have e2 := k.eq r2
  subst e2
  have hcl : (PySem.W.clsIn X.K C).isSome = true := by
    obtain ⟨cd, hc, _⟩ := PySem.W.any_some T.hd
    rw [hc]
    rfl
  obtain ⟨t1, ho⟩ := exo_at I.hok ea
  cases d with
  | none => exact PySem.W.kia_one (PySem.W.kitx_exc (ox := _) (od := none) hcl T.hg T.hk T.hs T.ha T.hn T.ht T.hm) I.kIn ⟨ho, rfl, rfl, trivial⟩ ek (fun z => nomatch z) fun tk => ⟨.bl b, H, I.tok tk, rfl, q⟩
  | some dx =>
    obtain ⟨fs, efs⟩ := ed dx rfl
    obtain ⟨mA, hns, _⟩ := exd_at I.hok efs
    obtain ⟨od, _, _, hod, _⟩ := hns
    exact PySem.W.kia_one (PySem.W.kitx_exc (ox := _) (od := some od) hcl T.hg T.hk T.hs T.ha T.hn T.ht T.hm) I.kIn ⟨ho, rfl, rfl, hod⟩ ek (fun z => nomatch z) fun tk => ⟨.bl b, H, I.tok tk, rfl, q⟩
end
end Kin
/-! What the head of a run has to look up of own exception classes over ValueError, as one truth. -/
namespace Kin
open L2 PySem PySem.Spec PyProof.Rows
/-- the class object itself -/
def clsB (K : PySem.W.Frag) (C : Addr) : Bool := match K.lookup C with
  | some o => (match o.cls, o.data, o.slots.toList with
    | .type t, .cls cd, [_, _, _, _, some (.builtin n), _] => decide (t = "type") && (decide (n = "ValueError.__new__") && (cd.hasDict && (!cd.hasDel && decide (cd.mro.head? = some (.ref C)) && PySem.HandSPX.refsVE cd.mro.tail)))
    | _, _, _ => false)
  | none => false
theorem clsB_ok {K : PySem.W.Frag} {C : Addr} (h : clsB K C = true) : ∃ nm q N bs bm sn sub ab col dd k0 k1 k2 k3 k5, K.lookup C = some (excClassObj nm q C N bs bm true sn sub ab col dd k0 k1 k2 k3 k5 "ValueError.__new__") ∧ PySem.HandSPX.refsVE bm = true := by
  unfold clsB at h
  split at h
  · rename_i o ho
    obtain ⟨oc, od, dt, sl⟩ := o
    dsimp only at h
    split at h
    · rename_i t cd k0 k1 k2 k3 n k5 e3
      obtain ⟨h1, h⟩ := Bool.and_eq_true_iff.mp h
      obtain ⟨h2, h⟩ := Bool.and_eq_true_iff.mp h
      obtain ⟨h3, h⟩ := Bool.and_eq_true_iff.mp h
      obtain ⟨h45, h6⟩ := Bool.and_eq_true_iff.mp h
      obtain ⟨h4, h5⟩ := Bool.and_eq_true_iff.mp h45
      have g1 := of_decide_eq_true h1
      have g2 := of_decide_eq_true h2
      have g5 := of_decide_eq_true h5
      clear h1 h2 h5 h45
      obtain ⟨nm, bs, mro, ns, qn, hd, sn, sub, ab, col, del⟩ := cd
      have g3 : hd = true := h3
      have g4 : del = false := by
        cases del with
        | true => cases h4
        | false => rfl
      cases mro with
      | nil => cases g5
      | cons c0 bm =>
        have g6 : c0 = .ref C := Option.some.inj g5
        obtain ⟨sl⟩ := sl
        have g7 : sl = [k0, k1, k2, k3, some (.builtin n), k5] := e3
        subst g1 g2 g3 g4 g6 g7
        exact ⟨nm, qn, ns, bs, bm, sn, sub, ab, col, od, k0, k1, k2, k3, k5, ho, h6⟩
    · cases h
  · cases h
def eqB (a b : Option Bool) : Bool := decide (a = b)
def eqV (a b : Option Value) : Bool := decide (a = b)
/-- all that the rules for exceptions want of the class at C -/
def oexB (K : PySem.W.Frag) (C : Addr) : Bool := clsB K C && (He.eqO (PySem.W.findIn K (.ref C) "__setattr__") (some (some (.builtin "object.__setattr__"))) && (eqB (PySem.W.subIn K (.ref C) (.type "BaseException")) (some true) && (eqV (PySem.W.typeIn K (.ref C)) (some (.type "type")) && PySem.W.keepIn K (.ref C))))
theorem oexB_ok {K : PySem.W.Frag} {C : Addr} (h : oexB K C = true) : OexC K C := by
  obtain ⟨h1, h⟩ := Bool.and_eq_true_iff.mp h
  obtain ⟨h2, h⟩ := Bool.and_eq_true_iff.mp h
  obtain ⟨h3, h⟩ := Bool.and_eq_true_iff.mp h
  obtain ⟨h4, h5⟩ := Bool.and_eq_true_iff.mp h
  exact ⟨clsB_ok h1, He.eqO_ok h2, of_decide_eq_true h3, of_decide_eq_true h4, h5⟩
def excB (K : PySem.W.Frag) (C : Addr) : Bool := xfB K C && (He.eqO (PySem.W.findIn K (.ref C) "__class__") (some (some (.builtin "object.__class__"))) && (He.eqO (PySem.W.specialIn K (.builtin "object.__class__") "__get__") (some (some (.builtin "getset_descriptor.__get__"))) &&
  (eqB (PySem.W.takesIn K (.builtin "object.__class__")) (some true) && eqB (PySem.W.mroIn K C (.type "object")) (some true))))
theorem excB_ok {K : PySem.W.Frag} {C : Addr} (h : excB K C = true) : XfC K C ∧ L2.ExcC K C := by
  obtain ⟨h1, h⟩ := Bool.and_eq_true_iff.mp h
  obtain ⟨h2, h⟩ := Bool.and_eq_true_iff.mp h
  obtain ⟨h3, h⟩ := Bool.and_eq_true_iff.mp h
  obtain ⟨h4, h5⟩ := Bool.and_eq_true_iff.mp h
  have T := xfB_ok h1
  exact ⟨T, ⟨T.ga, T.gg, T.exC, T.hdC, He.eqO_ok h2, He.eqO_ok h3, of_decide_eq_true h4, of_decide_eq_true h5⟩⟩
/-- the own base at B, whose __init__ is ValueError's -/
def baseB (K : PySem.W.Frag) (B : Addr) : Bool := He.eqO (PySem.W.specialIn K (.ref B) "__getattribute__") (some (some (.builtin "type.__getattribute__"))) && (eqV (PySem.W.typeIn K (.ref B)) (some (.type "type")) && (PySem.W.readsIn K B (.type "type") &&
  (match PySem.W.findCls K (.ref B) (.type "type") "__init__" with
    | some (.val (.builtin n)) => decide (n = "ValueError.__init__")
    | _ => false)))
structure BaseC (K : PySem.W.Frag) (B : Addr) : Prop where
  ga : PySem.W.specialIn K (.ref B) "__getattribute__" = some (some (.builtin "type.__getattribute__"))
  ty : PySem.W.typeIn K (.ref B) = some (.type "type")
  rd : PySem.W.readsIn K B (.type "type") = true
  ini : PySem.W.findCls K (.ref B) (.type "type") "__init__" = some (.val (.builtin "ValueError.__init__"))
theorem baseB_ok {K : PySem.W.Frag} {B : Addr} (h : baseB K B = true) : BaseC K B := by
  obtain ⟨h1, h⟩ := Bool.and_eq_true_iff.mp h
  obtain ⟨h2, h⟩ := Bool.and_eq_true_iff.mp h
  obtain ⟨h3, h⟩ := Bool.and_eq_true_iff.mp h
  refine ⟨He.eqO_ok h1, of_decide_eq_true h2, h3, ?_⟩
  split at h
  · rename_i n e
    rw [e, of_decide_eq_true h]
  · cases h
end Kin
namespace Kin
open PySem PySem.Spec PyProof.Rows L2
/-- the first def of the class that stands at row i -/
def clsS (i : Nat) : Stmt := match topS i with
  | .ClassDef _ _ _ b _ _ _ _ _ _ _ => b.getD 0 (.Pass ⟨0, 0, 0, 0⟩)
  | _ => .Pass ⟨0, 0, 0, 0⟩
abbrev FnM (K : PySem.W.Frag) (q : Str) (st : Stmt) (f : Addr) (fd : FuncData) : Prop := FunD K "__init__" q (defArgs st) (defBody st) (defScope st) [] [] f fd
structure Kb (K : PySem.W.Frag) (mg : Str → Option Value) : Prop where
  g : mg "KinError" = some (.ref (He.ga K "KinError"))
  b : BaseC K (He.ga K "KinError")
/-- an __init__ that keeps one thing -/
def spIni1 (K : PySem.W.Frag) (C : Addr) (f : Str) : Sp := fun vs H Q _ => ∃ (a : Addr) (y : V), vs = [.ref a, y] ∧ OexC K C ∧ PySem.W.findIn K (.ref C) f = some none ∧ H a = some (exo a C none) ∧
  ∀ dx, H dx = none → dx ≠ a → Q .non (upd (upd H dx (exd dx [(f, y)])) a (exo a C (some dx)))
/-- .. that keeps nothing -/
def spIni0 (K : PySem.W.Frag) (C : Addr) : Sp := fun vs H Q _ => ∃ a : Addr, vs = [.ref a] ∧ OexC K C ∧ H a = some (exo a C none) ∧ Q .non H
section
variable {P : Program} {w : World} {K : PySem.W.Frag} {mg : Str → Option Value} {base : Heap} {tL : Tok} {es : Array DictEntry} {nF : Nat}
abbrev s_NoTitle : Stmt := clsS 22
theorem sc_NoTitle : FnScope [("self" : Str), ("title" : Str)] ["self", "title"] (defScope s_NoTitle) := ⟨rfl, rfl, rfl, by decide +kernel, rfl, by decide +kernel, by decide +kernel⟩
theorem ok_NoTitle {C f : Addr} {fd : FuncData} (F : FnM K "NoTitle.__init__" s_NoTitle f fd) (T : Kb K mg) : FnOk P w K mg base CX0 1 f fd ["self", "title"] (spIni1 K C "title") := by
  refine F.ok sc_NoTitle (fun vs H Q E h => ?_) (fun cdv A outer s H vs Q E hr h => ?_)
  · obtain ⟨a, y, rfl, _⟩ := h
    rfl
  · obtain ⟨a, y, rfl, T0, hno, ea, k⟩ := h
    refine ⟨_, PSs.nox (pss_cons (ps_expr (pe_biinit (by rfl) T.g T.b.ga T.b.ty T.b.rd T.b.ini (pa_cons (pv 0) (pa_cons pe_str pa_nil)))) (pss_one (ps_ost (pv 0) (pv 1)))), ?_⟩
    refine ⟨_, rfl, a, C, _, rfl, by decide, T0, ea, ?_⟩
    refine ⟨y, rfl, _, rfl, a, C, rfl, T0, hno, .inl ⟨ea, fun dx n ne => ?_⟩⟩
    exact k dx n ne
abbrev s_NoOne : Stmt := clsS 23
theorem sc_NoOne : FnScope [("self" : Str), ("name" : Str)] ["self", "name"] (defScope s_NoOne) := ⟨rfl, rfl, rfl, by decide +kernel, rfl, by decide +kernel, by decide +kernel⟩
theorem ok_NoOne {C f : Addr} {fd : FuncData} (F : FnM K "NoOne.__init__" s_NoOne f fd) (T : Kb K mg) : FnOk P w K mg base CX0 1 f fd ["self", "name"] (spIni1 K C "name") := by
  refine F.ok sc_NoOne (fun vs H Q E h => ?_) (fun cdv A outer s H vs Q E hr h => ?_)
  · obtain ⟨a, y, rfl, _⟩ := h
    rfl
  · obtain ⟨a, y, rfl, T0, hno, ea, k⟩ := h
    refine ⟨_, PSs.nox (pss_cons (ps_expr (pe_biinit (by rfl) T.g T.b.ga T.b.ty T.b.rd T.b.ini (pa_cons (pv 0) (pa_cons pe_str pa_nil)))) (pss_one (ps_ost (pv 0) (pv 1)))), ?_⟩
    refine ⟨_, rfl, a, C, _, rfl, by decide, T0, ea, ?_⟩
    refine ⟨y, rfl, _, rfl, a, C, rfl, T0, hno, .inl ⟨ea, fun dx n ne => ?_⟩⟩
    exact k dx n ne
abbrev s_NoSession : Stmt := clsS 24
theorem sc_NoSession : FnScope [("self" : Str), ("name" : Str)] ["self", "name"] (defScope s_NoSession) := ⟨rfl, rfl, rfl, by decide +kernel, rfl, by decide +kernel, by decide +kernel⟩
theorem ok_NoSession {C f : Addr} {fd : FuncData} (F : FnM K "NoSession.__init__" s_NoSession f fd) (T : Kb K mg) : FnOk P w K mg base CX0 1 f fd ["self", "name"] (spIni1 K C "name") := by
  refine F.ok sc_NoSession (fun vs H Q E h => ?_) (fun cdv A outer s H vs Q E hr h => ?_)
  · obtain ⟨a, y, rfl, _⟩ := h
    rfl
  · obtain ⟨a, y, rfl, T0, hno, ea, k⟩ := h
    refine ⟨_, PSs.nox (pss_cons (ps_expr (pe_biinit (by rfl) T.g T.b.ga T.b.ty T.b.rd T.b.ini (pa_cons (pv 0) (pa_cons pe_str pa_nil)))) (pss_one (ps_ost (pv 0) (pv 1)))), ?_⟩
    refine ⟨_, rfl, a, C, _, rfl, by decide, T0, ea, ?_⟩
    refine ⟨y, rfl, _, rfl, a, C, rfl, T0, hno, .inl ⟨ea, fun dx n ne => ?_⟩⟩
    exact k dx n ne
abbrev s_NoText : Stmt := clsS 25
theorem sc_NoText : FnScope [("self" : Str), ("row" : Str)] ["self", "row"] (defScope s_NoText) := ⟨rfl, rfl, rfl, by decide +kernel, rfl, by decide +kernel, by decide +kernel⟩
theorem ok_NoText {C f : Addr} {fd : FuncData} (F : FnM K "NoText.__init__" s_NoText f fd) (T : Kb K mg) : FnOk P w K mg base CX0 1 f fd ["self", "row"] (spIni1 K C "row") := by
  refine F.ok sc_NoText (fun vs H Q E h => ?_) (fun cdv A outer s H vs Q E hr h => ?_)
  · obtain ⟨a, y, rfl, _⟩ := h
    rfl
  · obtain ⟨a, y, rfl, T0, hno, ea, k⟩ := h
    refine ⟨_, PSs.nox (pss_cons (ps_expr (pe_biinit (by rfl) T.g T.b.ga T.b.ty T.b.rd T.b.ini (pa_cons (pv 0) (pa_cons pe_str pa_nil)))) (pss_one (ps_ost (pv 0) (pv 1)))), ?_⟩
    refine ⟨_, rfl, a, C, _, rfl, by decide, T0, ea, ?_⟩
    refine ⟨y, rfl, _, rfl, a, C, rfl, T0, hno, .inl ⟨ea, fun dx n ne => ?_⟩⟩
    exact k dx n ne
abbrev s_NoBook : Stmt := clsS 26
theorem sc_NoBook : FnScope [("self" : Str)] ["self"] (defScope s_NoBook) := ⟨rfl, rfl, rfl, by decide +kernel, rfl, by decide +kernel, by decide +kernel⟩
theorem ok_NoBook {C f : Addr} {fd : FuncData} (F : FnM K "NoBook.__init__" s_NoBook f fd) (T : Kb K mg) : FnOk P w K mg base CX0 1 f fd ["self"] (spIni0 K C) := by
  refine F.ok sc_NoBook (fun vs H Q E h => ?_) (fun cdv A outer s H vs Q E hr h => ?_)
  · obtain ⟨a, rfl, _⟩ := h
    rfl
  · obtain ⟨a, rfl, T0, ea, k⟩ := h
    refine ⟨_, PSs.nox (pss_one (ps_expr (pe_biinit (by rfl) T.g T.b.ga T.b.ty T.b.rd T.b.ini (pa_cons (pv 0) (pa_cons pe_str pa_nil))))), ?_⟩
    exact ⟨_, rfl, a, C, _, rfl, by decide, T0, ea, k⟩
abbrev s_NoTyped : Stmt := clsS 27
theorem sc_NoTyped : FnScope [("self" : Str)] ["self"] (defScope s_NoTyped) := ⟨rfl, rfl, rfl, by decide +kernel, rfl, by decide +kernel, by decide +kernel⟩
theorem ok_NoTyped {C f : Addr} {fd : FuncData} (F : FnM K "NoTyped.__init__" s_NoTyped f fd) (T : Kb K mg) : FnOk P w K mg base CX0 1 f fd ["self"] (spIni0 K C) := by
  refine F.ok sc_NoTyped (fun vs H Q E h => ?_) (fun cdv A outer s H vs Q E hr h => ?_)
  · obtain ⟨a, rfl, _⟩ := h
    rfl
  · obtain ⟨a, rfl, T0, ea, k⟩ := h
    refine ⟨_, PSs.nox (pss_one (ps_expr (pe_biinit (by rfl) T.g T.b.ga T.b.ty T.b.rd T.b.ini (pa_cons (pv 0) (pa_cons pe_str pa_nil))))), ?_⟩
    exact ⟨_, rfl, a, C, _, rfl, by decide, T0, ea, k⟩
abbrev s_NoEntry : Stmt := clsS 28
theorem sc_NoEntry : FnScope [("self" : Str)] ["self"] (defScope s_NoEntry) := ⟨rfl, rfl, rfl, by decide +kernel, rfl, by decide +kernel, by decide +kernel⟩
theorem ok_NoEntry {C f : Addr} {fd : FuncData} (F : FnM K "NoEntry.__init__" s_NoEntry f fd) (T : Kb K mg) : FnOk P w K mg base CX0 1 f fd ["self"] (spIni0 K C) := by
  refine F.ok sc_NoEntry (fun vs H Q E h => ?_) (fun cdv A outer s H vs Q E hr h => ?_)
  · obtain ⟨a, rfl, _⟩ := h
    rfl
  · obtain ⟨a, rfl, T0, ea, k⟩ := h
    refine ⟨_, PSs.nox (pss_one (ps_expr (pe_biinit (by rfl) T.g T.b.ga T.b.ty T.b.rd T.b.ini (pa_cons (pv 0) (pa_cons pe_str pa_nil))))), ?_⟩
    exact ⟨_, rfl, a, C, _, rfl, by decide, T0, ea, k⟩
abbrev s_NoScript : Stmt := clsS 29
theorem sc_NoScript : FnScope [("self" : Str)] ["self"] (defScope s_NoScript) := ⟨rfl, rfl, rfl, by decide +kernel, rfl, by decide +kernel, by decide +kernel⟩
theorem ok_NoScript {C f : Addr} {fd : FuncData} (F : FnM K "NoScript.__init__" s_NoScript f fd) (T : Kb K mg) : FnOk P w K mg base CX0 1 f fd ["self"] (spIni0 K C) := by
  refine F.ok sc_NoScript (fun vs H Q E h => ?_) (fun cdv A outer s H vs Q E hr h => ?_)
  · obtain ⟨a, rfl, _⟩ := h
    rfl
  · obtain ⟨a, rfl, T0, ea, k⟩ := h
    refine ⟨_, PSs.nox (pss_one (ps_expr (pe_biinit (by rfl) T.g T.b.ga T.b.ty T.b.rd T.b.ini (pa_cons (pv 0) (pa_cons pe_str pa_nil))))), ?_⟩
    exact ⟨_, rfl, a, C, _, rfl, by decide, T0, ea, k⟩
abbrev s_TooMany : Stmt := clsS 30
theorem sc_TooMany : FnScope [("self" : Str)] ["self"] (defScope s_TooMany) := ⟨rfl, rfl, rfl, by decide +kernel, rfl, by decide +kernel, by decide +kernel⟩
theorem ok_TooMany {C f : Addr} {fd : FuncData} (F : FnM K "TooMany.__init__" s_TooMany f fd) (T : Kb K mg) : FnOk P w K mg base CX0 1 f fd ["self"] (spIni0 K C) := by
  refine F.ok sc_TooMany (fun vs H Q E h => ?_) (fun cdv A outer s H vs Q E hr h => ?_)
  · obtain ⟨a, rfl, _⟩ := h
    rfl
  · obtain ⟨a, rfl, T0, ea, k⟩ := h
    refine ⟨_, PSs.nox (pss_one (ps_expr (pe_biinit (by rfl) T.g T.b.ga T.b.ty T.b.rd T.b.ini (pa_cons (pv 0) (pa_cons pe_str pa_nil))))), ?_⟩
    exact ⟨_, rfl, a, C, _, rfl, by decide, T0, ea, k⟩
abbrev s_NoLine : Stmt := clsS 31
theorem sc_NoLine : FnScope [("self" : Str)] ["self"] (defScope s_NoLine) := ⟨rfl, rfl, rfl, by decide +kernel, rfl, by decide +kernel, by decide +kernel⟩
theorem ok_NoLine {C f : Addr} {fd : FuncData} (F : FnM K "NoLine.__init__" s_NoLine f fd) (T : Kb K mg) : FnOk P w K mg base CX0 1 f fd ["self"] (spIni0 K C) := by
  refine F.ok sc_NoLine (fun vs H Q E h => ?_) (fun cdv A outer s H vs Q E hr h => ?_)
  · obtain ⟨a, rfl, _⟩ := h
    rfl
  · obtain ⟨a, rfl, T0, ea, k⟩ := h
    refine ⟨_, PSs.nox (pss_one (ps_expr (pe_biinit (by rfl) T.g T.b.ga T.b.ty T.b.rd T.b.ini (pa_cons (pv 0) (pa_cons pe_str pa_nil))))), ?_⟩
    exact ⟨_, rfl, a, C, _, rfl, by decide, T0, ea, k⟩
abbrev s_NoHouse : Stmt := clsS 32
theorem sc_NoHouse : FnScope [("self" : Str)] ["self"] (defScope s_NoHouse) := ⟨rfl, rfl, rfl, by decide +kernel, rfl, by decide +kernel, by decide +kernel⟩
theorem ok_NoHouse {C f : Addr} {fd : FuncData} (F : FnM K "NoHouse.__init__" s_NoHouse f fd) (T : Kb K mg) : FnOk P w K mg base CX0 1 f fd ["self"] (spIni0 K C) := by
  refine F.ok sc_NoHouse (fun vs H Q E h => ?_) (fun cdv A outer s H vs Q E hr h => ?_)
  · obtain ⟨a, rfl, _⟩ := h
    rfl
  · obtain ⟨a, rfl, T0, ea, k⟩ := h
    refine ⟨_, PSs.nox (pss_one (ps_expr (pe_biinit (by rfl) T.g T.b.ga T.b.ty T.b.rd T.b.ini (pa_cons (pv 0) (pa_cons pe_str pa_nil))))), ?_⟩
    exact ⟨_, rfl, a, C, _, rfl, by decide, T0, ea, k⟩
end
end Kin
/-! Own rules: enumerate(tuple) walked; d.update(d2) of dicts with text and number keys. -/
namespace Kin
open PySem PySem.Spec PyProof.Rows L2
theorem meets_enumT (l : Addr) (items : Array Value) :
    Meets (Builtin.«enumerate.__new__» ⟨[.type "enumerate", .ref l], []⟩) (fun _ R s => s.heap.IsTuple l items ∧
      R (.ok (.ret (.ref (s.heap.push { cls := .type "tuple_iterator", data := .fields #[.ref l, .int 0 0] }).objs.size)))
        { s with heap := (s.heap.push { cls := .type "tuple_iterator", data := .fields #[.ref l, .int 0 0] }).push { cls := .type "enumerate", data := .fields #[.none, .bool false, .ref s.heap.objs.size, rawInt 0, .none, .none] } }) :=
  .of_wp fun prog w A R s h => by
    obtain ⟨hp, g, d, tk, os⟩ := s; obtain ⟨h1, h⟩ := h
    have hsub := sub_enumerate
    have q1 : ∀ {A' : Around} {E : Value → Shared → Prop} {Q : Value → Shared → Prop}, Q (.ref hp.objs.size) ⟨hp.push { cls := .type "tuple_iterator", data := .fields #[.ref l, .int 0 0] }, g, d, tk, os⟩ → wpAny (model prog w) A' (pyIter (.ref l)) Q E ⟨hp, g, d, tk, os⟩ :=
      fun q => (begins_tuple l items).iter prog w _ _ ⟨hp, g, d, tk, os⟩ _ h1 q
    wp_walk using q1
    refine wpAny_stack_any fun st => wpAny_pure ?_
    split
    · rename_i c _ _ _ _ _
      cases (c == Value.type "enumerate")
      · wp_walk using q1
        exact ⟨_, rfl, h⟩
      · wp_walk using q1
        exact ⟨_, rfl, h⟩
    · wp_walk using q1
      exact ⟨_, rfl, h⟩
theorem call_enumT {prog : Program} {w : World} {A : Around} {E : Value → Shared → Prop} {s : Shared} {l : Addr} {items : Array Value} {Q : Value → Shared → Prop} (hL : s.heap.IsTuple l items)
    (h : ∀ h', IsEnum h' (s.heap.objs.size + 1) s.heap.objs.size 0 .none → h'.IsTupleIter s.heap.objs.size l 0 → h'.objs.size = s.heap.objs.size + 2 →
      (∀ b o, s.heap.get? b = some o → h'.get? b = some o) → Q (.ref (s.heap.objs.size + 1)) { s with heap := h' }) :
    wpAny (model prog w) A (call (.type "enumerate") [.ref l]) Q E s := by
  refine callType_new F.called_enumerate (by decide) (F.typeCall_enumerate_1 _) (F.newCall_enumerate_1 _) (fun obj => F.args_object_init_2 obj _) F.entry_enumerate_new
    (meets_enumT l items) ⟨hL, ?_⟩
  have hz : (s.heap.push { cls := .type "tuple_iterator", data := .fields #[.ref l, .int 0 0] }).objs.size = s.heap.objs.size + 1 := Heap.size_push ..
  show _ ∧ _
  rw [hz]
  have he : IsEnum ((s.heap.push { cls := .type "tuple_iterator", data := .fields #[.ref l, .int 0 0] }).push
      { cls := .type "enumerate", data := .fields #[.none, .bool false, .ref s.heap.objs.size, rawInt 0, .none, .none] }) (s.heap.objs.size + 1) s.heap.objs.size 0 .none := by
    have := Heap.get?_push_size (s.heap.push { cls := .type "tuple_iterator", data := .fields #[.ref l, .int 0 0] })
      (o := { cls := .type "enumerate", data := .fields #[.none, .bool false, .ref s.heap.objs.size, rawInt 0, .none, .none] }) rfl
    rw [hz] at this; exact this
  refine ⟨⟨_, he, rfl⟩, h _ he ⟨_, Heap.get?_push_of_some _ (Heap.get?_push_size _ rfl), rfl, rfl⟩ (by rw [Heap.size_push, hz]) fun b o x => Heap.get?_push_of_some _ (Heap.get?_push_of_some _ x)⟩
end Kin
namespace Kin
open PySem PySem.Spec PyProof.Rows L2
def errs : List Str := ["NoTitle", "NoOne", "NoSession", "NoText", "NoBook", "NoTyped", "NoEntry", "NoScript", "TooMany", "NoLine", "NoHouse"]
/-- the i-th class of refusals -/
def cl (K : PySem.W.Frag) (i : Nat) : Addr := He.ga K (errs.getD i "")
structure Em (K : PySem.W.Frag) (mg : Str → Option Value) : Prop where
  g : ∀ i, i < 11 → mg (errs.getD i "") = some (.ref (cl K i))
  oex : ∀ i, i < 11 → OexC K (cl K i)
  exc : ∀ i, i < 11 → L2.ExcC K (cl K i)
  kit : ∀ i j, i < 11 → j < 11 → PySem.W.kitOne K (.ref (cl K i)) (.ref (cl K j)) = some (i == j)
/-- an exception of the i-th class -/
def Exn (K : PySem.W.Frag) (H : Hp) (a : Addr) (i : Nat) : Prop := ∃ d, H a = some (exo a (cl K i) d) ∧ ∀ e, d = some e → ∃ fs, H e = some (exd e fs)
theorem Exn.same {K : PySem.W.Frag} {H H' : Hp} {a : Addr} {i : Nat} (s : Same H H') (h : Exn K H a i) : Exn K H' a i := by
  obtain ⟨d, h1, h2⟩ := h
  exact ⟨d, s _ _ h1, fun e he => by
    obtain ⟨fs, q⟩ := h2 e he
    exact ⟨fs, s _ _ q⟩⟩
def marksOf (i : Nat) : List V := (List.range 11).map fun k => V.bl (i == k)
def spMarks (K : PySem.W.Frag) : Sp := fun vs H Q _ => ∃ (a : Addr) (i : Nat), vs = [.ref a] ∧ i < 11 ∧ Exn K H a i ∧ ∀ p H', Same H H' → H p = none → H' p = some (.lst (marksOf i)) → Q (.ref p) H'
section
variable {P : Program} {w : World} {K : PySem.W.Frag} {mg : Str → Option Value} {base : Heap} {tL : Tok} {es : Array DictEntry} {nF : Nat}
theorem isx {σ : L2.St} {H : Hp} {a : Addr} {i j : Nat} {ts : TA} {Q : List V → Hp → Prop} (M : Em K mg) (hi : i < 11) (hj : j < 11) (hv : σ[0]? = some (some (V.ref a))) (e : Exn K H a i) (q : ts σ H fun xs H2 => Q (V.bl (i == j) :: xs) H2) :
    tCons (tCB (rIsX K) (tCons (tVar 0) (tCons (tC (.ref (cl K j))) tNil))) ts σ H Q := by
  obtain ⟨d, h1, h2⟩ := e
  exact ⟨_, hv, a, _, d, _, _, _, rfl, h1, h2, M.exc i hi, .own _, M.kit i j hi hj, q⟩
abbrev s__law_marks : Stmt := topS 37
theorem sc__law_marks : FnScope [("_law_one" : Str), ("_law_marks_here" : Str)] ["_law_one"] (defScope s__law_marks) := ⟨rfl, rfl, rfl, by decide +kernel, rfl, by decide +kernel, by decide +kernel⟩
theorem ok__law_marks {f : Addr} {fd : FuncData} (F : FnP K "_law_marks" s__law_marks f fd) (T : Bi K w mg tL es nF) (M : Em K mg) : FnOk P w K mg base CX0 1 f fd ["_law_one"] (spMarks K) := by
  refine F.ok sc__law_marks (fun vs H Q E h => ?_) (fun cdv A outer s H vs Q E hr h => ?_)
  · obtain ⟨a, i, rfl, _⟩ := h
    rfl
  · obtain ⟨a, i, rfl, hi, ex, k⟩ := h
    refine ⟨_, PSs.nox (pss_cons (ps_set (i := 1) sc__law_marks.nd rfl (by first | exact .inl rfl | exact .inr rfl) (pe_lst (pa_cons (pe_callB call_isX (by rfl) T.n_isinstance boot_isinstance (pa_cons (pv 0) (pa_cons (pe_glob (v := .ref (cl K 0)) (by rfl) (M.g 0 (by decide)) rfl) pa_nil))) (pa_cons (pe_callB call_isX (by rfl) T.n_isinstance boot_isinstance (pa_cons (pv 0) (pa_cons (pe_glob (v := .ref (cl K 1)) (by rfl) (M.g 1 (by decide)) rfl) pa_nil))) (pa_cons (pe_callB call_isX (by rfl) T.n_isinstance boot_isinstance (pa_cons (pv 0) (pa_cons (pe_glob (v := .ref (cl K 2)) (by rfl) (M.g 2 (by decide)) rfl) pa_nil))) (pa_cons (pe_callB call_isX (by rfl) T.n_isinstance boot_isinstance (pa_cons (pv 0) (pa_cons (pe_glob (v := .ref (cl K 3)) (by rfl) (M.g 3 (by decide)) rfl) pa_nil))) pa_nil)))))) (pss_cons (ps_set (i := 1) sc__law_marks.nd rfl (by first | exact .inl rfl | exact .inr rfl) (pe_op op_cat (pv 1) (pe_lst (pa_cons (pe_callB call_isX (by rfl) T.n_isinstance boot_isinstance (pa_cons (pv 0) (pa_cons (pe_glob (v := .ref (cl K 4)) (by rfl) (M.g 4 (by decide)) rfl) pa_nil))) (pa_cons (pe_callB call_isX (by rfl) T.n_isinstance boot_isinstance (pa_cons (pv 0) (pa_cons (pe_glob (v := .ref (cl K 5)) (by rfl) (M.g 5 (by decide)) rfl) pa_nil))) (pa_cons (pe_callB call_isX (by rfl) T.n_isinstance boot_isinstance (pa_cons (pv 0) (pa_cons (pe_glob (v := .ref (cl K 6)) (by rfl) (M.g 6 (by decide)) rfl) pa_nil))) pa_nil)))))) (pss_cons (ps_set (i := 1) sc__law_marks.nd rfl (by first | exact .inl rfl | exact .inr rfl) (pe_op op_cat (pv 1) (pe_lst (pa_cons (pe_callB call_isX (by rfl) T.n_isinstance boot_isinstance (pa_cons (pv 0) (pa_cons (pe_glob (v := .ref (cl K 7)) (by rfl) (M.g 7 (by decide)) rfl) pa_nil))) (pa_cons (pe_callB call_isX (by rfl) T.n_isinstance boot_isinstance (pa_cons (pv 0) (pa_cons (pe_glob (v := .ref (cl K 8)) (by rfl) (M.g 8 (by decide)) rfl) pa_nil))) (pa_cons (pe_callB call_isX (by rfl) T.n_isinstance boot_isinstance (pa_cons (pv 0) (pa_cons (pe_glob (v := .ref (cl K 9)) (by rfl) (M.g 9 (by decide)) rfl) pa_nil))) pa_nil)))))) (pss_one (ps_ret (pe_op op_cat (pv 1) (pe_lst (pa_cons (pe_callB call_isX (by rfl) T.n_isinstance boot_isinstance (pa_cons (pv 0) (pa_cons (pe_glob (v := .ref (cl K 10)) (by rfl) (M.g 10 (by decide)) rfl) pa_nil))) pa_nil)))))))), ?_⟩
    dsimp only [tSeq, tAsg, tLst]
    refine isx (j := 0) M hi (by decide) (by rfl) ex ?_
    refine isx (j := 1) M hi (by decide) (by rfl) ex ?_
    refine isx (j := 2) M hi (by decide) (by rfl) ex ?_
    refine isx (j := 3) M hi (by decide) (by rfl) ex ?_
    refine ⟨(show (4 : Nat) ≤ sizeLine by decide), fun p1 n1 => ?_⟩
    have t1 : Same H (upd H p1 (.lst [V.bl (i == 0), V.bl (i == 1), V.bl (i == 2), V.bl (i == 3)])) := same_upd n1
    have l1 : (upd H p1 (.lst [V.bl (i == 0), V.bl (i == 1), V.bl (i == 2), V.bl (i == 3)])) p1 = some (.lst [V.bl (i == 0), V.bl (i == 1), V.bl (i == 2), V.bl (i == 3)]) := upd_same
    generalize upd H p1 (.lst [V.bl (i == 0), V.bl (i == 1), V.bl (i == 2), V.bl (i == 3)]) = H1 at t1 l1 ⊢
    have s1 : Same H H1 := t1
    have x1 := ex.same s1
    refine ⟨_, rfl, ?_⟩
    refine isx (j := 4) M hi (by decide) (by rfl) x1 ?_
    refine isx (j := 5) M hi (by decide) (by rfl) x1 ?_
    refine isx (j := 6) M hi (by decide) (by rfl) x1 ?_
    refine ⟨(show (3 : Nat) ≤ sizeLine by decide), fun p2 n2 => ?_⟩
    have t2 : Same H1 (upd H1 p2 (.lst [V.bl (i == 4), V.bl (i == 5), V.bl (i == 6)])) := same_upd n2
    have l2 : (upd H1 p2 (.lst [V.bl (i == 4), V.bl (i == 5), V.bl (i == 6)])) p2 = some (.lst [V.bl (i == 4), V.bl (i == 5), V.bl (i == 6)]) := upd_same
    generalize upd H1 p2 (.lst [V.bl (i == 4), V.bl (i == 5), V.bl (i == 6)]) = H2 at t2 l2 ⊢
    have s2 : Same H H2 := s1.trans t2
    have x2 := ex.same s2
    refine ⟨p1, p2, _, _, rfl, rfl, t2 _ _ l1, l2, (show (7 : Nat) ≤ sizeLine by decide), fun p3 n3 => ?_⟩
    have t3 : Same H2 (upd H2 p3 (.lst ([V.bl (i == 0), V.bl (i == 1), V.bl (i == 2), V.bl (i == 3)] ++ [V.bl (i == 4), V.bl (i == 5), V.bl (i == 6)]))) := same_upd n3
    have l3 : (upd H2 p3 (.lst ([V.bl (i == 0), V.bl (i == 1), V.bl (i == 2), V.bl (i == 3)] ++ [V.bl (i == 4), V.bl (i == 5), V.bl (i == 6)]))) p3 = some (.lst ([V.bl (i == 0), V.bl (i == 1), V.bl (i == 2), V.bl (i == 3)] ++ [V.bl (i == 4), V.bl (i == 5), V.bl (i == 6)])) := upd_same
    generalize upd H2 p3 (.lst ([V.bl (i == 0), V.bl (i == 1), V.bl (i == 2), V.bl (i == 3)] ++ [V.bl (i == 4), V.bl (i == 5), V.bl (i == 6)])) = H3 at t3 l3 ⊢
    have s3 : Same H H3 := s2.trans t3
    have x3 := ex.same s3
    have l3 : H3 p3 = some (.lst [V.bl (i == 0), V.bl (i == 1), V.bl (i == 2), V.bl (i == 3), V.bl (i == 4), V.bl (i == 5), V.bl (i == 6)]) := l3
    refine ⟨_, rfl, ?_⟩
    refine isx (j := 7) M hi (by decide) (by rfl) x3 ?_
    refine isx (j := 8) M hi (by decide) (by rfl) x3 ?_
    refine isx (j := 9) M hi (by decide) (by rfl) x3 ?_
    refine ⟨(show (3 : Nat) ≤ sizeLine by decide), fun p4 n4 => ?_⟩
    have t4 : Same H3 (upd H3 p4 (.lst [V.bl (i == 7), V.bl (i == 8), V.bl (i == 9)])) := same_upd n4
    have l4 : (upd H3 p4 (.lst [V.bl (i == 7), V.bl (i == 8), V.bl (i == 9)])) p4 = some (.lst [V.bl (i == 7), V.bl (i == 8), V.bl (i == 9)]) := upd_same
    generalize upd H3 p4 (.lst [V.bl (i == 7), V.bl (i == 8), V.bl (i == 9)]) = H4 at t4 l4 ⊢
    have s4 : Same H H4 := s3.trans t4
    have x4 := ex.same s4
    refine ⟨p3, p4, _, _, rfl, rfl, t4 _ _ l3, l4, (show (10 : Nat) ≤ sizeLine by decide), fun p5 n5 => ?_⟩
    have t5 : Same H4 (upd H4 p5 (.lst ([V.bl (i == 0), V.bl (i == 1), V.bl (i == 2), V.bl (i == 3), V.bl (i == 4), V.bl (i == 5), V.bl (i == 6)] ++ [V.bl (i == 7), V.bl (i == 8), V.bl (i == 9)]))) := same_upd n5
    have l5 : (upd H4 p5 (.lst ([V.bl (i == 0), V.bl (i == 1), V.bl (i == 2), V.bl (i == 3), V.bl (i == 4), V.bl (i == 5), V.bl (i == 6)] ++ [V.bl (i == 7), V.bl (i == 8), V.bl (i == 9)]))) p5 = some (.lst ([V.bl (i == 0), V.bl (i == 1), V.bl (i == 2), V.bl (i == 3), V.bl (i == 4), V.bl (i == 5), V.bl (i == 6)] ++ [V.bl (i == 7), V.bl (i == 8), V.bl (i == 9)])) := upd_same
    generalize upd H4 p5 (.lst ([V.bl (i == 0), V.bl (i == 1), V.bl (i == 2), V.bl (i == 3), V.bl (i == 4), V.bl (i == 5), V.bl (i == 6)] ++ [V.bl (i == 7), V.bl (i == 8), V.bl (i == 9)])) = H5 at t5 l5 ⊢
    have s5 : Same H H5 := s4.trans t5
    have x5 := ex.same s5
    have l5 : H5 p5 = some (.lst [V.bl (i == 0), V.bl (i == 1), V.bl (i == 2), V.bl (i == 3), V.bl (i == 4), V.bl (i == 5), V.bl (i == 6), V.bl (i == 7), V.bl (i == 8), V.bl (i == 9)]) := l5
    refine ⟨_, rfl, ?_⟩
    refine isx (j := 10) M hi (by decide) (by rfl) x5 ?_
    refine ⟨(show (1 : Nat) ≤ sizeLine by decide), fun p6 n6 => ?_⟩
    have t6 : Same H5 (upd H5 p6 (.lst [V.bl (i == 10)])) := same_upd n6
    have l6 : (upd H5 p6 (.lst [V.bl (i == 10)])) p6 = some (.lst [V.bl (i == 10)]) := upd_same
    generalize upd H5 p6 (.lst [V.bl (i == 10)]) = H6 at t6 l6 ⊢
    have s6 : Same H H6 := s5.trans t6
    have x6 := ex.same s6
    refine ⟨p5, p6, _, _, rfl, rfl, t6 _ _ l5, l6, (show (11 : Nat) ≤ sizeLine by decide), fun p7 n7 => ?_⟩
    have t7 : Same H6 (upd H6 p7 (.lst ([V.bl (i == 0), V.bl (i == 1), V.bl (i == 2), V.bl (i == 3), V.bl (i == 4), V.bl (i == 5), V.bl (i == 6), V.bl (i == 7), V.bl (i == 8), V.bl (i == 9)] ++ [V.bl (i == 10)]))) := same_upd n7
    have l7 : (upd H6 p7 (.lst ([V.bl (i == 0), V.bl (i == 1), V.bl (i == 2), V.bl (i == 3), V.bl (i == 4), V.bl (i == 5), V.bl (i == 6), V.bl (i == 7), V.bl (i == 8), V.bl (i == 9)] ++ [V.bl (i == 10)]))) p7 = some (.lst ([V.bl (i == 0), V.bl (i == 1), V.bl (i == 2), V.bl (i == 3), V.bl (i == 4), V.bl (i == 5), V.bl (i == 6), V.bl (i == 7), V.bl (i == 8), V.bl (i == 9)] ++ [V.bl (i == 10)])) := upd_same
    generalize upd H6 p7 (.lst ([V.bl (i == 0), V.bl (i == 1), V.bl (i == 2), V.bl (i == 3), V.bl (i == 4), V.bl (i == 5), V.bl (i == 6), V.bl (i == 7), V.bl (i == 8), V.bl (i == 9)] ++ [V.bl (i == 10)])) = H7 at t7 l7 ⊢
    have s7 : Same H H7 := s6.trans t7
    have x7 := ex.same s7
    have l7 : H7 p7 = some (.lst [V.bl (i == 0), V.bl (i == 1), V.bl (i == 2), V.bl (i == 3), V.bl (i == 4), V.bl (i == 5), V.bl (i == 6), V.bl (i == 7), V.bl (i == 8), V.bl (i == 9), V.bl (i == 10)]) := l7
    exact k p7 H7 s7 (s6.free n7) l7
end
end Kin
namespace Kin
open PySem PySem.Spec PyProof.Rows L2
section
variable {K : PySem.W.Frag} {mg : Str → Option Value} {H : Hp} {Q : VK} {E : XK} {ta : TA} {σ : L2.St}
/-- an exception that keeps y under f -/
def Ex1 (K : PySem.W.Frag) (H : Hp) (a C : Addr) (f : Str) (y : V) : Prop := ∃ d, H a = some (exo a C (some d)) ∧ H d = some (exd d [(f, y)])
theorem Ex1.same {H' : Hp} {a C : Addr} {f : Str} {y : V} (s : Same H H') (h : Ex1 K H a C f y) : Ex1 K H' a C f y := by
  obtain ⟨d, h1, h2⟩ := h
  exact ⟨d, s _ _ h1, s _ _ h2⟩
theorem Ex1.exn {a : Addr} {i : Nat} {f : Str} {y : V} (h : Ex1 K H a (cl K i) f y) : Exn K H a i := by
  obtain ⟨d, h1, h2⟩ := h
  refine ⟨_, h1, fun e he => ?_⟩
  cases he
  exact ⟨_, h2⟩
theorem made1 {C : Addr} {f : Str} {y : V} (T : OexC K C) (hno : PySem.W.findIn K (.ref C) f = some none) (q : ∀ a H', Same H H' → H a = none → Ex1 K H' a C f y → Q (.ref a) H') (a : Addr) (n : H a = none) :
    spIni1 K C f [.ref a, y] (upd H a (exo a C none)) (fun v H2 => v = .non ∧ Q (.ref a) H2) E := by
  refine ⟨a, y, rfl, T, hno, upd_same, fun dx nd ne => ⟨rfl, q a _ (fun b o e => ?_) n ⟨dx, upd_same, ?_⟩⟩⟩
  · have b1 : b ≠ a := ne_of_none e n
    have b2 : b ≠ dx := fun z => by
      rw [← z, upd_ne b1, e] at nd
      cases nd
    rw [upd_ne b1, upd_ne b2, upd_ne b1]
    exact e
  · rw [upd_ne ne, upd_same]
theorem made0 {i : Nat} (T : OexC K (cl K i)) (q : ∀ a H', Same H H' → H a = none → Exn K H' a i → Q (.ref a) H') (a : Addr) (n : H a = none) :
    spIni0 K (cl K i) [.ref a] (upd H a (exo a (cl K i) none)) (fun v H2 => v = .non ∧ Q (.ref a) H2) E :=
  ⟨a, rfl, T, upd_same, rfl, q a _ (same_upd n) n ⟨none, upd_same, fun e he => nomatch he⟩⟩
end
end Kin
/-! Small rules: repr of a truth, str of what is no tuple and no text, a tuple beside (). -/
namespace Kin
open PySem PySem.Spec PyProof.Rows L2
section
variable {X : Cx}
def boolS (b : Bool) : Str := if b then "True" else "False"
theorem call_repr_bl : CallR X (.builtin "repr") (fun xs H Q => ∃ b, xs = [.bl b] ∧ Q (.str (boolS b)) H) := fun pins s σ H xs us Q I r h => by
  obtain ⟨b, rfl, q⟩ := h
  obtain ⟨u, rfl, rx⟩ := vals1 r
  cases (show u = Value.bool b from rx)
  exact PySem.P.repr_of_bool ⟨.str (boolS b), H, I.tok _, ⟨_, rfl⟩, q⟩
theorem call_str_bl : CallR X (.type "str") (fun xs H Q => ∃ b, xs = [.bl b] ∧ Q (.str (boolS b)) H) := fun pins s σ H xs us Q I r h => by
  obtain ⟨b, rfl, q⟩ := h
  obtain ⟨u, rfl, rx⟩ := vals1 r
  cases (show u = Value.bool b from rx)
  exact PySem.P.str_of_bool ⟨.str (boolS b), H, I.tok _, ⟨_, rfl⟩, q⟩
theorem call_str_non : CallR X (.type "str") (fun xs H Q => xs = [.non] ∧ Q (.str "None") H) := fun pins s σ H xs us Q I r h => by
  obtain ⟨rfl, q⟩ := h
  obtain ⟨u, rfl, rx⟩ := vals1 r
  cases (show u = Value.none from rx)
  exact PySem.P.str_of_none ⟨.str "None", H, I.tok _, ⟨_, rfl⟩, q⟩
/-- x == (), x a tuple of anything -/
def rEq0 (K : PySem.W.Frag) : R2 := fun x y H Q => ∃ a b xs, x = .ref a ∧ y = .ref b ∧ SqT K H a xs ∧ SqT K H b [] ∧ Q (.bl xs.isEmpty) H
theorem op_eq0 (hu : X.A.units + 64 < cLine) : OpR X (compareOp .Eq) (rEq0 X.K) := fun pins s σ H x y v u Q I rx ry h => by
  obtain ⟨a, b, xs, rfl, rfl, ha, hb, q⟩ := h
  cases rx
  cases ry
  obtain ⟨its, rv, pa, _⟩ := I.tuple ha
  obtain ⟨its2, rv2, pb, _⟩ := I.tuple hb
  cases rv2
  have hq : EP X pins σ Q (.bool ((List.range (min its.toArray.size ([] : List Value).toArray.size)).all (fun _ => true) && its.toArray.size == ([] : List Value).toArray.size)) s := by
    refine ⟨.bl xs.isEmpty, H, I, ?_, q⟩
    show Value.bool _ = Value.bool _
    congr 1
    cases rv with
    | nil => rfl
    | cons _ _ => simp
  exact SeqAt.RcAt.tuples pa pb (Nat.lt_of_le_of_lt (Nat.le_add_right _ _) hu) (fun j h1 h2 => absurd h2 (Nat.not_lt_zero _)) X.prog X.w X.xe _ hq
def rNe0 (K : PySem.W.Frag) : R2 := fun x y H Q => ∃ a b xs, x = .ref a ∧ y = .ref b ∧ SqT K H a xs ∧ SqT K H b [] ∧ Q (.bl (!xs.isEmpty)) H
theorem op_ne0 (hu : X.A.units + 64 < cLine) : OpR X (compareOp .NotEq) (rNe0 X.K) := fun pins s σ H x y v u Q I rx ry h => by
  obtain ⟨a, b, xs, rfl, rfl, ha, hb, q⟩ := h
  cases rx
  cases ry
  obtain ⟨its, rv, pa, _⟩ := I.tuple ha
  obtain ⟨its2, rv2, pb, _⟩ := I.tuple hb
  cases rv2
  have hq : EP X pins σ Q (.bool (!((List.range (min its.toArray.size ([] : List Value).toArray.size)).all (fun _ => true) && its.toArray.size == ([] : List Value).toArray.size))) s := by
    refine ⟨.bl (!xs.isEmpty), H, I, ?_, q⟩
    show Value.bool _ = Value.bool _
    congr 1
    cases rv with
    | nil => rfl
    | cons _ _ => simp
  exact SeqAt.RcNeAt.tuples pa pb (Nat.lt_of_le_of_lt (Nat.le_add_right _ _) hu) (fun j h1 h2 => absurd h2 (Nat.not_lt_zero _)) X.prog X.w X.xe _ hq

/-! ### arithmetic of numbers and truths -/
def nv : V → Option Int
  | .int i => some i
  | .bl b => some (if b = true then 1 else 0)
  | _ => none
def rN (g : Int → Int → Int) : R2 := fun x y H Q => ∃ i j, nv x = some i ∧ nv y = some j ∧ Q (.int (g i j)) H
theorem op_addN : OpR X (binaryOp .Add) (rN fun i j => i + j) := fun pins s σ H x y v u Q I rx ry h => by
  obtain ⟨i, j, hx, hy, q⟩ := h
  cases x with
  | int a =>
    cases hx
    obtain ⟨t, rfl⟩ := rx
    cases y with
    | int b =>
      cases hy
      obtain ⟨t', rfl⟩ := ry
      exact add_int ⟨.int _, H, I.tok _, ⟨_, rfl⟩, q⟩
    | bl b =>
      cases hy
      cases (show u = Value.bool b from ry)
      exact PySem.add_int_bool ⟨.int _, H, I.tok _, ⟨_, rfl⟩, q⟩
    | _ => cases hy
  | bl a =>
    cases hx
    cases (show v = Value.bool a from rx)
    cases y with
    | int b =>
      cases hy
      obtain ⟨t', rfl⟩ := ry
      exact PySem.IntBool.add_bool_int ⟨.int _, H, I.tok _, ⟨_, rfl⟩, q⟩
    | bl b =>
      cases hy
      cases (show u = Value.bool b from ry)
      exact PyProof.Rows.add_bool ⟨.int _, H, I.tok _, ⟨_, rfl⟩, q⟩
    | _ => cases hy
  | _ => cases hx
theorem op_subN : OpR X (binaryOp .Sub) (rN fun i j => i - j) := fun pins s σ H x y v u Q I rx ry h => by
  obtain ⟨i, j, hx, hy, q⟩ := h
  cases x with
  | int a =>
    cases hx
    obtain ⟨t, rfl⟩ := rx
    cases y with
    | int b =>
      cases hy
      obtain ⟨t', rfl⟩ := ry
      exact sub_int ⟨.int _, H, I.tok _, ⟨_, rfl⟩, q⟩
    | bl b =>
      cases hy
      cases (show u = Value.bool b from ry)
      exact PySem.IntBool.sub_int_bool ⟨.int _, H, I.tok _, ⟨_, rfl⟩, q⟩
    | _ => cases hy
  | bl a =>
    cases hx
    cases (show v = Value.bool a from rx)
    cases y with
    | int b =>
      cases hy
      obtain ⟨t', rfl⟩ := ry
      exact PySem.IntBool.sub_bool_int ⟨.int _, H, I.tok _, ⟨_, rfl⟩, q⟩
    | bl b =>
      cases hy
      cases (show u = Value.bool b from ry)
      exact PyProof.Rows.sub_bool ⟨.int _, H, I.tok _, ⟨_, rfl⟩, q⟩
    | _ => cases hy
  | _ => cases hx
/-- str of a number, a truth, None: some text -/
def rStrN : List V → Hp → VK → Prop := fun xs H Q => ∃ x, xs = [x] ∧ ((∃ i : Int, x = .int i ∧ i.natAbs < 2 ^ 100) ∨ (∃ b, x = .bl b) ∨ x = .non) ∧ ∀ z : Str, z.length ≤ 200 → Q (.str z) H
theorem call_strN : CallR X (.type "str") rStrN := fun pins s σ H xs us Q I r h => by
  obtain ⟨x, rfl, hx, q⟩ := h
  rcases hx with ⟨i, rfl, hi⟩ | ⟨b, rfl⟩ | rfl
  · refine call_str_int pins s σ H _ us Q I r ⟨i, rfl, ?_, q _ ?_⟩
    · have : i.natAbs.log2 ≤ 100 := by
        by_cases h0 : i.natAbs = 0
        · rw [h0]
          decide
        · exact Nat.le_of_lt ((Nat.log2_lt h0).mpr hi)
      omega
    · have h1 := PySem.int_text_length_le (a := i) (k := 101) (by decide) (by
        by_cases h0 : i.natAbs = 0
        · rw [h0]
          decide
        · exact Nat.lt_of_lt_of_le ((Nat.log2_lt h0).mpr hi) (by decide))
      have h2 : (Str.ofString (toString i)).length = (toString i).length := by rw [PyProof.Rows.ofString_length, String.length_toList]
      show (Str.ofString (toString i)).length ≤ 200
      omega
  · refine call_str_bl pins s σ H _ us Q I r ⟨b, rfl, q _ ?_⟩
    cases b <;> decide +kernel
  · exact call_str_non pins s σ H _ us Q I r ⟨rfl, q _ (by decide +kernel)⟩
end
end Kin
/-! Defs that run where no repr is under way, and what repr then tells of data. -/
namespace Kin
open PySem PySem.Spec PyProof.Rows L2
/-- a def's promise where no repr is under way -/
structure FnG (P : Program) (w : World) (K : PySem.W.Frag) (mg : Str → Option Value) (base : Heap) (CX : CXT) (k : Nat) (f : Addr) (fd : FuncData) (ps : List Str) (sp : Sp) : Prop where
  many : ∀ vs H Q E, sp vs H Q E → vs.length = ps.length
  go : ∀ (B : Around) (up : List Env) (t : Shared) (H : Hp) (as : Args) (us : List Value) (vs : List V) (Q : VK) (E : XK), B.guards = some [] → Room k B → Env0 P w K mg base B up t H → BindsTo t fd as (ps.zip us) → Vals vs us → sp vs H Q E →
    codeAny (model P w) B (.call (.ref f) as) (CR CX up P w H t Q E) t
section
variable {P : Program} {w : World} {K : PySem.W.Frag} {mg : Str → Option Value} {base : Heap} {CX : CXT} {k : Nat} {f : Addr} {fd : FuncData} {ps N : List Str} {sp : Sp}
theorem FnG.of (F : FnOk P w K mg base CX k f fd ps sp) : FnG P w K mg base CX k f fd ps sp := ⟨F.len, fun B up t H as us vs Q E _ => F.run B up t H as us vs Q E⟩
theorem okG {x qual : Str} {params : Arguments} {body : List Stmt} {scope : Scope} {dvs : List V} {kws : List (Str × V)} (F : FunD K x qual params body scope dvs kws f fd) (S : FnScope N ps scope) (many : ∀ vs H Q E, sp vs H Q E → vs.length = ps.length)
    (hb : ∀ (cdv : Value) (B : Around) (up : List Env) (t : Shared) (H : Hp) (vs : List V) (Q : VK) (E : XK), B.guards = some [] → Room k (B.deeper (envOfC qual scope t.heap.objs.size f cdv)) → sp vs H Q E →
      ∃ tr, PSs (cxOf CX P w K mg base N qual scope f cdv B up t H E) body tr ∧ tr { nx := fun _ G => Q .non G, rt := Q } (start N vs) H) : FnG P w K mg base CX (k + 1) f fd ps sp := by
  obtain ⟨oc, od, dV, kV, doc, pm, an, cdv, ct, osl, rfl, look, cd, _, _⟩ := F.ex
  refine ⟨many, fun B up t H as us vs Q E noG room env bind rel hsp => ?_⟩
  have inK : K.In t.heap := env.mod.kin.keeps fun b o e => (env.bs b o e).1
  have noL : t.heap.NoLimit := env.mod.nolimit.keeps fun b o e => (env.bs b o e).1
  have kinds : ∀ y ∈ ps.zip us, scope.names.lookup y.1 = some .local ∨ (scope.names.lookup y.1 = some .cell ∧ ((cellsFrom (t.heap.objs.size + 1) scope.names []).lookup y.1).isSome = true) := by
    rintro ⟨n, v⟩ hy
    exact (S.par n (List.of_mem_zip hy).1).imp id fun q => ⟨q, PySem.W.cellsFrom_some _ _ _ (.inl q)⟩
  apply codeAny_call_function room.depth (inK _ _ look) rfl S.co S.gen rfl (PySem.W.codeRec_of inK cd)
  apply bind
  apply wpAny_newFunctionEnv_cells S.kind kinds
  intro env1 he t1 ic
  subst he
  refine ⟨noL.keeps ic.toInCall.keep, codeAny_func ?_⟩
  obtain ⟨tr, der, read⟩ := hb cdv B up t H vs Q E noG (room.deeper _) hsp
  have I := inv_start (CX := CX) (E := E) S room.hd env (many _ _ _ _ hsp) rel ic
  have got := der.run [] t1 (start N vs) H _ I read
  refine wpAny_mono got (fun fl t2 h => ?_) fun _ _ h => h
  have last : ∀ {σ : L2.St} {G : Hp} {v : V} {u : Value}, Inv (cxOf CX P w K mg base N qual scope f cdv B up t H E) [] σ G t2 → RelV v u → Q v G → CE up P w H t Q u t2 :=
    fun {σ G v u} J r q => ⟨v, G, J.os, J.bare, J.base, J.hok, r, q⟩
  cases fl with
  | ret u => exact let ⟨_, _, _, J, r, q⟩ := h; last J r q
  | next => exact let ⟨_, _, J, q⟩ := h; last (v := .non) (u := .none) J rfl q
  | brk => exact let ⟨_, _, _, q⟩ := h; q.elim
  | cont => exact let ⟨_, _, _, q⟩ := h; q.elim
end
structure CalG (P : Program) (w : World) (K : PySem.W.Frag) (mg : Str → Option Value) (base : Heap) (x : Str) (ps : List Str) (k : Nat) (sp : Sp) : Prop where
  ex : ∃ (f : Addr) (fd : FuncData), FnG P w K mg base CX0 k f fd ps sp ∧ mg x = some (.ref f) ∧ PySem.W.keepIn K (.ref f) = true ∧ Binds K fd ps []
section
variable {X : Cx} {x : Str} {ps : List Str} {k : Nat} {sp : Sp} {e : Expr} {es : List Expr} {t : TA} {p pos : Pos}
theorem runG {f : Addr} {fd : FuncData} {pins : List (Addr × Obj)} {σ : L2.St} {H : Hp} {s : Shared} {Q : VK} {us : List Value} {vs : List V} (F : FnG X.prog X.w X.K X.mg X.base CX0 k f fd ps sp) (hn : X.A.guards = some []) (hr : Room k X.A) (hb : Binds X.K fd ps [])
    (hx : Passes CX0 X E0) (I : Inv X pins σ H s) (r : Vals vs us) (h : sp (vs ++ []) H Q E0) : wpAny (model X.prog X.w) X.A (call (.ref f) us) (EP X pins σ Q) X.xe s := by
  have r2 : Vals (vs ++ []) (us ++ []) := r.append .nil
  have many : (us ++ []).length = ps.length := by
    rw [← r2.length]
    exact F.many _ _ _ _ h
  have got := F.go X.A X.stack s H ⟨us, []⟩ (us ++ []) (vs ++ []) Q E0 hn hr I.env0 (hb s us I.kIn many) r2 h
  refine wpAny_call (codeAny_mono got fun res t2 hq => ?_)
  match res, hq with
  | .error er, hq => exact hx pins σ H s er t2 I hq
  | .ok (.ret u), hq => exact I.after hq
  | .ok .next, hq => exact hq.elim
  | .ok .brk, hq => exact hq.elim
  | .ok .cont, hq => exact hq.elim
theorem pe_calG (c : CalG X.prog X.w X.K X.mg X.base x ps k sp) (hn : X.A.guards = some []) (hr : Room k X.A) (hg : Gl X x) (hx : Passes CX0 X E0) (ha : PA X (e :: es) t) (hdb : (x == ("__debug__" : Str)) = false := by decide)
    (he : starEach (e :: es) X.env = (false, eval e X.env) :: starEach es X.env := by rfl) (hpl : (backTo pos (starEach es X.env)).any (·.1) = false := by rfl) :
    PE X (.Call (.Name x p) (e :: es) [] pos) (tCall sp [] E0 t) := by
  obtain ⟨f, fd, F, hm, hk, hb⟩ := c.ex
  constructor
  intro pins s σ H Q I h
  apply wpAny_Call_Name_kw
  refine ld_glob I hg hm ?_ hdb
  refine PySem.W.callWith_K (h₀ := X.base) I.ok.mod.kin hk ?_ he hpl
  refine thn (ha.run pos pins s σ H _ I h) fun us s1 got => ?_
  obtain ⟨vs, H1, I1, r, q⟩ := got
  exact ⟨I1.kIn, runG F hn hr hb hx I1 r q⟩
end
/-! ### repr and str of data -/
section
variable {X : Cx} {pins : List (Addr × Obj)} {σ : L2.St} {H : Hp} {s : Shared}
theorem not_mods {a : Addr} {o : Obj} {its : Array Value} {n : Nat} (I : Inv X pins σ H s) (hm : ∃ mm, X.base.Ns sysModules mm) (ho : s.heap.get? a = some o) (hd : o.data = .seq its n) : a ≠ sysModules := by
  intro e
  subst e
  obtain ⟨mm, o2, es, ep, h1, h2, _⟩ := hm
  have h3 := I.bk _ _ h1
  rw [ho] at h3
  cases h3
  rw [hd] at h2
  cases h2
mutual
theorem dp_reads (I : Inv X pins σ H s) (hm : ∃ mm, X.base.Ns sysModules mm) : ∀ {d : PyData} {v : V} {u : Value}, Dp X.K H v d → RelV v u → ∃ as, Reads s.heap u d as ∧ sysModules ∉ as
  | _, _, _, .non, r => by
    cases r
    exact ⟨[], .none, fun q => nomatch q⟩
  | _, _, _, .bl b, r => by
    cases r
    exact ⟨[], .bool b, fun q => nomatch q⟩
  | _, _, _, .int i, r => by
    obtain ⟨t, rfl⟩ := r
    exact ⟨[], .int i t, fun q => nomatch q⟩
  | _, _, _, .str z, r => by
    obtain ⟨t, rfl⟩ := r
    exact ⟨[], .str z t, fun q => nomatch q⟩
  | _, _, _, .lst hs ha, r => by
    cases r
    obtain ⟨its, rv, ⟨o, n, ho, hc, _, hd⟩, _⟩ := I.list hs
    obtain ⟨as, hr, hn⟩ := dpA_reads I hm ha rv
    refine ⟨_, .list ho hc hd hr, fun q => ?_⟩
    rcases List.mem_cons.mp q with e | e
    · exact not_mods I hm ho hd e.symm
    · exact hn e
  | _, _, _, .tup hs ha, r => by
    cases r
    obtain ⟨its, rv, ⟨o, ho, hc, n, hd⟩, _⟩ := I.tuple hs
    obtain ⟨as, hr, hn⟩ := dpA_reads I hm ha rv
    exact ⟨_, .tuple ho hc hd hr, hn⟩
  | _, _, _, .dct hs, r => by
    cases r
    obtain ⟨_, hne, vs, kv, o, es, ep, ho, hx, hd, _, hp, _⟩ := dk_of I.hok hs
    cases kv
    have e0 : es.toList = [] := by
      generalize es.toList = l at hp
      cases hp
      rfl
    refine ⟨_, .dict (kvs := []) ho hx.1 hd (by rw [e0]; exact .nil) (by rw [e0]; exact .nil), fun q => ?_⟩
    rcases List.mem_cons.mp q with e | e
    · subst e
      simp at hne
    · cases e
theorem dpA_reads (I : Inv X pins σ H s) (hm : ∃ mm, X.base.Ns sysModules mm) : ∀ {ds : List PyData} {vs : List V} {us : List Value}, DpAll X.K H vs ds → Vals vs us → ∃ as, ReadsAll s.heap us ds as ∧ sysModules ∉ as
  | _, _, _, .nil, r => by
    cases r
    exact ⟨[], .nil, fun q => nomatch q⟩
  | _, _, _, .cons h t, r => by
    cases r with
    | cons r1 r2 =>
      obtain ⟨as, h1, n1⟩ := dp_reads I hm h r1
      obtain ⟨bs, h2, n2⟩ := dpA_reads I hm t r2
      exact ⟨as ++ bs, .cons h1 h2, fun q => (List.mem_append.mp q).elim n1 n2⟩
end
end
section
variable {X : Cx}
/-- what can be shown, and not too long -/
def shOk (d : PyData) : Prop := d.showable = true ∧ d.shown.length ≤ 16000000 ∧ d.depth ≤ 100
def rRepr (K : PySem.W.Frag) : List V → Hp → VK → Prop := fun xs H Q => ∃ x d, xs = [x] ∧ Dp K H x d ∧ shOk d ∧ Q (.str d.shown) H
theorem fits {n : Nat} (h : n ≤ 16000000) : n ≤ sizeLine := Nat.le_trans h (by decide)
theorem call_reprD {k : Nat} (hr : Room k X.A) (hn : X.A.guards = some []) (hm : ∃ mm, X.base.Ns sysModules mm) : CallR X (.builtin "repr") (rRepr X.K) := fun pins s σ H xs us Q I r h => by
  obtain ⟨x, d, rfl, hd, ⟨h1, h2, h3⟩, q⟩ := h
  obtain ⟨u, rfl, rx⟩ := vals1 r
  have room := hr.un
  obtain ⟨as, rd, hs⟩ := dp_reads I hm hd rx
  cases rd with
  | none => exact PySem.P.repr_of_none ⟨.str _, H, I.tok _, ⟨_, by rw [PyData.shown]⟩, q⟩
  | bool b => exact PySem.P.repr_of_bool ⟨.str _, H, I.tok _, ⟨_, by rw [PyData.shown]⟩, q⟩
  | int i t =>
    rw [PyData.showable] at h1
    exact PySem.P.repr_of_int (of_decide_eq_true h1) ⟨.str _, H, I.tok _, ⟨_, by rw [PyData.shown]⟩, q⟩
  | str z t =>
    rw [PyData.shown] at h2
    exact PySem.P.repr_of_str ⟨.str _, H, I.tok _, ⟨_, by rw [PyData.shown]⟩, q⟩ (fits h2)
  | list a1 a2 a3 a4 => exact repr_of_reads' (.list a1 a2 a3 a4) h1 (fun _ => hs) hn (by omega) (fun _ _ e => e) (fun h' u tk hk => ⟨.str _, H, I.kept hk, ⟨_, rfl⟩, q⟩) (fits h2)
  | tuple a1 a2 a3 a4 => exact repr_of_reads' (.tuple a1 a2 a3 a4) h1 (fun _ => hs) hn (by omega) (fun _ _ e => e) (fun h' u tk hk => ⟨.str _, H, I.kept hk, ⟨_, rfl⟩, q⟩) (fits h2)
  | dict a1 a2 a3 a4 a5 => exact repr_of_reads' (.dict a1 a2 a3 a4 a5) h1 (fun _ => hs) hn (by omega) (fun _ _ e => e) (fun h' u tk hk => ⟨.str _, H, I.kept hk, ⟨_, rfl⟩, q⟩) (fits h2)
/-- str of what is no text -/
def rStrD (K : PySem.W.Frag) : List V → Hp → VK → Prop := fun xs H Q => ∃ x d, xs = [x] ∧ Dp K H x d ∧ isaStr d = false ∧ shOk d ∧ Q (.str d.shown) H
theorem call_strD {k : Nat} (hr : Room k X.A) (hn : X.A.guards = some []) (hm : ∃ mm, X.base.Ns sysModules mm) : CallR X (.type "str") (rStrD X.K) := fun pins s σ H xs us Q I r h => by
  obtain ⟨x, d, rfl, hd, hno, ⟨h1, h2, h3⟩, q⟩ := h
  obtain ⟨u, rfl, rx⟩ := vals1 r
  have room := hr.un
  obtain ⟨as, rd, hs⟩ := dp_reads I hm hd rx
  cases rd with
  | none => exact PySem.P.str_of_none ⟨.str _, H, I.tok _, ⟨_, by rw [PyData.shown]⟩, q⟩
  | bool b => exact PySem.P.str_of_bool ⟨.str _, H, I.tok _, ⟨_, by rw [PyData.shown]⟩, q⟩
  | int i t =>
    rw [PyData.showable] at h1
    exact PySem.P.str_of_int (of_decide_eq_true h1) ⟨.str _, H, I.tok _, ⟨_, by rw [PyData.shown]⟩, q⟩
  | str z t => cases hno
  | list a1 a2 a3 a4 => exact str_of_reads (.list a1 a2 a3 a4) h1 (fun _ => hs) hn (by omega) (fun _ _ e => e) (fun h' u tk hk => ⟨.str _, H, I.kept hk, ⟨_, rfl⟩, q⟩) (fits h2)
  | tuple a1 a2 a3 a4 => exact str_of_reads (.tuple a1 a2 a3 a4) h1 (fun _ => hs) hn (by omega) (fun _ _ e => e) (fun h' u tk hk => ⟨.str _, H, I.kept hk, ⟨_, rfl⟩, q⟩) (fits h2)
  | dict a1 a2 a3 a4 a5 => exact str_of_reads (.dict a1 a2 a3 a4 a5) h1 (fun _ => hs) hn (by omega) (fun _ _ e => e) (fun h' u tk hk => ⟨.str _, H, I.kept hk, ⟨_, rfl⟩, q⟩) (fits h2)
end
/-! ### the law's own call, where no repr is under way -/
section
variable {P : Program} {w : World} {K : PySem.W.Frag}
theorem scriptTracked {a : Addr} {t : Shared} {vs : List Value} {ns : List Int} (inK : K.In t.heap) (ha : t.heap.get? a = some { cls := .type "list", data := .seq vs.toArray }) (hi : IntsAre vs ns) (hl : ns.length ≤ sizeLine) :
    ∃ H : Hp, Only H ∧ SqL K H a (ns.map V.int) ∧ HOk P w H t.heap ∧ ∀ b, H b ≠ none → b = a ∧ K.lookup a = none := by
  have rel := vals_ints hi
  cases look : K.lookup a with
  | some o =>
    have same := inK a o look
    rw [ha] at same
    cases same
    refine ⟨fun _ => none, fun _ => .inl rfl, .inr ⟨_, vs.toArray, _, look, rfl, rfl, rfl, ?_, ?_⟩, fun b u z => (nomatch (show (none : Option HO) = some u from z)), fun b z => (z rfl).elim⟩
    · rw [List.size_toArray, hi.length]
      exact hl
    · simpa using rel
  | none =>
    refine ⟨fun b => if b = a then some (.frz { cls := .type "list", data := .seq vs.toArray } (.lst (ns.map V.int))) else none, fun b => ?_, .inl (.inr ⟨_, if_pos rfl⟩), fun b u z => ?_, fun b z => ?_⟩
    · by_cases e : b = a
      · exact .inr ⟨_, _, if_pos e⟩
      · exact .inl (if_neg e)
    · by_cases e : b = a
      · subst e
        cases (if_pos rfl).symm.trans z
        exact ⟨ha, by rw [List.length_map]; exact hl, vs, _, rel, ha⟩
      · cases (if_neg e).symm.trans z
    · by_cases e : b = a
      · exact ⟨e, rfl⟩
      · exact (z (if_neg e)).elim
theorem lawG {mg mb : Str → Option Value} {k : Nat} {fa a : Addr} {fd : FuncData} {x : Str} {sp : Sp} {t : Shared} {vs : List Value} {ns : List Int} (inK : K.In t.heap) (glob : t.heap.Ns mainGlobals mg) (blt : t.heap.Ns builtinsNs mb)
    (blts : ∀ y : Str, y ≠ "__name__" → mb y = bootBuiltins y) (lim : t.heap.NoLimit) (gens : t.gens = #[]) (ha : t.heap.get? a = some { cls := .type "list", data := .seq vs.toArray }) (hi : IntsAre vs ns) (hl : ns.length ≤ sizeLine) (room : Room k callerA)
    (mods : ∃ mm, t.heap.Ns sysModules mm) (F : ∀ base : Heap, K.In base → base.Ns mainGlobals mg → (∃ mm, base.Ns sysModules mm) → FnG P w K mg base CX0 k fa fd [x] sp) (bind : ∀ (t : Shared) (u : Value), BindsTo t fd ⟨[u], []⟩ [(x, u)])
    (hsp : ∀ H : Hp, Only H → SqL K H a (ns.map V.int) → sp [.ref a] H (fun v _ => v = .bl true) fun _ _ _ => False) :
    codeAny (model P w) callerA (.call (.ref fa) ⟨[.ref a], []⟩) (fun r t2 => r = .ok (.ret (.bool true)) ∧ OldK t.heap t2.heap ∧ t2.os = t.os ∧ AllBare t2.gens) t := by
  obtain ⟨H, only, scr, hok, own⟩ := scriptTracked (P := P) (w := w) inK ha hi hl
  have stay : ∀ {b : Addr} {o : Obj}, t.heap.get? b = some o → (b = a → K.lookup a = none → False) → (hidT t.heap H).get? b = some o := fun {b o} e no => hidT_get e (by
    cases q : H b with
    | none => rfl
    | some u =>
      obtain ⟨e1, e2⟩ := own b (by rw [q]; intro z; cases z)
      exact (no e1 e2).elim)
  have ns2 : ∀ {b : Addr} {m : Str → Option Value}, t.heap.Ns b m → (hidT t.heap H).Ns b m := by
    rintro b m ⟨o, es, ep, e, d, r⟩
    refine ⟨o, es, ep, stay e fun q _ => ?_, d, r⟩
    subst q
    rw [ha] at e
    cases e
    cases (show Data.seq vs.toArray _ = Data.dict es ep from d)
  have kin2 : K.In (hidT t.heap H) := fun b o e => stay (inK b o e) fun q z => by
    subst q
    rw [z] at e
    cases e
  have modl : Mod K mg (hidT t.heap H) := ⟨kin2, ns2 glob, ⟨mb, ns2 blt, blts⟩, by
    obtain ⟨mc, h1, h2⟩ := lim
    exact ⟨mc, ns2 h1, h2⟩⟩
  have env : Env0 P w K mg (hidT t.heap H) callerA [] t H := ⟨rfl, modl, fun _ _ e => of_hidT e, Nat.le_of_eq (hidT_size _ _), trivial, fun b q => (by cases (show b ∈ ([] : List Addr) from q)), hok, .of_eq gens⟩
  have got := (F _ kin2 (ns2 glob) (let ⟨mm, h⟩ := mods; ⟨mm, ns2 h⟩)).go callerA [] t H ⟨[.ref a], []⟩ [.ref a] [.ref a] _ _ rfl room env (bind t (.ref a)) (.cons rfl .nil) (hsp H only scr)
  refine codeAny_mono got fun r t2 h => ?_
  match r, h with
  | .error e, h => exact h.elim
  | .ok .next, h => exact h.elim
  | .ok .brk, h => exact h.elim
  | .ok .cont, h => exact h.elim
  | .ok (.ret u), h =>
    obtain ⟨v, H2, os, bare, un, hok2, rel, q⟩ := h
    obtain rfl : v = .bl true := q
    obtain rfl : u = Value.bool true := rel
    refine ⟨rfl, OldK.of_keep fun b o e => ?_, os, bare⟩
    rcases only b with z | ⟨ob, xs, z⟩
    · exact un.keep b o e z (fun m => by cases (show b ∈ ([] : List Addr) from m)) (fun m => by cases m)
    · have e1 := (hok b _ z).1
      rw [e] at e1
      cases e1
      exact (hok2 b _ (un.frzs b _ _ z)).1
end
theorem walkG {l : PySem.W.OpenLaw} {n k : Nat} {q : Program} {loose : List Str} {XP : (Str → Option Value) → Heap → Prop} {YP : World → Heap → Prop} {d : DefRec} {x : Str} (hn : l.most = some n) (hn2 : n ≤ sizeLine) (hdf : d.params.defaults = []) (room : Room k callerA)
    (F : ∀ (w : World) (mg : Str → Option Value) (fa : Addr) (h : Heap), YP w h → h.Ns mainGlobals mg → mg d.name = some (.ref fa) → ∃ (K : PySem.W.Frag) (fd : FuncData) (sp : Sp), K.In h ∧ (∀ (t : Shared) (u : Value), BindsTo t fd ⟨[u], []⟩ [(x, u)]) ∧
      (∀ (H : Hp) (a : Addr) (ns : List Int), ns.length ≤ n → Only H → SqL K H a (ns.map V.int) → sp [.ref a] H (fun v _ => v = .bl true) fun _ _ _ => False) ∧ ∀ base : Heap, K.In base → base.Ns mainGlobals mg → (∃ mm, base.Ns sysModules mm) → FnG l.prog w K mg base CX0 k fa fd [x] sp)
    (alone : importsNone q = true) :
    PySem.W.WalkO q loose XP YP l.row.toRowW d [] (fun f vs => PySem.call f vs) := by
  apply Att.attach_call hn hdf
  intro w t0 t mg mb fa o pm cd doc a vs ns G Y _ _ _ hmg hobj hints hlen hg
  obtain ⟨K, fd, sp, inK, bind, hsp, ok⟩ := F w mg fa _ Y G.T.g hmg
  have mods : ∃ mm, t.heap.Ns sysModules mm := let ⟨mm, h, _⟩ := (G.T.seer alone).mods; ⟨mm, h⟩
  exact lawG inK G.T.g G.T.b G.T.builtins G.T.nolimit hg hobj hints (Nat.le_trans hlen hn2) room mods ok bind fun H only scr => hsp H a ns hlen only scr
end Kin
namespace Kin
open PySem PySem.Spec PyProof.Rows L2
/-- the tuple at a as it stands at each turn, each item in a new pair -/
def ItT (K : PySem.W.Frag) (a : Addr) : It :=
  ⟨fun i H => ∃ (xs : List V) (x : V), SqT K H a xs ∧ xs[i]? = some x, fun i H v H' => ∃ T x, v = .ref T ∧ H T = none ∧ H' = upd H T (.tup [.int (i : Nat), x]) ∧ ∀ xs, SqT K H a xs → xs[i]? = some x, fun i H => ∃ xs : List V, SqT K H a xs ∧ xs.length = i⟩
theorem turn_enumT {P : Program} {w : World} {K : PySem.W.Frag} {elts : List Expr} {kk : Nat} {tpos : Pos} (a e it : Addr) (hai : a ≠ it) (hea : e ≠ a) (hei : e ≠ it) :
    Turn P w K (.Tuple elts kk tpos) (ItT K a) [e, it] e (fun i h => (∃ old, IsEnum h e it ((i : Nat) : Int) old) ∧ h.IsTupleIter it a i) where
  mem := by simp
  obj := fun i h st b hb => by
    obtain ⟨⟨old, he⟩, ⟨o, ho, hc, hd⟩⟩ := st
    have e' : b = e ∨ b = it := by simpa using hb
    rcases e' with z | z
    · rw [z]; exact ⟨_, he, fun v q => nomatch q⟩
    · rw [z]; exact ⟨o, ho, fun v q => by rw [hd] at q; cases q⟩
  keep := fun i h h' st k => let ⟨⟨old, he⟩, hi⟩ := st; ⟨⟨old, k e (by simp) _ he⟩, hi.at fun o q => k it (by simp) o q⟩
  item := by
    intro X hP hw hK hc i pins s σ H E I hf st hg
    subst hP hw hK
    obtain ⟨⟨old, he⟩, hit⟩ := st
    obtain ⟨xs, x, hq, hx⟩ := hg
    obtain ⟨its, rv, p, hz⟩ := I.tuple hq
    obtain ⟨u, hu, ru⟩ := rv.get hx
    have hel : e < s.heap.objs.size := Heap.lt_size he
    have hil : it < s.heap.objs.size := by obtain ⟨_, q, _⟩ := hit; exact Heap.lt_size q
    have hlt : i < its.toArray.size := by
      have := (List.getElem?_eq_some_iff.mp hu).1
      simpa using this
    have D := Draws.tuple (prog := X.prog) (w := X.w) (A := X.A.in1) (I.ok.hd hc) it a hai its.toArray
    refine wpAny_pyNext_enum_itemD D he ⟨hit, p⟩ hlt hei (by simp [hei, hea]) fun x' h' tk hPx ho hit' hT hsz hk => ?_
    have ex' : x' = u := by
      have hPx : its.toArray[i]? = some x' := hPx
      have hu' : its.toArray[i]? = some u := by simpa using hu
      exact Option.some.inj (hPx.symm.trans hu')
    subst ex'
    refine ⟨_, rfl, wpAny_letOwnedTupleGo_enum (s := { s with heap := h', toks := tk + 1 }) ho fun h'' he' sb => ?_⟩
    have hT2 : h''.get? s.heap.objs.size = some { cls := .type "tuple", data := .seq #[.int i tk, x'] } := (sb.2 _ (Nat.ne_of_gt hel)).trans hT
    have new : ObjOk X.prog X.w (upd H s.heap.objs.size (.tup [.int (i : Nat), x])) h'' s.heap.objs.size (.tup [.int (i : Nat), x]) :=
      ⟨by show 2 ≤ sizeLine; decide, [.int i tk, x'], .cons ⟨_, rfl⟩ (.cons ru .nil), ⟨_, hT2, rfl, _, rfl⟩⟩
    have I1 : Inv X pins σ (upd H s.heap.objs.size (.tup [.int (i : Nat), x])) { s with heap := h'', toks := tk + 1 } :=
      I.turnedNew (ch := [e, it]) (fun b ob hb q => (sb.2 b (fun z => hb (by simp [z]))).trans (hk b ob (fun z => hb (by simp [z])) (fun z => hb (by simp [z])) q)) hf (Nat.le_refl _) new
    refine ⟨.ref s.heap.objs.size, _, I1, rfl, ⟨_, x, rfl, I.hok.fresh (Nat.le_refl _), rfl, fun ys hy => by rw [I.tuple_inj hy hq]; exact hx⟩, ⟨⟨x', ?_⟩, hit'.1.at fun o q => (sb.2 it (Ne.symm hei)).trans q⟩, fun b hb => ?_⟩
    · have e1 : ((i + 1 : Nat) : Int) = (i : Int) + 1 := by omega
      rw [e1]; exact he'
    · have hb' : b < s.heap.objs.size := by
        have e' : b = e ∨ b = it := by simpa using hb
        rcases e' with z | z
        · rw [z]; exact hel
        · rw [z]; exact hil
      rw [upd_ne (Nat.ne_of_lt hb')]
      exact (hf b hb).1
  done := by
    intro X hP hw hK hc i pins s σ H E I hf st hg
    subst hP hw hK
    obtain ⟨⟨old, he⟩, hit⟩ := st
    obtain ⟨xs, hq, hx⟩ := hg
    obtain ⟨its, rv, p, hz⟩ := I.tuple hq
    obtain ⟨f0, f1, f2, f3, f4, f5⟩ := hf it (by simp)
    have hl := rv.length
    have D := Draws.tuple (prog := X.prog) (w := X.w) (A := X.A.in1) (I.ok.hd hc) it a hai its.toArray
    have hi : i = its.toArray.size := by simp; omega
    subst hi
    exact wpAny_pyNext_enum_endD D he ⟨hit, p⟩ fun h' eb => ⟨rfl, I.turned (t' := s.toks) (fun b o hb q => eb b o hb q) f0 f1 f3 f4 f5⟩
  self := fun A i s Q E st h => let ⟨⟨_, he⟩, _⟩ := st; wpAny_pyIter_enum he h
def iEnumT (K : PySem.W.Frag) (ta : TA) : TI := fun σ H R => ta σ H fun vs H1 => ∃ a xs, vs = [.ref a] ∧ SqT K H1 a xs ∧ R (ItT K a) H1
theorem pi_enumT {X : Cx} {e : Expr} {ta : TA} {p pos tpos : Pos} {elts : List Expr} {kk : Nat} (hg : Gl X "enumerate") (hm : X.mg "enumerate" = none) (ha : PA X [e] ta) (hs : starEach [e] X.env = [(false, eval e X.env)] := by rfl) :
    PI X (.Tuple elts kk tpos) (.Call (.Name "enumerate" p) [e] [] pos) (iEnumT X.K ta) := by
  refine ⟨fun pins s σ H R I h => ?_⟩
  refine Call_ (ld_blt I hg hm boot_enumerate (PyProof.Rows.callWith_type1 (thn (ha.run pos pins s σ H _ I h) fun us s1 ⟨vs, H1, I1, r1, q1⟩ => ?_) hs rfl))
  obtain ⟨a, xs, ex, hq, q⟩ := q1
  subst ex
  cases r1 with
  | cons r rr =>
    cases rr
    cases r
    obtain ⟨its, rv, p', hz⟩ := I1.tuple hq
    have hal : a < s1.heap.objs.size := by obtain ⟨_, q, _⟩ := id p'; exact Heap.lt_size q
    refine call_enumT (show s1.heap.IsTuple a its.toArray from p') fun h' he hit hsz hk => wpAny_pyIter_enum he ?_
    have I2 : Inv X pins σ H1 { s1 with heap := h' } := I1.kept (t' := s1.toks) hk
    refine ⟨s1.heap.objs.size + 1, [s1.heap.objs.size + 1, s1.heap.objs.size], _, _, H1, rfl, I2, turn_enumT a (s1.heap.objs.size + 1) s1.heap.objs.size (Nat.ne_of_lt hal) (Nat.ne_of_gt (Nat.lt_succ_of_lt hal)) (Nat.succ_ne_self _), ⟨⟨.none, he⟩, hit⟩, fun b hb => ?_, q⟩
    have e' : b = s1.heap.objs.size + 1 ∨ b = s1.heap.objs.size := by simpa using hb
    have hle : s1.heap.objs.size ≤ b := by
      rcases e' with z | z
      · rw [z]; exact Nat.le_add_right _ _
      · rw [z]; exact Nat.le_refl _
    exact I1.fpOk hle (I1.hok.fresh hle)
theorem walk_enumT {K : PySem.W.Frag} {a : Addr} {xs : List V} : Walk (ItT K a) xs.length (fun H => SqT K H a xs) (YPair (fun i => some (.int (i : Nat))) (fun i => xs[i]?)) := by
  refine ⟨fun i _ hi q => ⟨xs, xs[i], q, by simp [hi]⟩, fun _ q => ⟨xs, q, rfl⟩, fun i H v H' _ q y => ?_⟩
  obtain ⟨T, x, h1, h2, h3, h4⟩ := y
  exact ⟨T, .int (i : Nat), x, h1, h2, h3, rfl, h4 xs q⟩
/-! ### d.update(d2) -/
def rUpdate : V → List V → Hp → VK → Prop := fun x vs H Q => ∃ (a b : Addr) (kvs more : List (Key × V)), x = .ref a ∧ vs = [.ref b] ∧ a ≠ b ∧ H a = some (.dK kvs) ∧ H b = some (.dK more) ∧ kvs.length + more.length ≤ 1000000 ∧ Q .non (upd H a (.dK (mergeK kvs more)))
theorem mt_update {X : Cx} : MtR X "dict.update" rUpdate := by
  intro pins s σ H x vs v us Q I rx rv h
  obtain ⟨a, b, kvs, more, ex, ev, hab, ea, eb, hl, q⟩ := h
  subst ex ev
  obtain rfl : v = Value.ref a := rx
  obtain ⟨u, eu, ru⟩ := vals1 rv
  subst eu
  obtain rfl : u = Value.ref b := ru
  obtain ⟨z, hd, ws, rel, dd⟩ := dk_of I.hok ea
  obtain ⟨z2, hd2, ws2, rel2, dd2⟩ := dk_of I.hok eb
  have l1 := rel.length
  have l2 := rel2.length
  have hsz : ws.length + ws2.length ≤ sizeLine := by
    rw [← l1, ← l2]
    exact Nat.le_trans hl (by decide)
  refine call_meetsIn PySem.F.slot_dict_update dd.typeIs PySem.F.entry_dict_update (PySem.F.args_dict_update_2 _ _) (meets_dict_update (mixKind X.prog X.w) a b hab hd2) ⟨ws, ws2, dd, dd2, hsz, fun h' dd' ddo hs => ?_⟩
  have he : ∃ q, h'.get? a = some q := let ⟨q, _, _, hq, _⟩ := dd'; ⟨q, hq⟩
  have hlen : (mergeK kvs more).length ≤ sizeLine := Nat.le_trans (length_mergeK more kvs) (Nat.le_trans hl (by decide))
  exact ⟨.non, _, d_write (t' := s.toks) I (by rw [ea]; exact True.intro) hs he (dk_new hlen hd (KV.merge rel2 rel) dd'), rfl, q⟩
end Kin
namespace Kin
open PySem
theorem lAll7_eq : ∀ ds : List PyData, lAll7 ds = ds.all fun d => pOne d sig7
  | [] => rfl
  | d :: r => by
    show (pOne d sig7 && lAll7 r) = _
    rw [lAll7_eq r]
    rfl
theorem lUp_all : ∀ l : List Nat, ((List.range (l.length - 1)).map fun i => decide (l[i]?.getD 0 < l[i + 1]?.getD 0)).all id = lUp l
  | [] => rfl
  | [_] => rfl
  | a :: b :: r => by
    have ih := lUp_all (b :: r)
    have e : lUp (a :: b :: r) = (decide (a < b) && lUp (b :: r)) := by
      conv => lhs; unfold lUp
    rw [e, ← ih]
    show ((List.range ((b :: r).length - 1 + 1)).map _).all id = _
    rw [List.range_succ_eq_map, List.map_cons, List.all_cons, List.map_map]
    rfl
theorem lParts_all (w : Str) (n : Int) : ∀ (ps : List PyData) (k : Nat), ((List.range ps.length).map fun i => (match ps[i]? with | some p => lPart w (k + i) p n | none => true)).all id = lParts w n k ps
  | [], _ => rfl
  | p :: ps, k => by
    rw [List.length_cons, List.range_succ_eq_map, List.map_cons, List.all_cons, List.map_map]
    have ih := lParts_all w n ps (k + 1)
    show (lPart w k p n && ((List.range ps.length).map fun i => (match ps[i]? with | some p => lPart w (k + (i + 1)) p n | none => true)).all id) = (lPart w k p n && lParts w n (k + 1) ps)
    rw [← ih]
    have e : (fun i => (match ps[i]? with | some p => lPart w (k + (i + 1)) p n | none => true)) = fun i => (match ps[i]? with | some p => lPart w (k + 1 + i) p n | none => true) := by
      funext i
      rw [show k + (i + 1) = k + 1 + i by omega]
    rw [e]
end Kin
namespace Kin
open PySem
theorem pp_title (d : PyData) (n : Int) : pPart "title" d n = pTitle d := by
  unfold pPart
  rw [if_pos rfl]
theorem pp_small (d : PyData) (n : Int) : pPart "small" d n = pSmall d := by
  unfold pPart
  rw [if_neg (by decide +kernel), if_pos rfl]
theorem pp_whole (d : PyData) (n : Int) : pPart "whole" d n = pWhole d := by
  unfold pPart
  rw [if_neg (by decide +kernel), if_neg (by decide +kernel), if_pos rfl]
theorem pp_truth (d : PyData) (n : Int) : pPart "truth" d n = isBool d := by
  unfold pPart
  rw [if_neg (by decide +kernel), if_neg (by decide +kernel), if_neg (by decide +kernel), if_pos rfl]
theorem pp_row (d : PyData) (n : Int) : pPart "row" d n = pRowNo d n := by
  unfold pPart
  rw [if_neg (by decide +kernel), if_neg (by decide +kernel), if_neg (by decide +kernel), if_neg (by decide +kernel), if_pos rfl]
theorem pp_signal (d : PyData) (n : Int) : pPart "signal" d n = pOne d sig9 := by
  unfold pPart
  rw [if_neg (by decide +kernel), if_neg (by decide +kernel), if_neg (by decide +kernel), if_neg (by decide +kernel), if_neg (by decide +kernel), if_pos rfl]
theorem pp_loose (d : PyData) (n : Int) : pPart "loose" d n = pLoose d := by
  unfold pPart
  rw [if_neg (by decide +kernel), if_neg (by decide +kernel), if_neg (by decide +kernel), if_neg (by decide +kernel), if_neg (by decide +kernel), if_neg (by decide +kernel), if_pos rfl]
theorem pp_signals (d : PyData) (n : Int) : pPart "signals" d n = pAre d := by
  unfold pPart
  rw [if_neg (by decide +kernel), if_neg (by decide +kernel), if_neg (by decide +kernel), if_neg (by decide +kernel), if_neg (by decide +kernel), if_neg (by decide +kernel), if_neg (by decide +kernel), if_pos rfl]
theorem pp_how (d : PyData) (n : Int) : pPart "how" d n = (pOne d ["plain", "ignore"] || pHandler d n) := by
  unfold pPart
  rw [if_neg (by decide +kernel), if_neg (by decide +kernel), if_neg (by decide +kernel), if_neg (by decide +kernel), if_neg (by decide +kernel), if_neg (by decide +kernel), if_neg (by decide +kernel), if_neg (by decide +kernel), if_pos rfl]
theorem pp_where (d : PyData) (n : Int) : pPart "where" d n = pOne d ["new", "mine"] := by
  unfold pPart
  rw [if_neg (by decide +kernel), if_neg (by decide +kernel), if_neg (by decide +kernel), if_neg (by decide +kernel), if_neg (by decide +kernel), if_neg (by decide +kernel), if_neg (by decide +kernel), if_neg (by decide +kernel), if_neg (by decide +kernel), if_pos rfl]
theorem pp_which (d : PyData) (n : Int) : pPart "which" d n = if pNat d = true then true else isNone d := by
  unfold pPart
  rw [if_neg (by decide +kernel), if_neg (by decide +kernel), if_neg (by decide +kernel), if_neg (by decide +kernel), if_neg (by decide +kernel), if_neg (by decide +kernel), if_neg (by decide +kernel), if_neg (by decide +kernel), if_neg (by decide +kernel), if_neg (by decide +kernel)]
  unfold pChild
  rw [if_pos (show ("which" : Str) = "which" from rfl)]
theorem pp_who (d : PyData) (n : Int) : pPart "who" d n = if pNat d = true then true else pOne d ["self"] := by
  unfold pPart
  rw [if_neg (by decide +kernel), if_neg (by decide +kernel), if_neg (by decide +kernel), if_neg (by decide +kernel), if_neg (by decide +kernel), if_neg (by decide +kernel), if_neg (by decide +kernel), if_neg (by decide +kernel), if_neg (by decide +kernel), if_neg (by decide +kernel)]
  unfold pChild
  rw [if_neg (show ¬ ("who" : Str) = "which" by decide +kernel), if_pos (show ("who" : Str) = "who" from rfl)]
theorem pp_to (d : PyData) (n : Int) : pPart "to" d n = if pNat d = true then true else pOne d ["self", "parent", "group"] := by
  unfold pPart
  rw [if_neg (by decide +kernel), if_neg (by decide +kernel), if_neg (by decide +kernel), if_neg (by decide +kernel), if_neg (by decide +kernel), if_neg (by decide +kernel), if_neg (by decide +kernel), if_neg (by decide +kernel), if_neg (by decide +kernel), if_neg (by decide +kernel)]
  unfold pChild
  rw [if_neg (show ¬ ("to" : Str) = "which" by decide +kernel), if_neg (show ¬ ("to" : Str) = "who" by decide +kernel)]
theorem lp_exec_0 (d : PyData) (n : Int) : lPart "exec" 0 d n = lTitle d := by
  unfold lPart
  rw [if_pos (by decide +kernel)]
theorem lp_end_0 (d : PyData) (n : Int) : lPart "end" 0 d n = lWhole d 0 100 := by
  unfold lPart
  rw [if_neg (by decide +kernel), if_pos (by decide +kernel)]
theorem lp_wait_0 (d : PyData) (n : Int) : lPart "wait" 0 d n = (isNone d || lWhole d 0 great) := by
  unfold lPart
  rw [if_neg (by decide +kernel), if_neg (by decide +kernel), if_pos (by decide +kernel), if_neg (by decide)]
theorem lp_wait_1 (d : PyData) (n : Int) : lPart "wait" 1 d n = isBool d := by
  unfold lPart
  rw [if_neg (by decide +kernel), if_neg (by decide +kernel), if_pos (by decide +kernel), if_pos rfl]
theorem lp_send_0 (d : PyData) (n : Int) : lPart "send" 0 d n = pOne d (sure ++ sig7) := by
  unfold lPart
  rw [if_neg (by decide +kernel), if_neg (by decide +kernel), if_neg (by decide +kernel), if_pos (by decide +kernel), if_pos rfl]
theorem lp_send_1 (d : PyData) (n : Int) : lPart "send" 1 d n = (lWhole d 0 great || pOne d ["self", "parent", "group"]) := by
  unfold lPart
  rw [if_neg (by decide +kernel), if_neg (by decide +kernel), if_neg (by decide +kernel), if_pos (by decide +kernel), if_neg (by decide)]
theorem lp_mask_0 (d : PyData) (n : Int) : lPart "mask" 0 d n = lAre d := by
  unfold lPart
  rw [if_neg (by decide +kernel), if_neg (by decide +kernel), if_neg (by decide +kernel), if_neg (by decide +kernel), if_pos (by decide +kernel)]
theorem lp_unmask_0 (d : PyData) (n : Int) : lPart "unmask" 0 d n = lAre d := by
  unfold lPart
  rw [if_neg (by decide +kernel), if_neg (by decide +kernel), if_neg (by decide +kernel), if_neg (by decide +kernel), if_pos (by decide +kernel)]
theorem lp_handle_0 (d : PyData) (n : Int) : lPart "handle" 0 d n = pOne d sig7 := by
  unfold lPart
  rw [if_neg (by decide +kernel), if_neg (by decide +kernel), if_neg (by decide +kernel), if_neg (by decide +kernel), if_neg (by decide +kernel), if_pos (by decide +kernel)]
theorem lp_handle_1 (d : PyData) (n : Int) : lPart "handle" 1 d n = (if isTup d = true then lHandler d n else pOne d ["plain", "ignore"]) := by
  unfold lPart
  rw [if_neg (by decide +kernel), if_neg (by decide +kernel), if_neg (by decide +kernel), if_neg (by decide +kernel), if_neg (by decide +kernel), if_neg (by decide +kernel), if_pos (by decide +kernel)]
theorem lp_group_0 (d : PyData) (n : Int) : lPart "group" 0 d n = (lWhole d 0 great || pOne d ["self"]) := by
  unfold lPart
  rw [if_neg (by decide +kernel), if_neg (by decide +kernel), if_neg (by decide +kernel), if_neg (by decide +kernel), if_neg (by decide +kernel), if_neg (by decide +kernel), if_neg (by decide +kernel), if_pos (by decide +kernel)]
theorem lp_group_1 (d : PyData) (n : Int) : lPart "group" 1 d n = pOne d ["new", "mine"] := by
  unfold lPart
  rw [if_neg (by decide +kernel), if_neg (by decide +kernel), if_neg (by decide +kernel), if_neg (by decide +kernel), if_neg (by decide +kernel), if_neg (by decide +kernel), if_neg (by decide +kernel), if_neg (by decide +kernel), if_pos (by decide +kernel)]
theorem lp_front_0 (d : PyData) (n : Int) : lPart "front" 0 d n = (lWhole d 0 great || pOne d ["self"]) := by
  unfold lPart
  rw [if_neg (by decide +kernel), if_neg (by decide +kernel), if_neg (by decide +kernel), if_neg (by decide +kernel), if_neg (by decide +kernel), if_neg (by decide +kernel), if_neg (by decide +kernel), if_pos (by decide +kernel)]
theorem lp_say_0 (d : PyData) (n : Int) : lPart "say" 0 d n = lWhole d 0 100 := by
  unfold lPart
  rw [if_neg (by decide +kernel), if_pos (by decide +kernel)]
theorem lp_goto_0 (d : PyData) (n : Int) : lPart "goto" 0 d n = lWhole d 0 n := by
  unfold lPart
  rw [if_neg (by decide +kernel), if_neg (by decide +kernel), if_neg (by decide +kernel), if_neg (by decide +kernel), if_neg (by decide +kernel), if_neg (by decide +kernel), if_neg (by decide +kernel), if_neg (by decide +kernel), if_neg (by decide +kernel), if_neg (by decide +kernel)]
theorem lp_iff_0 (d : PyData) (n : Int) : lPart "if" 0 d n = lWhole d (0 - great) great := by
  unfold lPart
  rw [if_neg (by decide +kernel), if_neg (by decide +kernel), if_neg (by decide +kernel), if_neg (by decide +kernel), if_neg (by decide +kernel), if_neg (by decide +kernel), if_neg (by decide +kernel), if_neg (by decide +kernel), if_neg (by decide +kernel), if_pos (by decide +kernel)]
theorem lp_iff_1 (d : PyData) (n : Int) : lPart "if" 1 d n = lWhole d 0 n := by
  unfold lPart
  rw [if_neg (by decide +kernel), if_neg (by decide +kernel), if_neg (by decide +kernel), if_neg (by decide +kernel), if_neg (by decide +kernel), if_neg (by decide +kernel), if_neg (by decide +kernel), if_neg (by decide +kernel), if_neg (by decide +kernel), if_neg (by decide +kernel)]
theorem sig_app (d : PyData) : pOne d sig9 = pOne d (sure ++ sig7) := rfl
theorem which_eq {d : PyData} (hb : bnd d = true) : (if pNat d = true then true else isNone d) = (isNone d || lWhole d 0 great) := by
  rw [nat_eq hb]
  cases lWhole d 0 great <;> cases isNone d <;> rfl
theorem to_eq {d : PyData} (hb : bnd d = true) : (if pNat d = true then true else pOne d ["self", "parent", "group"]) = (lWhole d 0 great || pOne d ["self", "parent", "group"]) := by
  rw [nat_eq hb]
  cases lWhole d 0 great <;> rfl
theorem who_eq {d : PyData} (hb : bnd d = true) : (if pNat d = true then true else pOne d ["self"]) = (lWhole d 0 great || pOne d ["self"]) := by
  rw [nat_eq hb]
  cases lWhole d 0 great <;> rfl
theorem e_exec_0 (n : Int) (d : PyData) (hb : bnd d = true) : pPart "title" d n = lPart "exec" 0 d n := by
  rw [pp_title, lp_exec_0]
  exact title_eq d
theorem e_end_0 (n : Int) (d : PyData) (hb : bnd d = true) : pPart "small" d n = lPart "end" 0 d n := by
  rw [pp_small, lp_end_0]
  exact small_eq d
theorem e_wait_0 (n : Int) (d : PyData) (hb : bnd d = true) : pPart "which" d n = lPart "wait" 0 d n := by
  rw [pp_which, lp_wait_0]
  exact which_eq hb
theorem e_wait_1 (n : Int) (d : PyData) (hb : bnd d = true) : pPart "truth" d n = lPart "wait" 1 d n := by
  rw [pp_truth, lp_wait_1]
theorem e_send_0 (n : Int) (d : PyData) (hb : bnd d = true) : pPart "signal" d n = lPart "send" 0 d n := by
  rw [pp_signal, lp_send_0]
  exact sig_app d
theorem e_send_1 (n : Int) (d : PyData) (hb : bnd d = true) : pPart "to" d n = lPart "send" 1 d n := by
  rw [pp_to, lp_send_1]
  exact to_eq hb
theorem e_mask_0 (n : Int) (d : PyData) (hb : bnd d = true) : pPart "signals" d n = lPart "mask" 0 d n := by
  rw [pp_signals, lp_mask_0]
  exact are_eq d
theorem e_unmask_0 (n : Int) (d : PyData) (hb : bnd d = true) : pPart "signals" d n = lPart "unmask" 0 d n := by
  rw [pp_signals, lp_unmask_0]
  exact are_eq d
theorem e_handle_0 (n : Int) (d : PyData) (hb : bnd d = true) : pPart "loose" d n = lPart "handle" 0 d n := by
  rw [pp_loose, lp_handle_0]
  exact pLoose_eq d
theorem e_handle_1 (n : Int) (d : PyData) (hb : bnd d = true) : pPart "how" d n = lPart "handle" 1 d n := by
  rw [pp_how, lp_handle_1]
  exact how_eq d n
theorem e_group_0 (n : Int) (d : PyData) (hb : bnd d = true) : pPart "who" d n = lPart "group" 0 d n := by
  rw [pp_who, lp_group_0]
  exact who_eq hb
theorem e_group_1 (n : Int) (d : PyData) (hb : bnd d = true) : pPart "where" d n = lPart "group" 1 d n := by
  rw [pp_where, lp_group_1]
theorem e_front_0 (n : Int) (d : PyData) (hb : bnd d = true) : pPart "who" d n = lPart "front" 0 d n := by
  rw [pp_who, lp_front_0]
  exact who_eq hb
theorem e_say_0 (n : Int) (d : PyData) (hb : bnd d = true) : pPart "small" d n = lPart "say" 0 d n := by
  rw [pp_small, lp_say_0]
  exact small_eq d
theorem e_goto_0 (n : Int) (d : PyData) (hb : bnd d = true) : pPart "row" d n = lPart "goto" 0 d n := by
  rw [pp_row, lp_goto_0]
  exact rowno_eq d n
theorem e_iff_0 (n : Int) (d : PyData) (hb : bnd d = true) : pPart "whole" d n = lPart "if" 0 d n := by
  rw [pp_whole, lp_iff_0]
  exact whole_eq hb
theorem e_iff_1 (n : Int) (d : PyData) (hb : bnd d = true) : pPart "row" d n = lPart "if" 1 d n := by
  rw [pp_row, lp_iff_1]
  exact rowno_eq d n
theorem row_eq (n : Int) (w : Str) (ps : List PyData) (hb : ps.all bnd = true) : pRow (.tuple (.str w :: ps)) n = lRow (.tuple (.str w :: ps)) n := by
  by_cases hw : w ∈ words18
  · have hz : w = "fork" ∨ w = "exec" ∨ w = "end" ∨ w = "wait" ∨ w = "pause" ∨ w = "read" ∨ w = "send" ∨ w = "mask" ∨ w = "unmask" ∨ w = "handle" ∨ w = "return" ∨ w = "session" ∨ w = "group" ∨ w = "front" ∨ w = "taker" ∨ w = "say" ∨ w = "goto" ∨ w = "if" := by simpa [words18] using hw
    rcases hz with rfl | rfl | rfl | rfl | rfl | rfl | rfl | rfl | rfl | rfl | rfl | rfl | rfl | rfl | rfl | rfl | rfl | rfl
    · exact row_of (ks := []) (m := 0) (by decide +kernel) (by decide +kernel) rfl (fun h => by rw [List.length_eq_zero_iff.mp h]; rfl)
    · exact row_of (ks := ["title"]) (m := 1) (by decide +kernel) (by decide +kernel) rfl (fun h => parts1 (e_exec_0 n) hb h)
    · exact row_of (ks := ["small"]) (m := 1) (by decide +kernel) (by decide +kernel) rfl (fun h => parts1 (e_end_0 n) hb h)
    · exact row_of (ks := ["which", "truth"]) (m := 2) (by decide +kernel) (by decide +kernel) rfl (fun h => parts2 (e_wait_0 n) (e_wait_1 n) hb h)
    · exact row_of (ks := []) (m := 0) (by decide +kernel) (by decide +kernel) rfl (fun h => by rw [List.length_eq_zero_iff.mp h]; rfl)
    · exact row_of (ks := []) (m := 0) (by decide +kernel) (by decide +kernel) rfl (fun h => by rw [List.length_eq_zero_iff.mp h]; rfl)
    · exact row_of (ks := ["signal", "to"]) (m := 2) (by decide +kernel) (by decide +kernel) rfl (fun h => parts2 (e_send_0 n) (e_send_1 n) hb h)
    · exact row_of (ks := ["signals"]) (m := 1) (by decide +kernel) (by decide +kernel) rfl (fun h => parts1 (e_mask_0 n) hb h)
    · exact row_of (ks := ["signals"]) (m := 1) (by decide +kernel) (by decide +kernel) rfl (fun h => parts1 (e_unmask_0 n) hb h)
    · exact row_of (ks := ["loose", "how"]) (m := 2) (by decide +kernel) (by decide +kernel) rfl (fun h => parts2 (e_handle_0 n) (e_handle_1 n) hb h)
    · exact row_of (ks := []) (m := 0) (by decide +kernel) (by decide +kernel) rfl (fun h => by rw [List.length_eq_zero_iff.mp h]; rfl)
    · exact row_of (ks := []) (m := 0) (by decide +kernel) (by decide +kernel) rfl (fun h => by rw [List.length_eq_zero_iff.mp h]; rfl)
    · exact row_of (ks := ["who", "where"]) (m := 2) (by decide +kernel) (by decide +kernel) rfl (fun h => parts2 (e_group_0 n) (e_group_1 n) hb h)
    · exact row_of (ks := ["who"]) (m := 1) (by decide +kernel) (by decide +kernel) rfl (fun h => parts1 (e_front_0 n) hb h)
    · exact row_of (ks := []) (m := 0) (by decide +kernel) (by decide +kernel) rfl (fun h => by rw [List.length_eq_zero_iff.mp h]; rfl)
    · exact row_of (ks := ["small"]) (m := 1) (by decide +kernel) (by decide +kernel) rfl (fun h => parts1 (e_say_0 n) hb h)
    · exact row_of (ks := ["row"]) (m := 1) (by decide +kernel) (by decide +kernel) rfl (fun h => parts1 (e_goto_0 n) hb h)
    · exact row_of (ks := ["whole", "row"]) (m := 2) (by decide +kernel) (by decide +kernel) rfl (fun h => parts2 (e_iff_0 n) (e_iff_1 n) hb h)
  · have h1 : forms.lookup w = none := lookup_none hw
    have h2 : many.lookup w = none := lookup_none fun q => hw (by
      have hs : ∀ z ∈ many.map (·.1), z ∈ words18 := by decide +kernel
      exact hs w q)
    show (match forms.lookup w with | some ks => decide (ps.length = ks.length) && pParts n ks ps | none => false) = (match many.lookup w with | some m => decide ((ps.length : Int) + 1 = 1 + m) && lParts w n 0 ps | none => false)
    rw [h1, h2]
theorem rows_agree (n : Int) (d : PyData) (hb : bndAll d = true) : pRow d n = lRow d n := by
  cases d with
  | tuple ds =>
    cases ds with
    | nil => rfl
    | cons a r =>
      cases a with
      | str w =>
        have hb : (bnd (.str w) && r.all bnd) = true := hb
        exact row_eq n w r (Bool.and_eq_true_iff.mp hb).2
      | _ => rfl
  | _ => rfl
end Kin
/-! Small rules for tests, common to the law's own looks and to what it draws. -/
namespace Kin
open PySem PySem.Spec PyProof.Rows L2
section
variable {K : PySem.W.Frag}
theorem dec_at {i : Nat} {j : Nat} : decide (V.int (i : Int) = V.int (j : Int)) = decide (i = j) := by
  rw [dec_int']
  by_cases h : i = j
  · rw [decide_eq_true h, decide_eq_true (by omega)]
  · rw [decide_eq_false h, decide_eq_false (by omega)]
theorem ite_in {z : Str} {ws : List Str} {A B : Prop} (h1 : z ∈ ws → A) (h2 : ¬ z ∈ ws → B) : if inV (.str z) (ws.map V.str) = true then A else B := by
  rw [inV_strs]
  exact ite2 (fun e => h1 (of_decide_eq_true e)) (fun e => h2 fun q => e (decide_eq_true q))
theorem ite_at {i j : Nat} {A B : Prop} (h1 : i = j → A) (h2 : ¬ i = j → B) : if decide (V.int (i : Int) = V.int (j : Int)) = true then A else B := by
  rw [dec_at]
  exact ite2 (fun e => h1 (of_decide_eq_true e)) (fun e => h2 fun q => e (decide_eq_true q))
theorem non_dec {H : Hp} {x : V} {d : PyData} (h : Dp K H x d) : decide (x = V.non) = isNone d := by cases h <;> rfl
theorem ite_at' {i j : Nat} {A B : Prop} (h : if decide (i = j) = true then A else B) : if decide (V.int (i : Int) = V.int (j : Int)) = true then A else B := by
  rw [dec_at]
  exact h
theorem and_at {c : Bool} {P1 P2 : Prop} [Decidable P1] [Decidable P2] {A B M N : Prop} (hc : c = decide P1) (hN : B → N) (hM : (if decide P2 = true then A else B) → M) (h1 : P1 ∧ P2 → A) (h2 : ¬ (P1 ∧ P2) → B) : if c = true then M else N := by
  subst hc
  by_cases p1 : P1
  · rw [if_pos (decide_eq_true p1)]
    apply hM
    by_cases p2 : P2
    · rw [if_pos (decide_eq_true p2)]
      exact h1 ⟨p1, p2⟩
    · rw [if_neg (fun z => p2 (of_decide_eq_true z))]
      exact h2 fun z => p2 z.2
  · rw [if_neg (fun z => p1 (of_decide_eq_true z))]
    exact hN (h2 fun z => p1 z.1)
theorem isTup_isa (d : PyData) : isaTup d = isTup d := by cases d <;> rfl
theorem sing {H : Hp} {z : Str} (ws : List Str) (hz : z ∈ ws) : True := True.intro
end
end Kin
/-! The hand that a law draws from: a list of a list of cells and a seed. What stands beside it stays. -/
namespace Kin
open PySem PySem.Spec PyProof.Rows L2
def bigM : Int := 2305843009213693951
/-- x: the hand, l: its cells, n of them -/
structure HandN (n : Nat) (x l : Addr) (H : Hp) : Prop where
  ex : ∃ (cells : List Int) (seed : Int), H x = some (.lst [.ref l, .int seed]) ∧ H l = some (.lst (cells.map V.int)) ∧ 0 ≤ seed ∧ seed < bigM ∧ (∀ c ∈ cells, 0 ≤ c) ∧ cells.length = n
  ne : x ≠ l
def Hand (x l : Addr) (H : Hp) : Prop := ∃ n, n ≤ 63 ∧ HandN n x l H
/-- all but the hand is kept -/
def Off (x l : Addr) (H H' : Hp) : Prop := ∀ b o, b ≠ x → b ≠ l → H b = some o → H' b = some o
/-- what stands beside the hand -/
def off (x l : Addr) (H : Hp) : Hp := fun b => if b = x ∨ b = l then none else H b
section
variable {x l : Addr} {H H1 H2 : Hp} {n : Nat}
theorem Off.refl : Off x l H H := fun _ _ _ _ h => h
theorem Off.trans (a : Off x l H H1) (b : Off x l H1 H2) : Off x l H H2 := fun c o h1 h2 e => b c o h1 h2 (a c o h1 h2 e)
theorem Off.of (a : Same H H1) : Off x l H H1 := fun c o _ _ e => a c o e
theorem off_some {b : Addr} {o : HO} : off x l H b = some o ↔ b ≠ x ∧ b ≠ l ∧ H b = some o := by
  unfold off
  by_cases h : b = x ∨ b = l
  · rw [if_pos h]
    constructor
    · intro q
      cases q
    · rintro ⟨h1, h2, _⟩
      rcases h with h | h
      · exact absurd h h1
      · exact absurd h h2
  · rw [if_neg h]
    exact ⟨fun q => ⟨fun z => h (.inl z), fun z => h (.inr z), q⟩, fun q => q.2.2⟩
theorem off_at {b : Addr} {o : HO} (h1 : b ≠ x) (h2 : b ≠ l) (h : H b = some o) : off x l H b = some o := off_some.mpr ⟨h1, h2, h⟩
theorem Off.same (a : Off x l H H1) : Same (off x l H) (off x l H1) := fun b o e => by
  obtain ⟨h1, h2, h3⟩ := off_some.mp e
  exact off_at h1 h2 (a b o h1 h2 h3)
theorem off_sub : Same (off x l H) H := fun b o e => (off_some.mp e).2.2
theorem HandN.cx (h : HandN n x l H) : ∃ o, H x = some o := let ⟨_, _, h1, _⟩ := h.ex; ⟨_, h1⟩
theorem HandN.cl (h : HandN n x l H) : ∃ o, H l = some o := let ⟨_, _, _, h1, _⟩ := h.ex; ⟨_, h1⟩
theorem Hand.nx (h : Hand x l H) {p : Addr} (hp : H p = none) : p ≠ x ∧ p ≠ l := by
  obtain ⟨n, _, hN⟩ := h
  obtain ⟨o, ho⟩ := hN.cx
  obtain ⟨o2, ho2⟩ := hN.cl
  exact ⟨(ne_of_none ho hp).symm, (ne_of_none ho2 hp).symm⟩
theorem HandN.same (h : HandN n x l H) (s : Same H H1) : HandN n x l H1 := by
  obtain ⟨cells, seed, h1, h2, h3⟩ := h.ex
  exact ⟨⟨cells, seed, s _ _ h1, s _ _ h2, h3⟩, h.ne⟩
theorem Hand.same (h : Hand x l H) (s : Same H H1) : Hand x l H1 := let ⟨n, hn, hN⟩ := h; ⟨n, hn, hN.same s⟩
end
theorem dp_off {K : PySem.W.Frag} {x l : Addr} {H : Hp} {v : V} {d : PyData} (h : Dp K (off x l H) v d) : Dp K H v d := dp_mono off_sub h
/-! ### promises of the drawing defs -/
def spHand (K : PySem.W.Frag) : Sp := fun vs H Q _ => ∃ (a : Addr) (ns : List Int), vs = [.ref a] ∧ SqL K H a (ns.map V.int) ∧ ns.length ≤ 63 ∧ ∀ x l H', Same H H' → H x = none → H l = none → Hand x l H' → Q (.ref x) H'
def spPick : Sp := fun vs H Q _ => ∃ (x l : Addr) (many : Int), vs = [.ref x, .int many] ∧ Hand x l H ∧ 0 < many ∧ many ≤ 1000000000 ∧ ∀ k H', 0 ≤ k → k < many → Hand x l H' → Off x l H H' → Q (.int k) H'
/-- of a list or a tuple that stands beside the hand, of a text -/
def spOf (K : PySem.W.Frag) : Sp := fun vs H Q _ => ∃ (x l : Addr) (s : V), vs = [.ref x, s] ∧ Hand x l H ∧
  ((∃ (a : Addr) (xs : List V), s = .ref a ∧ (SqL K (off x l H) a xs ∨ SqT K (off x l H) a xs) ∧ 0 < xs.length ∧ xs.length ≤ 1000 ∧ ∀ v H', v ∈ xs → Hand x l H' → Off x l H H' → Q v H') ∨
   (∃ z : Str, s = .str z ∧ 0 < z.length ∧ z.length ≤ 1000 ∧ ∀ c H', c ∈ z.cps.toList → Hand x l H' → Off x l H H' → Q (.str ⟨#[c]⟩) H'))
def spSignals : Sp := fun vs H Q _ => ∃ x l : Addr, vs = [.ref x] ∧ Hand x l H ∧ ∀ p (ss : List Str) H', ss.Sublist sig7 → H p = none → Hand x l H' → Off x l H H' → H' p = some (.tup (ss.map V.str)) → Q (.ref p) H'
theorem shaped_ints (cells : List Int) : SeqAt.shaped (.list (cells.map PyData.int)) = true := by
  have h1 : PyData.canLayAll0 (cells.map PyData.int) = true := by
    induction cells with
    | nil => rfl
    | cons c r ih =>
      rw [List.map_cons, PyData.canLayAll0, ih]
      rfl
  have h2 : PyData.depthAll (cells.map PyData.int) = 0 := by
    induction cells with
    | nil => rfl
    | cons c r ih =>
      rw [List.map_cons, PyData.depthAll, ih (by
        rw [List.map_cons, PyData.canLayAll0] at h1
        exact (Bool.and_eq_true_iff.mp h1).2)]
      rfl
  unfold SeqAt.shaped
  rw [PyData.canLay0, PyData.depth, h1, h2]
  rfl
theorem dp_ints {K : PySem.W.Frag} {H : Hp} (cells : List Int) : DpAll K H (cells.map V.int) (cells.map PyData.int) := by
  induction cells with
  | nil => exact .nil
  | cons c r ih => exact .cons (.int c) ih
theorem eqv_lnil (ds : List PyData) : PyData.eqv (.list ds) (.list []) = ds.isEmpty := by
  cases ds with
  | nil => simp [PyData.eqv, PyData.eqvAll]
  | cons a r => simp [PyData.eqv, PyData.eqvAll]
end Kin
/-! Data that are nice; rows that are right. -/
namespace Kin
open PySem PySem.Spec PyProof.Rows L2
def near : PyData → Bool
  | .int i => decide (-1000000000 ≤ i) && decide (i ≤ 1000000000)
  | _ => true
def nearAll : PyData → Bool
  | .tuple ds => ds.all near
  | _ => true
def nice (d : PyData) : Bool := near d && (bnd d && (lenOk d && (d.canLay0 && decide (d.depth ≤ 3))))
theorem nice_of {d : PyData} (h : nice d = true) : bnd d = true ∧ lenOk d = true ∧ d.canLay0 = true ∧ d.depth ≤ 3 := by
  unfold nice at h
  simp only [Bool.and_eq_true, decide_eq_true_eq] at h
  exact h.2
theorem nice_near {ds : List PyData} (h : ds.all nice = true) : ds.all near = true := by
  rw [List.all_eq_true] at h ⊢
  intro d hd
  have := h d hd
  unfold nice at this
  exact (Bool.and_eq_true_iff.mp this).1
theorem nice_all : ∀ {ds : List PyData}, ds.all nice = true → ds.all bnd = true ∧ lenAll ds = true ∧ PyData.canLayAll0 ds = true ∧ PyData.depthAll ds ≤ 3
  | [], _ => ⟨rfl, by rw [lenAll], by rw [PyData.canLayAll0], by rw [PyData.depthAll]; decide⟩
  | d :: r, h => by
    rw [List.all_cons] at h
    obtain ⟨h1, h2⟩ := Bool.and_eq_true_iff.mp h
    obtain ⟨a1, a2, a3, a4⟩ := nice_of h1
    obtain ⟨b1, b2, b3, b4⟩ := nice_all h2
    refine ⟨?_, ?_, ?_, ?_⟩
    · rw [List.all_cons, a1, b1]; rfl
    · rw [lenAll, a2, b2]; rfl
    · rw [PyData.canLayAll0, a3, b3]; rfl
    · rw [PyData.depthAll]
      omega
/-- a tuple (or list) of nice things: fine for both looks -/
def fit (d : PyData) : Prop := bndAll d = true ∧ lenOk d = true ∧ SeqAt.shaped d = true
theorem fit_tup {ds : List PyData} (h : ds.all nice = true) (hl : ds.length ≤ 1000) : fit (.tuple ds) := by
  obtain ⟨b1, b2, b3, b4⟩ := nice_all h
  refine ⟨b1, ?_, ?_⟩
  · rw [lenOk, b2, decide_eq_true (show ds.length ≤ 1000000 by omega)]; rfl
  · unfold SeqAt.shaped
    rw [PyData.canLay0, PyData.depth, b3, decide_eq_true (show PyData.depthAll ds + 1 ≤ 64 by omega)]; rfl
theorem fit_list {ds : List PyData} (h : ds.all nice = true) (hl : ds.length ≤ 1000) : fit (.list ds) := by
  obtain ⟨b1, b2, b3, b4⟩ := nice_all h
  refine ⟨rfl, ?_, ?_⟩
  · rw [lenOk, b2, decide_eq_true (show ds.length ≤ 1000000 by omega)]; rfl
  · unfold SeqAt.shaped
    rw [PyData.canLay0, PyData.depth, b3, decide_eq_true (show PyData.depthAll ds + 1 ≤ 64 by omega)]; rfl
theorem nice_int {i : Int} (h0 : -1000000000 ≤ i) (h1 : i ≤ 1000000000) : nice (.int i) = true := by
  unfold nice
  rw [show near (.int i) = true by
    show (decide (-1000000000 ≤ i) && decide (i ≤ 1000000000)) = true
    rw [decide_eq_true h0, decide_eq_true h1]
    rfl, show bnd (.int i) = true by
    show (decide (0 - great ≤ i) && decide (i < great)) = true
    rw [decide_eq_true (show 0 - great ≤ i by unfold great; omega), decide_eq_true (show i < great by unfold great; omega)]
    rfl, lenOk, PyData.canLay0, PyData.depth]
  rfl
theorem nice_bool (b : Bool) : nice (.bool b) = true := by
  unfold nice
  rw [lenOk, PyData.canLay0, PyData.depth]
  rfl
theorem nice_none : nice .none = true := by
  unfold nice
  rw [lenOk, PyData.canLay0, PyData.depth]
  rfl
theorem nice_str {z : Str} (h : z.length ≤ 1000) (hz : PyData.strOk z = true) : nice (.str z) = true := by
  unfold nice
  rw [lenOk, PyData.canLay0, PyData.depth, hz, decide_eq_true (show z.length ≤ 1000000 by omega)]
  rfl
theorem nice_tup {ds : List PyData} (h : ds.all (fun d => nice d && decide (d.depth ≤ 2)) = true) (hl : ds.length ≤ 1000) : nice (.tuple ds) = true := by
  have h1 : ds.all nice = true := by
    rw [List.all_eq_true] at h ⊢
    intro d hd
    exact (Bool.and_eq_true_iff.mp (h d hd)).1
  obtain ⟨b1, b2, b3, b4⟩ := nice_all h1
  have h2 : PyData.depthAll ds ≤ 2 := by
    clear h1 b1 b2 b3 b4 hl
    induction ds with
    | nil => rw [PyData.depthAll]; decide
    | cons d r ih =>
      rw [List.all_cons] at h
      obtain ⟨h3, h4⟩ := Bool.and_eq_true_iff.mp h
      have h5 := of_decide_eq_true (Bool.and_eq_true_iff.mp h3).2
      have h6 := ih h4
      rw [PyData.depthAll]
      omega
  unfold nice
  rw [lenOk, PyData.canLay0, PyData.depth, b2, b3, decide_eq_true (show ds.length ≤ 1000000 by omega), decide_eq_true (show PyData.depthAll ds + 1 ≤ 3 by omega)]
  rfl
theorem nice_list {ds : List PyData} (h : ds.all (fun d => nice d && decide (d.depth ≤ 2)) = true) (hl : ds.length ≤ 1000) : nice (.list ds) = true := by
  have h0 := nice_of (nice_tup h hl)
  have h1 : lenOk (.list ds) = true := by
    have := h0.2.1
    rw [lenOk] at this
    rw [lenOk]
    exact this
  have h2 : PyData.canLay0 (.list ds) = true := by
    have := h0.2.2.1
    rw [PyData.canLay0] at this
    rw [PyData.canLay0]
    exact this
  have h3 : PyData.depth (.list ds) ≤ 3 := by
    have := h0.2.2.2
    rw [PyData.depth] at this
    rw [PyData.depth]
    exact this
  unfold nice
  rw [h1, h2, decide_eq_true h3]
  rfl
theorem row0_true {w : Str} {n : Int} (hf : forms.lookup w = some []) : pRow (.tuple [.str w]) n = true := by
  show (match forms.lookup w with | some ks => decide (([] : List PyData).length = ks.length) && pParts n ks [] | none => false) = true
  rw [hf]
  rfl
theorem row1_true {w k : Str} {n : Int} {d : PyData} (hf : forms.lookup w = some [k]) (h : pPart k d n = true) : pRow (.tuple [.str w, d]) n = true := by
  show (match forms.lookup w with | some ks => decide (([d] : List PyData).length = ks.length) && pParts n ks [d] | none => false) = true
  rw [hf]
  show (true && (pPart k d n && true)) = true
  rw [h]
  rfl
theorem row2_true {w k k2 : Str} {n : Int} {d d2 : PyData} (hf : forms.lookup w = some [k, k2]) (h : pPart k d n = true) (h2 : pPart k2 d2 n = true) : pRow (.tuple [.str w, d, d2]) n = true := by
  show (match forms.lookup w with | some ks => decide (([d, d2] : List PyData).length = ks.length) && pParts n ks [d, d2] | none => false) = true
  rw [hf]
  show (true && (pPart k d n && (pPart k2 d2 n && true))) = true
  rw [h, h2]
  rfl
def subs : List Str → List (List Str)
  | [] => [[]]
  | a :: r => subs r ++ (subs r).map (a :: ·)
theorem mem_subs {ss l : List Str} (h : ss.Sublist l) : ss ∈ subs l := by
  induction h with
  | slnil => exact List.mem_singleton.mpr rfl
  | cons a _ ih => exact List.mem_append_left _ ih
  | cons_cons a _ ih => exact List.mem_append_right _ (List.mem_map.mpr ⟨_, ih, rfl⟩)
theorem sub_up {ss : List Str} (hs : ss.Sublist sig7) : pAre (.tuple (ss.map PyData.str)) = true := by
  have h : ∀ ss ∈ subs sig7, pAre (.tuple (ss.map PyData.str)) = true := by decide +kernel
  exact h ss (mem_subs hs)
theorem sub_nice {ss : List Str} (hs : ss.Sublist sig7) : nice (.tuple (ss.map PyData.str)) = true ∧ PyData.depth (.tuple (ss.map PyData.str)) ≤ 1 := by
  have h : ∀ ss ∈ subs sig7, (nice (.tuple (ss.map PyData.str)) && decide (PyData.depth (.tuple (ss.map PyData.str)) ≤ 1)) = true := by decide +kernel
  have h2 := Bool.and_eq_true_iff.mp (h ss (mem_subs hs))
  exact ⟨h2.1, of_decide_eq_true h2.2⟩
end Kin
namespace HT
open PySem PySem.Spec PyProof.Rows L2
section
variable {prog : Program} {w : World} {A : Around} {E : Value → Shared → Prop} {s : Shared}
theorem places_back (n : Nat) : Builtin.Slice.slicePlaces ((n : Int) - 1) (-1) (-1) = n := by
  unfold Builtin.Slice.slicePlaces
  rw [if_neg (by decide)]
  by_cases h : (n : Int) - 1 > -1
  · rw [if_pos h]
    have e : ((n : Int) - 1 - -1 - 1) / - -1 + 1 = (n : Int) := by
      have : (- -1 : Int) = 1 := by decide
      rw [this, Int.ediv_one]
      omega
    rw [e]
    omega
  · rw [if_neg h]
    omega
theorem fm_congr {α β : Type} {f g : α → Option β} : ∀ {l : List α}, (∀ a ∈ l, f a = g a) → l.filterMap f = l.filterMap g
  | [], _ => rfl
  | a :: r, h => by
    rw [List.filterMap_cons, List.filterMap_cons, h a (by simp), fm_congr fun b hb => h b (by simp [hb])]
theorem pick_back (xs : Array Value) : ((List.range xs.size).filterMap fun (m : Nat) => xs[(((xs.size : Int) - 1) + (m : Int) * -1).toNat]?).toArray = xs.toList.reverse.toArray := by
  congr 1
  have e : (List.range xs.size).filterMap (fun (m : Nat) => xs[(((xs.size : Int) - 1) + (m : Int) * -1).toNat]?) = (List.range xs.size).filterMap (fun m => xs.toList.reverse[m]?) := by
    apply fm_congr
    intro m hm
    have hm : m < xs.size := List.mem_range.mp hm
    have e1 : (((xs.size : Int) - 1) + (m : Int) * -1).toNat = xs.size - 1 - m := by omega
    rw [e1, List.getElem?_reverse (by simpa using hm), ← Array.getElem?_toList, Array.length_toList]
  rw [e]
  have hl : xs.size = xs.toList.reverse.length := by simp
  rw [hl]
  generalize xs.toList.reverse = l
  apply List.ext_getElem?
  intro i
  have h2 : (List.range l.length).filterMap (fun m => l[m]?) = l := by
    induction l with
    | nil => rfl
    | cons a r ih =>
      rw [List.length_cons, List.range_succ_eq_map, List.filterMap_cons, List.filterMap_map]
      show a :: (List.range r.length).filterMap (fun m => r[m]?) = _
      rw [ih]
  rw [h2]
theorem sliceApplied_back {sl : Addr} {t : Tok} {n : Nat} {Q : Int × Int × Nat → Shared → Prop} (hs : s.heap.IsSliceOf sl .none .none (.int (-1) t))
    (h : Q ((n : Int) - 1, -1, n) s) : wpAny (model prog w) A (Builtin.Slice.sliceApplied (.ref sl) (pure (n : Int))) Q E s := by
  obtain ⟨os, hos, hcs, hds⟩ := id hs
  unfold Builtin.Slice.sliceApplied Builtin.Slice.sliceFields
  refine wpAny_bind (wpAny_bind (wpAny_field hos hds (x := .none) rfl (wpAny_bind (wpAny_field hos hds (x := .none) rfl (wpAny_bind (wpAny_field hos hds (x := .int (-1) t) rfl (wpAny_pure ?_)))))))
  refine wpAny_bind (slicePart_int ?_)
  show wpAny _ _ (if ((-1 : Int) == 0) = true then _ else _) _ _ s
  rw [if_neg (by decide)]
  refine wpAny_bind (slicePart_none (wpAny_bind (slicePart_none (wpAny_bind (wpAny_pure ?_)))))
  show wpAny _ _ (pure ((n : Int) - 1, (-1 : Int), Builtin.Slice.slicePlaces ((n : Int) - 1) (-1) (-1))) _ _ s
  rw [places_back]
  exact wpAny_pure h
theorem getItem_tuple_back {a sl : Addr} {items : Array Value} {t : Tok} {Q : Value → Shared → Prop} (ht : IsTup s.heap a items) (hs : s.heap.IsSliceOf sl .none .none (.int (-1) t))
    (h : Q (.ref s.heap.objs.size) { s with heap := s.heap.push { cls := .type "tuple", data := .seq items.toList.reverse.toArray } })
    (hsz : items.size ≤ sizeLine) : wpAny (model prog w) A (getItem (.ref a) (.ref sl)) Q E s := by
  have htake : sizeOk (.seq items.toList.reverse.toArray) := by
    show items.toList.reverse.toArray.size ≤ sizeLine
    rw [List.size_toArray, List.length_reverse, Array.length_toList]
    exact hsz
  obtain ⟨os, hos, hcs, hds⟩ := id hs
  have hTs : s.TypeIs (.ref sl) "slice" := ⟨os, hos, hcs⟩
  unfold getItem
  try with_reducible refine wpAny_holding ?_
  first | refine wpAny_bind (wpAny_pure ?_) | skip
  refine wpAny_bind (wpAny_sequenceKey ht.typeIs (by decide) ?_)
  refine wpAny_bind (wpAny_callSpecial?_slot (name := Str.ofString "__getitem__") ht.typeIs PyProof.Rows.slot_tuple_getitem
    (wpAny_call_entry PyProof.Rows.slot_tuple_getitem ht.typeIs entry_tuple_getitem ?_ (args_tuple_getitem _ _)))
  show wpAny _ _ (Builtin.Tuple.tupleItemsOf (.ref a) >>= _) _ _ s
  refine wpAny_bind (tupleItemsOf_ ht ?_)
  refine wpAny_bind (wpAny_typeOf hTs ?_)
  rw [if_pos (by decide)]
  refine wpAny_bind (sliceApplied_back hs ?_)
  have hno : ¬ ((((items.size : Int) - 1 == 0) && (-1 : Int) == 1 && items.size == items.size) = true) := by
    intro q
    rw [Bool.and_eq_true, Bool.and_eq_true] at q
    exact absurd (eq_of_beq q.1.2) (by decide)
  show wpAny _ _ (if (((items.size : Int) - 1 == 0) && (-1 : Int) == 1 && items.size == items.size) = true then _ else _) _ _ s
  rw [if_neg hno, pick_back]
  first
    | exact wpAny_bind (m := Builtin.Tuple.tupleExact _) (wpAny_newObj_type (wpAny_pure ⟨_, rfl, wpAny_pure h⟩) htake)
    | exact wpAny_bind (m := Builtin.Tuple.tupleExact _) (wpAny_newObj_type (wpAny_bind (wpAny_pure (wpAny_pure ⟨_, rfl, wpAny_pure h⟩))) htake)
    | exact wpAny_bind (wpAny_bind (m := Builtin.Tuple.tupleExact _) (wpAny_newObj_type (wpAny_pure (wpAny_pure ⟨_, rfl, wpAny_pure h⟩)) htake))
    | exact wpAny_bind (wpAny_bind (m := Builtin.Tuple.tupleExact _) (wpAny_newObj_type (wpAny_pure ⟨_, rfl, wpAny_pure h⟩) htake))
end
end HT
namespace Kin
open PySem PySem.Spec PyProof.Rows L2
section
variable {X : Cx}
def tRevT (K : PySem.W.Frag) (te : TE) : TE := fun σ H Q => te σ H fun x H1 => ∃ a xs, x = .ref a ∧ SqT K H1 a xs ∧ ∀ p, H1 p = none → Q (.ref p) (upd H1 p (.tup xs.reverse))
theorem pe_revT {e : Expr} {te : TE} {k : Nat} {p1 p2 p3 pos : Pos} (he : PE X e te) : PE X (.Subscript e (.Slice none none (some (.UnaryOp .USub (.Constant (.int 1) k p1) p2)) p3) pos) (tRevT X.K te) := by
  refine ⟨fun pins s σ H Q I h => ?_⟩
  refine Subscript_ (thn (he.run pins s σ H _ I h) fun v s1 ⟨x, H1, I1, r1, q1⟩ => ?_)
  obtain ⟨a, xs, ex, hx, q⟩ := q1
  subst ex
  cases r1
  have hst : PO X (some (.UnaryOp .USub (.Constant (.int 1) k p1) p2)) (tPart (tUn (rU fun i => .int (-i)) (tC (.int 1)))) := po_some (pe_un un_neg pe_int)
  refine wpAny_Slice (thn (po_none.run pins s1 σ H1 (fun o H2 => o = none ∧ H2 = H1) I1 ⟨rfl, rfl⟩) fun vl s2 ⟨l, H2, I2, pl, el, e2⟩ => ?_)
  subst el e2
  refine thn (po_none.run pins s2 σ H2 (fun o H3 => o = none ∧ H3 = H2) I2 ⟨rfl, rfl⟩) fun vu s3 ⟨u, H3, I3, pu, eu, e3⟩ => ?_
  subst eu e3
  refine thn (hst.run pins s3 σ H3 (fun o H4 => o = some (-1) ∧ H4 = H3) I3 ⟨1, rfl, -1, rfl, rfl, rfl⟩) fun vs s4 ⟨o, H4, I4, ps, eo, e4⟩ => ?_
  subst eo e4
  cases pl
  cases pu
  cases ps with
  | int _ tk =>
  have I5 : Inv X pins σ H4 { s4 with heap := s4.heap.push { cls := .type "slice", data := .fields #[.none, .none, .int (-1) tk] } } := I4.kept (t' := s4.toks) fun b ob q => Heap.get?_push_of_some _ q
  obtain ⟨its, r, ht, hz⟩ := I5.tuple hx
  have hlen := r.length
  show wpAny (model X.prog X.w) X.A (subscriptTail e (.Slice none none (some (.UnaryOp .USub (.Constant (.int 1) k p1) p2)) p3) (.ref a) (.ref s4.heap.objs.size)) (EP X pins σ Q) X.xe { s4 with heap := s4.heap.push { cls := .type "slice", data := .fields #[.none, .none, .int (-1) tk] } }
  refine tail_any (ops := [.ref a, .ref s4.heap.objs.size]) ht.typeIs (PyProof.Rows.slot_tuple_getitem.lookup) ?_ (by with_unfolding_all rfl)
  refine HT.getItem_tuple_back ht (Heap.IsSliceOf.new _ .none .none (.int (-1) tk)) ?_ (by rw [List.size_toArray]; omega)
  refine ⟨.ref _, _, I5.laid (t' := s4.toks) (o := .tup xs.reverse) (fun b ob q => Heap.get?_push_of_some _ q) (Nat.le_refl _) ?_, rfl, q _ (I5.hok.fresh (Nat.le_refl _))⟩
  exact ⟨by rw [List.length_reverse]; exact hz, _, r.reverse, IsTup.new _ _⟩
end
/-! ### comprehensions of data -/
section
variable {D F : Addr}
theorem same_off {H1 H' : Hp} (hD : H1 D = none) (s : Same H1 H') : Same (off F F H1) (off D F H') := fun b o e => by
  obtain ⟨h1, _, h3⟩ := off_some.mp e
  exact off_at (ne_of_none h3 hD) h1 (s b o h3)
theorem off_mut {H : Hp} {o : HO} : Same (off D F H) (off D F (upd H D o)) := fun b u e => by
  obtain ⟨h1, h2, h3⟩ := off_some.mp e
  exact off_at h1 h2 (by rw [upd_ne h1]; exact h3)
theorem off_mutF {H : Hp} {o : HO} : Same (off D F H) (off D F (upd H F o)) := fun b u e => by
  obtain ⟨h1, h2, h3⟩ := off_some.mp e
  exact off_at h1 h2 (by rw [upd_ne h2]; exact h3)
theorem off_same {H H' : Hp} (s : Same H H') : Same (off D F H) (off D F H') := fun b u e => by
  obtain ⟨h1, h2, h3⟩ := off_some.mp e
  exact off_at h1 h2 (s _ _ h3)
theorem off_F {H : Hp} : Same (off D F H) (off F F H) := fun b u e => by
  obtain ⟨h1, h2, h3⟩ := off_some.mp e
  exact off_at h2 h2 h3
theorem off_new {H1 : Hp} (hF : H1 F = none) : Same H1 (off F F H1) := fun b u e => off_at (ne_of_none e hF) (ne_of_none e hF) e
end
theorem lc_data {K : PySem.W.Frag} {J : It} {n : Nat} {G : Hp → Prop} {Y : Nat → Hp → V → Hp → Prop} (wk : Walk J n G Y) {g : TG} {te : TE} {vs : List Nat} {σ : L2.St} {H1 : Hp} {D : Addr} {Qd : Hp → Prop} (F : Addr) (R : PyData → Prop) (hD : H1 D = none) (hn : n ≤ 1000000)
    (hG : ∀ H', Same H1 H' → G H')
    (hs : ∀ (i : Nat) (x : V) (H' H'' : Hp) (Qe : VK), i < n → Same H1 H' → (∃ o, H' D = some o) → Y i H' x H'' → (∀ y d H4, Same H' H4 → Dp K (off D F H4) y d → R d → Qe y H4) → g x (wipe σ vs) H'' fun σ2 H2 => wipe σ2 vs = wipe σ vs ∧ te σ2 H2 Qe)
    (q : ∀ H' acc ds, Same H1 H' → H' D = some (.lst acc) → DpAll K (off D F H') acc ds → (∀ d ∈ ds, R d) → acc.length = n → Qd H') :
    ∃ W : Nat → Nat → Hp → Prop, (∃ m, W 0 m (upd H1 D (.lst []))) ∧ ∀ i m H, W i m H →
      (J.stop i H ∧ Qd H) ∨ (J.go i H ∧ ∃ Nx : Hp → Prop, (∀ H', Nx H' → ∃ m', m' < m ∧ W (i + 1) m' H') ∧ ∀ x H', J.yld i H x H' → g x (wipe σ vs) H' fun σ2 H2 => wipe σ2 vs = wipe σ vs ∧ tYes σ2 H2 fun b H3 =>
        if b = true then te σ2 H3 fun y H4 => ∃ acc, H4 D = some (.lst acc) ∧ acc.length < sizeLine ∧ Nx (upd H4 D (.lst (acc ++ [y]))) else Nx H3) := by
  refine lc_it wk (tt := tYes) (fun i H' => Same H1 H' ∧ ∃ acc ds, H' D = some (.lst acc) ∧ DpAll K (off D F H') acc ds ∧ (∀ d ∈ ds, R d) ∧ acc.length = i) ⟨same_upd hD, [], [], upd_same, .nil, by simp, rfl⟩ (fun i H' _ p => hG H' p.1) (fun i x H' H'' hi p y => ?_) (fun H' ⟨p1, acc, ds, p2, p3, p4, p5⟩ => q H' acc ds p1 p2 p3 p4 p5)
  obtain ⟨p1, acc, ds, p2, p3, p4, p5⟩ := p
  refine hs i x H' H'' _ hi p1 ⟨_, p2⟩ y fun v d H4 s4 hv hR => ?_
  refine ⟨_, s4 _ _ p2, ?_, ?_, acc ++ [v], ds ++ [d], upd_same, ?_, ?_, ?_⟩
  · rw [p5]
    exact Nat.lt_of_lt_of_le (Nat.lt_of_lt_of_le hi hn) (by decide)
  · exact same_mut (p1.trans s4) hD
  · exact dpA_app (dpA_mono ((off_same s4).trans off_mut) p3) (.cons (dp_mono off_mut hv) .nil)
  · intro z hz
    rcases List.mem_append.mp hz with h | h
    · exact p4 z h
    · rw [List.mem_singleton.mp h]
      exact hR
  · rw [List.length_append, p5]
    rfl
theorem dpA_mem {K : PySem.W.Frag} {H : Hp} {R : PyData → Prop} {vs : List V} {ds : List PyData} {i : Nat} {v : V} (h : DpAll K H vs ds) (hR : ∀ d ∈ ds, R d) (e : vs[i]? = some v) : ∃ d, Dp K H v d ∧ R d := by
  obtain ⟨d, h1, h2⟩ := dpA_get h e
  exact ⟨d, h2, hR d (List.mem_of_getElem? h1)⟩
end Kin
/-! Sets of texts: made of a list, sorted. -/
namespace Kin
open PySem PySem.Spec PyProof.Rows L2
def keyS (e : Int × Value) : Str := match e.2 with | .str z _ => z | _ => Str.empty
def TxE (P : Program) (w : World) (e : Int × Value) : Prop := ∃ z u, e.2 = Value.str z u ∧ e.1 = (PySem.strKind P w).hash z
structure TxData (P : Program) (w : World) (es : Array (Int × Value)) (t : SetTable) (zs : List Str) : Prop where
  good : ∀ e ∈ es.toList, TxE P w e
  pm : (es.toList.map keyS).Perm zs
  nd : zs.Nodup
  small : es.size < scanBound
  fits : t.fits es.size = true
  ris : Ris t.place.toList
  led : w.params.followText "set-order" = true ∨ t.led = true
/-- the set of the texts zs at a -/
def TxSet (P : Program) (w : World) (h : Heap) (a : Addr) (zs : List Str) : Prop := ∃ o es ep t, h.get? a = some o ∧ o.ExactSet ∧ o.data = .set es ep t ∧ TxData P w es t zs
section
variable {P : Program} {w : World} {A : Around} {E : Value → Shared → Prop} {s : Shared} {a : Addr} {zs : List Str}
theorem TxSet.keep {h h' : Heap} (R : TxSet P w h a zs) (k : ∀ o, h.get? a = some o → h'.get? a = some o) : TxSet P w h' a zs := by
  obtain ⟨o, es, ep, t, ho, r⟩ := R
  exact ⟨o, es, ep, t, k o ho, r⟩
theorem TxData.elems {es : Array (Int × Value)} {t : SetTable} (D : TxData P w es t zs) : ElemsOf (PySem.strKind P w) es.toList := fun e he => by
  obtain ⟨z, u, q1, q2⟩ := D.good e he
  refine ⟨⟨z, ?_, q2⟩, ?_⟩
  · rw [q1]; exact strKind_is _ _ _ _
  · rw [q1] <;> rfl
theorem tx_is {e : Int × Value} (g : TxE P w e) (z : Str) : (PySem.strKind P w).is z e.2 = true ↔ keyS e = z := by
  obtain ⟨z0, u, q, _⟩ := g
  constructor
  · intro y
    rw [q] at y
    have : keyS e = z0 := by unfold keyS; rw [q]
    rw [this]
    exact (PySem.strKind P w).inj _ _ _ (strKind_is P w z0 u) y
  · intro y
    have : keyS e = z0 := by unfold keyS; rw [q]
    rw [q, ← y, this]
    exact strKind_is _ _ _ _
theorem TxData.size {es : Array (Int × Value)} {t : SetTable} (D : TxData P w es t zs) : es.size = zs.length := by
  have q := D.pm.length_eq
  rw [List.length_map, Array.length_toList] at q
  exact q
theorem tx_tail {g : Bool → Sem Unit} (hg : ∀ (b : Bool) (z : Shared) (Y : Unit → Shared → Prop), Y () z → wpAny (model P w) A (g b) Y E z)
    {o : Obj} {es : Array (Int × Value)} {ep : Nat} {t : SetTable} (ho : s.heap.get? a = some o) (hx : o.ExactSet) (hd : o.data = .set es ep t)
    {e1 : Array (Int × Value)} {t1 : SetTable} (D : TxData P w e1 t1 zs) {dm : Bool} {R : Option Bool → Shared → Prop}
    (k : ∀ h', Heap.SameBut a s.heap h' → TxSet P w h' a zs → R (some true) { s with heap := h' }) :
    wpAny (model P w) A (storeSet a e1 t1 >>= fun _ => if (!dm && t1.tooFull) = true then (g (relayAll t1 e1 (SetTable.grown e1.size)).2.2 >>= fun _ =>
      storeSet a (relayAll t1 e1 (SetTable.grown e1.size)).1 (relayAll t1 e1 (SetTable.grown e1.size)).2.1 >>= fun _ => pure (some true)) else pure (some true)) R E s := by
  refine wpAny_bind (wpAny_storeSet_of ho hd ?_ (fits_of_scanBound D.small))
  have o1 := store_at (es' := e1) (t' := t1) ho hd
  have same1 := Heap.SameBut.update s.heap a (Obj.putSet e1 t1)
  split
  · have pp := relayAll_perm t1 e1 (SetTable.grown e1.size)
    have ff := relayAll_fits t1 e1 (SetTable.grown e1.size)
    have rr := relayAll_ris t1 e1 (SetTable.grown e1.size)
    have ll := relayAll_led t1 e1 (SetTable.grown e1.size)
    generalize relayAll t1 e1 (SetTable.grown e1.size) = Y at pp ff rr ll ⊢
    obtain ⟨e2, t2, gv⟩ := Y
    dsimp only at pp ff rr ll ⊢
    have sz : e2.size = e1.size := by
      have q := pp.length_eq
      rw [Array.length_toList, Array.length_toList] at q
      exact q
    have D2 : TxData P w e2 t2 zs := ⟨fun e he => D.good e (pp.mem_iff.mp he), (pp.map keyS).trans D.pm, D.nd, by rw [sz]; exact D.small, ff, rr, D.led.imp id fun z => by rw [ll]; exact z⟩
    refine wpAny_bind (hg _ _ _ ?_)
    refine wpAny_bind (wpAny_storeSet_of o1 rfl ?_ (fits_of_scanBound D2.small))
    exact wpAny_pure (k _ (same1.trans (Heap.SameBut.update _ a _)) ⟨_, e2, _, t2, store_at (es' := e2) (t' := t2) o1 rfl, hx, rfl, D2⟩)
  · exact wpAny_pure (k _ same1 ⟨_, e1, _, t1, o1, hx, rfl, D⟩)
/-- one text more -/
theorem tx_add {z : Str} {u : Tok} {Q : Bool → Shared → Prop} (R : TxSet P w s.heap a zs) (room : zs.length + 1 < scanBound)
    (k : ∀ h' b, Heap.SameBut a s.heap h' → TxSet P w h' a (if z ∈ zs then zs else z :: zs) → Q b { s with heap := h' }) :
    wpAny (model P w) A (setAddHashed a (.str z u) ((PySem.strKind P w).hash z)) Q E s := by
  obtain ⟨o, es, ep, t, ho, hx, hd, D⟩ := R
  have isz : (PySem.strKind P w).is z (.str z u) = true := strKind_is _ _ _ _
  have sc : (Value.str z u).scannable = true := rfl
  unfold setAddHashed setAddHashedIn
  refine wpAny_holding (wpAny_bind (wpAny_setState_of ho hd D.fits ?_))
  dsimp only
  rw [byScan_of sc D.small D.elems]
  simp only [↓reduceIte]
  unfold setAddByScan
  refine wpAny_bind (wpAny_bind (wpAny_rule (wpAny_bind (wpAny_setScan_of isz ho hd D.fits D.elems ?_))))
  cases hfi : List.findIdx? (fun e => (PySem.strKind P w).is z e.2) es.toList with
  | some j =>
    dsimp only
    obtain ⟨hj, pj, _⟩ := List.findIdx?_eq_some_iff_getElem.mp hfi
    have hz : z ∈ zs := by
      refine D.pm.mem_iff.mp (List.mem_map.mpr ⟨es.toList[j], List.getElem_mem hj, ?_⟩)
      exact (tx_is (D.good _ (List.getElem_mem hj)) z).1 pj
    refine wpAny_pure (wpAny_pure ?_)
    exact k s.heap _ (Heap.SameBut.refl a s.heap) (by rw [if_pos hz]; exact ⟨o, es, ep, t, ho, hx, hd, D⟩)
  | none =>
    dsimp only
    have hz : z ∉ zs := fun y => by
      obtain ⟨e, he, q⟩ := List.mem_map.mp (D.pm.mem_iff.mpr y)
      have c := List.findIdx?_eq_none_iff.mp hfi e he
      rw [(tx_is (D.good e he) z).2 q] at c
      cases c
    rw [if_neg hz] at k
    have way : ∀ (b : Bool) {s1 : Shared} {Y : Unit → Shared → Prop}, Y () s1 → wpAny (model P w) A (match b with | true => rule "set.scan.the-table-gave-way" | false => pure ()) Y E s1 := by
      intro b s1 Y q
      cases b
      · exact wpAny_pure q
      · exact wpAny_rule q
    have pp := layNew_perm t es ((PySem.strKind P w).hash z) (.str z u)
    have ff := layNew_fits t es ((PySem.strKind P w).hash z) (.str z u)
    have rr := layNew_ris t es ((PySem.strKind P w).hash z) (.str z u) D.ris
    have ll := layNew_led t es ((PySem.strKind P w).hash z) (.str z u)
    generalize layNew t es ((PySem.strKind P w).hash z) (.str z u) = Y at pp ff rr ll ⊢
    obtain ⟨e1, t1, dm, gv⟩ := Y
    dsimp only at pp ff rr ll ⊢
    rw [Array.toList_push] at pp
    have pc : e1.toList.Perm (((PySem.strKind P w).hash z, Value.str z u) :: es.toList) := pp.trans (List.perm_append_singleton _ _)
    have D1 : ∀ t' : SetTable, t'.fits e1.size = true → Ris t'.place.toList → (w.params.followText "set-order" = true ∨ t'.led = true) → TxData P w e1 t' (z :: zs) := fun t' f1 f2 f3 => by
      have sz : e1.size = es.size + 1 := by
        have q := pc.length_eq
        rw [Array.length_toList, List.length_cons, Array.length_toList] at q
        exact q
      refine ⟨fun e he => ?_, (pc.map keyS).trans (List.Perm.cons z D.pm), List.nodup_cons.mpr ⟨hz, D.nd⟩, by rw [sz, D.size]; exact room, f1, f2, f3⟩
      rcases List.mem_cons.mp (pc.mem_iff.mp he) with y | y
      · rw [y]; exact ⟨z, u, rfl, rfl⟩
      · exact D.good e y
    have led1 : w.params.followText "set-order" = true ∨ t1.led = true := D.led.imp id fun y => by rw [ll]; exact y
    refine wpAny_bind (way _ ?_)
    split
    · refine wpAny_bind ?_
      rw [hashByValue_scannable 8 sc]
      refine wpAny_pure ?_
      refine tx_tail (zs := z :: zs) ?_ ho hx hd (D1 _ ?_ ?_ ?_) ?_
      · intro b s1 Y q
        cases b
        · exact wpAny_pure q
        · exact wpAny_rule q
      · first | (split <;> first | exact ff | exact SetTable.fits_plain_off ff) | exact ff
      · first | (split <;> exact rr) | exact rr
      · first | (split <;> exact led1) | exact led1
      · intro h' sb r
        dsimp only
        exact wpAny_pure (k h' _ sb r)
    · refine wpAny_bind (wpAny_pure ?_)
      simp only [↓reduceIte]
      refine tx_tail (zs := z :: zs) ?_ ho hx hd (D1 _ ff rr led1) ?_
      · intro b s1 Y q
        cases b
        · exact wpAny_pure q
        · exact wpAny_rule q
      · intro h' sb r
        dsimp only
        exact wpAny_pure (k h' _ sb r)
end
end Kin
namespace Kin
open PySem PySem.Spec PyProof.Rows L2
/-- the texts of a list, each once -/
def once : List Str → List Str
  | [] => []
  | z :: r => if z ∈ once r then once r else z :: once r
theorem mem_once : ∀ {l : List Str} {z : Str}, z ∈ once l ↔ z ∈ l
  | [], z => Iff.rfl
  | y :: r, z => by
    unfold once
    by_cases h : y ∈ once r
    · rw [if_pos h, mem_once (l := r), List.mem_cons]
      constructor
      · exact .inr
      · rintro (e | e)
        · rw [e]; exact mem_once.mp h
        · exact e
    · rw [if_neg h, List.mem_cons, List.mem_cons, mem_once (l := r)]
theorem once_len : ∀ (l : List Str), (once l).length ≤ l.length
  | [] => Nat.le_refl _
  | y :: r => by
    unfold once
    have q := once_len r
    split
    · rw [List.length_cons]; omega
    · rw [List.length_cons, List.length_cons]; omega
section
variable {P : Program} {w : World} {A : Around} {E : Value → Shared → Prop} {s : Shared}
theorem tx_fresh {h : Heap} {a : Addr} (ho : h.get? a = some { cls := .type "set", dict := none, data := .set #[] 0 (.fresh 0 0 (!w.params.followText "set-order")) }) : TxSet P w h a [] :=
  ⟨_, #[], 0, _, ho, ⟨rfl, rfl, rfl⟩, rfl, ⟨(fun e he => by simp at he), List.Perm.refl _, List.nodup_nil, by decide, by rfl, List.Pairwise.nil, by
    show _ ∨ (!w.params.followText "set-order") = true
    cases w.params.followText "set-order" <;> simp⟩⟩
theorem take_rev {l : List Str} {i : Nat} {z : Str} (h : l[i]? = some z) : (l.take (i + 1)).reverse = z :: (l.take i).reverse := by
  rw [take_next h, List.reverse_append]
  rfl
/-- the loop that fills a set -/
theorem tx_loop {I : Addr} {fp wr : List Addr} {G : Array GenState → Array GenState → Prop} {n : Nat} {Pv : Nat → Value → Prop} {St : Nat → Shared → Prop} {R : Result → Shared → Prop}
    (W : WalksS P w A.in1 I fp wr G n Pv St) (S : Addr) (hSf : S ∉ fp) (xs : List Str) (hn : xs.length = n) (few : xs.length < 64) (val : ∀ i v, Pv i v → ∃ u, v = .str (xs.getD i Str.empty) u) :
    ∀ (k i : Nat) (s : Shared), n - i = k → i ≤ n → St i s → TxSet P w s.heap S (once (xs.take i).reverse) →
      (∀ s', Moved (S :: wr) G s s' → TxSet P w s'.heap S (once xs.reverse) → R (.ok (.ret .none)) s') →
      codeAny (model P w) A (.builtin "set.update.loop" ⟨[.ref S, .ref I], []⟩) R s := by
  have nSw : S ∉ wr := fun h => hSf (W.sub _ h)
  have sub : ∀ b ∈ wr, b ∈ S :: wr := fun b hb => List.mem_cons_of_mem _ hb
  intro k
  induction k with
  | zero =>
    intro i s hk hi st hS hR
    have e : i = n := by omega
    subst e
    refine codeAny_builtin PyProof.Rows.F.entry_set_update_loop ?_
    rw [Around.under_plainId PyProof.Rows.F.plain_set_update_loop _]
    show wpAny _ A.in1 (pyNext (.ref I) >>= _) _ _ s
    refine wpAny_bind (W.done s _ _ st fun s1 mv => ?_)
    show wpAny _ A.in1 (ret Value.none) _ _ s1
    refine wpAny_pure (hR s1 (mv.mono sub) ?_)
    rw [← hn, List.take_length] at hS
    exact hS.keep fun o q => mv.heap S o nSw q
  | succ k ih =>
    intro i s hk hi st hS hR
    have lt : i < n := by omega
    refine codeAny_builtin PyProof.Rows.F.entry_set_update_loop ?_
    rw [Around.under_plainId PyProof.Rows.F.plain_set_update_loop _]
    show wpAny _ A.in1 (pyNext (.ref I) >>= _) _ _ s
    refine wpAny_bind (W.item i s _ _ lt st fun v s1 hP st1 mv => ?_)
    obtain ⟨u, rfl⟩ := val i v hP
    have hS1 : TxSet P w s1.heap S (once (xs.take i).reverse) := hS.keep fun o q => mv.heap S o nSw q
    have hx : xs[i]? = some (xs.getD i Str.empty) := by
      have hl : i < xs.length := by omega
      simp [hl]
    have few2 : (once (xs.take i).reverse).length + 1 < scanBound := by
      have q1 := once_len (xs.take i).reverse
      have q2 : ((xs.take i).reverse).length ≤ xs.length := by
        rw [List.length_reverse, List.length_take]; omega
      unfold scanBound
      omega
    show wpAny _ A.in1 (holding [Value.str (xs.getD i Str.empty) u] (setAdd S (.str (xs.getD i Str.empty) u)) >>= _) _ _ s1
    refine wpAny_bind (wpAny_holding ?_)
    unfold setAdd
    refine wpAny_holding ?_
    refine wpAny_bind ((PySem.strKind P w).pyHash (k := xs.getD i Str.empty) (strKind_is _ _ _ _) ?_)
    refine tx_add (s := { s1 with toks := s1.toks + 1 }) hS1 few2 fun h' b sb hS2 => ?_
    have hS3 : TxSet P w h' S (once (xs.take (i + 1)).reverse) := by
      rw [take_rev hx]
      show TxSet P w h' S (if xs.getD i Str.empty ∈ once (xs.take i).reverse then once (xs.take i).reverse else xs.getD i Str.empty :: once (xs.take i).reverse)
      exact hS2
    refine wpAny_pure ⟨plainId_quiet PyProof.Rows.F.plain_set_update_loop _, ih (i + 1) _ (by omega) lt (W.frame _ s1 _ _ st1 (Nat.le_succ _) fun c hc o q => ?_) hS3 fun s2 mv2 hS4 => ?_⟩
    · rw [sb.2 c (fun z : c = S => hSf (by rw [← z]; exact hc))]; exact q
    · refine hR s2 (Moved.trans W.gtrans ((mv.mono sub).then_heap (Nat.le_succ _) fun c o hc q => ?_) mv2) hS4
      rw [sb.2 c (fun z : c = S => hc (by rw [z]; exact List.mem_cons_self))]; exact q
/-- set(xs), xs a list of texts -/
theorem tx_call {l : Addr} {items : Array Value} {xs : List Str} {Q : Value → Shared → Prop} (hh : A.handled = none) (hl : s.heap.IsList l items) (hi : StrsAre items.toList xs) (few : xs.length < 64)
    (k : ∀ (h' : Heap) (tk : Nat), TxSet P w h' s.heap.objs.size (once xs.reverse) → (∀ b o, s.heap.get? b = some o → h'.get? b = some o) → Q (.ref s.heap.objs.size) { s with heap := h', toks := tk }) :
    wpAny (model P w) A (call (.type "set") [.ref l]) Q E s := by
  obtain ⟨c, tl, hmro⟩ := PySem.F.called_set.mro
  have hmade := PySem.F.called_set.made
  have hsub := PySem.F.called_set.sub
  refine wpAny_call (codeAny_of_tree ?_)
  show wpAny _ _ (callAny (.type "set") _) _ _ _
  refine wpAny_pure ⟨Code.quiet_builtin _ (by decide +kernel), codeAny_builtin PySem.F.entry_type_call ?_⟩
  rw [Around.under_plain (weight_type_call_type "set" [.ref l] []) rfl]
  have g1 := PySem.F.called_set.notType
  have g2 := PySem.F.called_set.canCreate
  have g3 := PySem.F.typeCall_set_1 (.ref l)
  repeat (any_goals (first | assumption | wp_step))
  let fo : Obj := { cls := .type "set", dict := none, data := .set #[] 0 (.fresh 0 0 (!w.params.followText "set-order")) }
  refine codeAny_mono (code_set_led1 (.ref l) (E := E) (Q₁ := fun obj s1 => obj = .ref s.heap.objs.size ∧ s1 = { s with heap := s.heap.push fo }) ⟨rfl, rfl⟩) fun r s1 hr => ?_
  cases r with
  | error e => exact hr
  | ok fl =>
    cases fl with
    | ret obj =>
      obtain ⟨rfl, rfl⟩ := hr
      have hS : (s.heap.push fo).get? s.heap.objs.size = some fo := Heap.get?_push_size _ rfl
      have hT : Shared.TypeIs { s with heap := s.heap.push fo } (.ref s.heap.objs.size) "set" := ⟨_, hS, rfl⟩
      have g4 := PySem.F.called_set.init.lookup
      have g5 := PySem.F.called_set.init.bind (.ref s.heap.objs.size)
      repeat (any_goals (first | assumption | wp_step))
      refine codeAny_mono (codeAny_call_builtin (R := wants (fun r s2 => r = .none ∧ ∃ h' tk, s2 = { s with heap := h', toks := tk } ∧ TxSet P w h' s.heap.objs.size (once xs.reverse) ∧
          (∀ b o, s.heap.get? b = some o → h'.get? b = some o)) E) PySem.F.called_set.init.plain PySem.F.entry_set_init (check_set_init_1 hT ?_)) fun r2 s2 hr2 => ?_
      · obtain ⟨ol, hol, hcl, nl, hdl⟩ := hl
        obtain ⟨oc, od, oda, osl⟩ := ol
        simp only at hcl hdl
        subst hcl
        subst hdl
        have hol1 : (s.heap.push fo).get? l = some { cls := .type "list", dict := od, data := .seq items nl, slots := osl } := Heap.get?_push_of_some _ hol
        have g6 := PySem.F.sub_list_set
        have g7 := PySem.F.sub_list_frozenset
        have g8 : (Value.type "list" == Value.type "dict") = false := by decide
        have hl1 : (s.heap.push fo).IsList l items := ⟨_, hol1, rfl, nl, rfl⟩
        unfold Builtin.«set.__init__» noKeywords Builtin.Frozenset.updateFrom
        generalize hPI : pyIter = PI
        wp_walk
        subst hPI
        refine wpAny_pyIter_list hl1 (wpAny_bind (wpAny_runValue ?_))
        have lS : l < s.heap.objs.size := Heap.lt_size hol
        have h3 : A.in1.in1.in1.handled = none := by simp [hh]
        have sz1 : (s.heap.push fo).objs.size = s.heap.objs.size + 1 := Heap.size_push ..
        have neI : l ≠ (s.heap.push fo).objs.size := by
          rw [sz1]
          exact Nat.ne_of_lt (Nat.lt_trans lS (Nat.lt_succ_self _))
        have nS : s.heap.objs.size ∉ [(s.heap.push fo).objs.size, l] := by
          rw [sz1]
          intro z
          rcases List.mem_cons.mp z with z | z
          · exact absurd z (Nat.ne_of_lt (Nat.lt_succ_self _))
          · have z := List.mem_singleton.mp z
            rw [← z] at lS
            exact absurd lS (Nat.lt_irrefl _)
        have sz : xs.length = items.size := by rw [← StrsAre.len_eq hi, Array.length_toList]
        have val : ∀ (i : Nat) (v : Value), items[i]? = some v → ∃ u, v = .str (xs.getD i Str.empty) u := fun i v hv => SS.strs_at hi i v (by rw [Array.getElem?_toList]; exact hv)
        refine tx_loop ((Walks.list h3 _ l neI items).toS) s.heap.objs.size nS xs sz few val (items.size - 0) 0 _ (by omega) (Nat.zero_le _) ⟨⟨_, Heap.get?_push_size _ rfl, rfl, rfl⟩, (hl1.push _)⟩ ?_ ?_
        · exact tx_fresh (Heap.get?_push_of_some _ hS)
        · intro s3 mv hS3
          obtain ⟨h', g', d', tk', os'⟩ := s3
          have e1 : g' = s.gens := mv.gens
          have e2 : d' = s.drawn := mv.drawn
          have e3 : os' = s.os := mv.os
          subst e1
          subst e2
          subst e3
          show wpAny _ _ _ _ _ _
          refine wpAny_pure ?_
          show wpAny _ _ (ret Value.none) _ _ _
          refine wpAny_pure ⟨rfl, h', tk', rfl, hS3, fun b o q => ?_⟩
          have hb := Heap.lt_size q
          refine mv.heap b o ?_ (Heap.get?_push_of_some _ (Heap.get?_push_of_some _ q))
          intro z
          rcases List.mem_cons.mp z with z | z
          · rw [z] at hb
            exact absurd hb (Nat.lt_irrefl _)
          · have z := List.mem_singleton.mp z
            rw [z, sz1] at hb
            exact absurd hb (Nat.not_lt_of_le (Nat.le_succ _))
      · cases r2 with
        | error e => exact hr2
        | ok f2 =>
          cases f2 with
          | ret r =>
            obtain ⟨rfl, h', tk, rfl, hS3, kk⟩ := hr2
            repeat (any_goals (first | assumption | wp_step))
            exact k _ _ hS3 kk
          | _ => exact hr2.elim
    | _ => exact hr.elim
/-- sorted(a), a a set of texts -/
theorem tx_sorted {a : Addr} {zs : List Str} {Q : Value → Shared → Prop} (R : TxSet P w s.heap a zs) (hh : A.handled = none) (few : zs.length < 64)
    (k : ∀ s' p (out : Array Value) (c : Nat) (ys : List Str), (∀ b o, s.heap.get? b = some o → s'.heap.get? b = some o) → s'.gens = s.gens → s'.os = s.os → s.heap.objs.size ≤ p →
      s'.heap.get? p = some (seqObj "list" out c) → StrsAre out.toList ys → ys.Perm zs → sortedS ys = true → Q (.ref p) s') :
    wpAny (model P w) A (call (.builtin "sorted") [.ref a]) Q E s := by
  obtain ⟨o, es, ep, t, ho, hx, hd, D⟩ := R
  refine Calls.call_function_entry kind_sorted plain_sorted entry_sorted (args_sorted1 _) ?_
  unfold Builtin.«sorted»
  refine wpAny_bind (m := checkCount "sorted" 1 1 _) (wpAny_pure ?_)
  refine wpAny_bind (collect_set (A := A.in1) hh ⟨o, ho, hx.1, hd⟩ D.fits D.small D.ris D.led fun s1 vs k1 hz g1 o1 pm => ?_)
  have vl : vs.length < 64 := by
    rw [pm.length_eq, List.length_map, Array.length_toList, D.size]
    exact few
  have hI : StrsAre vs (vs.map strOf) := strsAre_map vs fun v hv => by
    obtain ⟨e, he, q⟩ := List.mem_map.mp (pm.mem_iff.mp hv)
    obtain ⟨z, u, q1, _⟩ := D.good e he
    exact ⟨z, u, by rw [← q]; exact q1⟩
  have pk : (vs.map strOf).Perm zs := by
    have q := pm.map strOf
    rw [List.map_map] at q
    have e : es.toList.map (strOf ∘ fun e => e.2) = es.toList.map keyS := List.map_congr_left fun e he => by
      obtain ⟨z, u, q1, _⟩ := D.good e he
      show strOf e.2 = keyS e
      unfold keyS
      rw [q1]
      rfl
    exact (q.trans (by rw [e])).trans D.pm
  refine wpAny_bind (wpAny_newList ?_ (by rw [sizeLine_eq]; omega))
  have hoL : (s1.heap.push (seqObj "list" vs.toArray 0)).get? s1.heap.objs.size = some (seqObj "list" vs.toArray 0) := Heap.get?_push_size _ rfl
  refine wpAny_bind (wpAny_holding (wpAny_call_entry slot_list_sort ⟨_, hoL, rfl⟩ entry_list_sort (list_sort_treeK strKind_oneLt hoL hI.keysOf (fun v1 v2 r e => keyKind_strs (by rw [← e]; exact hI)) vl fun st hp hs => ⟨_, rfl, ?_⟩) (args_list_sort _)))
  obtain ⟨ys, y1, y2, y3⟩ := sorted_out_str hI hp hs
  obtain ⟨c, hc⟩ := sortedHeap_at (vs := vs) (out := (arrOf st).map (·.2)) hoL
  refine wpAny_pure ⟨_, rfl, k _ s1.heap.objs.size _ c ys (fun b v e => ?_) g1 o1 hz hc y1 (y2.trans pk) y3⟩
  have q := k1 b v e
  have lt := Heap.lt_size q
  show (sortedHeap (s1.heap.push (seqObj "list" vs.toArray 0)) s1.heap.objs.size vs _).get? b = some v
  rw [sortedHeap_old (Nat.ne_of_lt lt) (by rw [size_push']; exact Nat.lt_succ_of_lt lt)]
  exact Heap.get?_push_of_some _ q
end
end Kin
namespace Kin
open PySem PySem.Spec PyProof.Rows L2
def TxO (P : Program) (w : World) (a : Addr) (zs : List Str) : HO := .ext fun h => TxSet P w h a zs
theorem txO_new {P : Program} {w : World} {H : Hp} {h : Heap} {a : Addr} {zs : List Str} (R : TxSet P w h a zs) : ObjOk P w H h a (TxO P w a zs) := by
  have ⟨o, _, _, _, ho, _⟩ := R
  exact ⟨R, ⟨o, ho⟩, fun h1 h2 p k => TxSet.keep p k⟩
theorem vals_of_strs : ∀ {ys : List Str} {us : List Value}, StrsAre us ys → Vals (ys.map V.str) us
  | _, _, .nil => .nil
  | _, _, .cons n t h => .cons ⟨t, rfl⟩ (vals_of_strs h)
section
variable {X : Cx}
/-- set(xs), xs a list of texts -/
def rSetTx (K : PySem.W.Frag) (P : Program) (w : World) : List V → Hp → VK → Prop := fun vs H Q => ∃ (l : Addr) (xs : List Str), vs = [V.ref l] ∧ SqL K H l (xs.map V.str) ∧ xs.length < 64 ∧
  ∀ a, H a = none → Q (.ref a) (upd H a (TxO P w a (once xs.reverse)))
theorem cr_setTx (hc : X.calm = true) : CallR X (.type "set") (rSetTx X.K X.prog X.w) := by
  intro pins s σ H vs us Q I r h
  obtain ⟨l, xs, rfl, hl, few, q⟩ := h
  rw [Vals.ref1 r]
  obtain ⟨its, rv, pl, hz⟩ := I.list hl
  have hn : H s.heap.objs.size = none := I.hok.fresh (Nat.le_refl _)
  refine tx_call (P := X.prog) (w := X.w) (I.ok.hd hc) pl.isList (by simpa using strsAre_of rv) few fun h' tk R k => ?_
  exact ⟨.ref s.heap.objs.size, upd H s.heap.objs.size (TxO X.prog X.w s.heap.objs.size (once xs.reverse)), I.laid (t' := tk) k (Nat.le_refl _) (txO_new R), rfl, q _ hn⟩
/-- sorted(a) -/
def rSortTx (P : Program) (w : World) : List V → Hp → VK → Prop := fun vs H Q => ∃ (a : Addr) (zs : List Str), vs = [V.ref a] ∧ H a = some (TxO P w a zs) ∧ zs.length < 64 ∧
  ∀ (ys : List Str) (p : Addr), ys.Perm zs → zs.Nodup → sortedS ys = true → H p = none → Q (.ref p) (upd H p (.lst (ys.map V.str)))
theorem cr_sortTx (hc : X.calm = true) : CallR X (.builtin "sorted") (rSortTx X.prog X.w) := by
  intro pins s σ H vs us Q I r h
  obtain ⟨a, zs, rfl, ha, few, q⟩ := h
  have R : TxSet X.prog X.w s.heap a zs := (I.hok a _ ha).1
  have nd : zs.Nodup := by
    obtain ⟨_, _, _, _, _, _, _, D⟩ := R
    exact D.nd
  rw [Vals.ref1 r]
  refine tx_sorted R (I.ok.hd hc) few fun s1 p out c ys k g o hp hg hs pm so => ?_
  have hlen : (ys.map V.str).length ≤ sizeLine := by rw [List.length_map, pm.length_eq, sizeLine_eq]; omega
  have hn : H p = none := I.hok.fresh hp
  have J : Inv X pins σ (upd H p (.lst (ys.map V.str))) { s with heap := s1.heap, gens := s1.gens, drawn := s1.drawn, toks := s1.toks } :=
    I.call (ch := []) (Un.laid k hp hn) (I.hok.laid k hp ⟨hlen, out.toList, c, vals_of_strs hs, hg⟩) (by rw [g]; exact I.bare) (fun _ z => nomatch z)
  have e : s1 = { s with heap := s1.heap, gens := s1.gens, drawn := s1.drawn, toks := s1.toks } := by
    cases s1
    cases s
    cases o
    rfl
  rw [e]
  exact ⟨.ref p, _, J, rfl, q ys p pm nd so hn⟩
end
/-! ### rising texts -/
def ltS (a b : Str) : Bool := decide (a.cps.toList < b.cps.toList)
def rise : List Str → Bool
  | a :: b :: r => ltS a b && rise (b :: r)
  | _ => true
theorem str_ext {a b : Str} (h : a.cps.toList = b.cps.toList) : a = b := by
  cases a
  cases b
  simp only [Str.mk.injEq]
  exact Array.toList_inj.mp h
theorem ltS_trans {a b c : Str} (h : ltS a b = true) (k : ltS b c = true) : ltS a c = true := by
  unfold ltS at *
  exact decide_eq_true (List.lt_trans (of_decide_eq_true h) (of_decide_eq_true k))
theorem ltS_irrefl (a : Str) : ltS a a = false := by
  unfold ltS
  exact decide_eq_false (List.lt_irrefl _)
theorem ltS_of {a b : Str} (h : ltS b a = false) (ne : a ≠ b) : ltS a b = true := by
  unfold ltS at *
  refine decide_eq_true ?_
  have h1 : ¬ b.cps.toList < a.cps.toList := of_decide_eq_false h
  have h2 : a.cps.toList ≤ b.cps.toList := List.not_lt.mp h1
  rcases Classical.em (a.cps.toList < b.cps.toList) with q | q
  · exact q
  · exact absurd (str_ext (List.le_antisymm h2 (List.not_lt.mp q))) ne
theorem rise_pw : ∀ {l : List Str}, rise l = true → l.Pairwise (fun a b => ltS a b = true)
  | [], _ => .nil
  | [a], _ => List.pairwise_singleton _ _
  | a :: b :: r, h => by
    unfold rise at h
    obtain ⟨h1, h2⟩ := Bool.and_eq_true_iff.mp h
    have ih := rise_pw h2
    refine List.pairwise_cons.mpr ⟨fun c hc => ?_, ih⟩
    rcases List.mem_cons.mp hc with e | e
    · rw [e]; exact h1
    · exact ltS_trans h1 ((List.pairwise_cons.mp ih).1 c e)
theorem rise_of : ∀ {l : List Str}, l.Pairwise (fun a b => ltS a b = true) → rise l = true
  | [], _ => rfl
  | [a], _ => rfl
  | a :: b :: r, h => by
    unfold rise
    obtain ⟨h1, h2⟩ := List.pairwise_cons.mp h
    rw [h1 b List.mem_cons_self, rise_of h2]
    rfl
theorem rise_eq : ∀ {l m : List Str}, l.Pairwise (fun a b => ltS a b = true) → m.Pairwise (fun a b => ltS a b = true) → (∀ z, z ∈ l ↔ z ∈ m) → l = m
  | [], [], _, _, _ => rfl
  | [], b :: m, _, _, e => absurd ((e b).mpr List.mem_cons_self) (by simp)
  | a :: l, [], _, _, e => absurd ((e a).mp List.mem_cons_self) (by simp)
  | a :: l, b :: m, hl, hm, e => by
    obtain ⟨l1, l2⟩ := List.pairwise_cons.mp hl
    obtain ⟨m1, m2⟩ := List.pairwise_cons.mp hm
    have hab : a = b := by
      rcases List.mem_cons.mp ((e a).mp List.mem_cons_self) with q | q
      · exact q
      · rcases List.mem_cons.mp ((e b).mpr List.mem_cons_self) with y | y
        · exact y.symm
        · have c := ltS_trans (m1 a q) (l1 b y)
          rw [ltS_irrefl] at c
          cases c
    subst hab
    refine congrArg (a :: ·) (rise_eq l2 m2 fun z => ⟨fun hz => ?_, fun hz => ?_⟩)
    · rcases List.mem_cons.mp ((e z).mp (List.mem_cons_of_mem _ hz)) with q | q
      · have c := l1 z hz
        rw [q, ltS_irrefl] at c
        cases c
      · exact q
    · rcases List.mem_cons.mp ((e z).mpr (List.mem_cons_of_mem _ hz)) with q | q
      · have c := m1 z hz
        rw [q, ltS_irrefl] at c
        cases c
      · exact q
theorem sorted_rise : ∀ {l : List Str}, sortedS l = true → l.Nodup → rise l = true
  | [], _, _ => rfl
  | [a], _, _ => rfl
  | a :: b :: r, h, nd => by
    have h : (!ltCps b.cps.toList a.cps.toList && risingS b r) = true := h
    obtain ⟨h1, h2⟩ := Bool.and_eq_true_iff.mp h
    obtain ⟨n1, n2⟩ := List.nodup_cons.mp nd
    have ih := sorted_rise (l := b :: r) h2 n2
    unfold rise
    rw [ih, ltS_of (a := a) (b := b) ?_ ?_]
    · rfl
    · unfold ltS
      rw [← ltCps_eq]
      simpa using h1
    · rintro rfl
      exact n1 List.mem_cons_self
theorem sorted_is {xs ys zs : List Str} (hz : zs = once xs.reverse) (pm : ys.Perm zs) (nd : zs.Nodup) (so : sortedS ys = true) : decide (xs = ys) = rise xs := by
  have mem : ∀ z, z ∈ ys ↔ z ∈ xs := fun z => by
    rw [pm.mem_iff, hz, mem_once, List.mem_reverse]
  have ry := sorted_rise so (pm.nodup_iff.mpr nd)
  by_cases h : xs = ys
  · rw [decide_eq_true h, h, ry]
  · rw [decide_eq_false h]
    cases hr : rise xs with
    | false => rfl
    | true => exact absurd (rise_eq (rise_pw hr) (rise_pw ry) fun z => (mem z).symm) h
end Kin
/-! Books: what both looks tell, as plain functions. -/
namespace Kin
open PySem PySem.Spec PyProof.Rows L2
def rLen (K : PySem.W.Frag) : List V → Hp → VK → Prop := fun xs H Q => ∃ p ys, xs = [V.ref p] ∧ (SqL K H p ys ∨ SqT K H p ys) ∧ Q (.int ys.length) H
def pProg : PyData → Bool
  | .tuple [t, .tuple rows] => pTitle t && (!rows.isEmpty && rows.all fun r => pRow r rows.length)
  | _ => false
def lProg : PyData → Bool
  | .tuple [t, .tuple rows] => lTitle t && (!rows.isEmpty && rows.all fun r => lRow r rows.length)
  | _ => false
def titleOf : PyData → Str
  | .tuple (.str z :: _) => z
  | _ => ""
def pBook : PyData → Bool
  | .tuple ds => !ds.isEmpty && (ds.all pProg && rise (ds.map titleOf))
  | _ => false
def lBook : PyData → Bool
  | .tuple ds => !ds.isEmpty && (ds.all lProg && rise (ds.map titleOf))
  | _ => false
def bndP : PyData → Bool
  | .tuple [_, .tuple rows] => rows.all bndAll
  | _ => true
def bndB : PyData → Bool
  | .tuple ds => ds.all bndP
  | _ => true
theorem all_eq {α : Type} {p q : α → Bool} : ∀ {l : List α}, (∀ x ∈ l, p x = q x) → l.all p = l.all q
  | [], _ => rfl
  | x :: r, h => by
    rw [List.all_cons, List.all_cons, h x List.mem_cons_self, all_eq fun y hy => h y (List.mem_cons_of_mem _ hy)]
theorem progs_agree (d : PyData) (h : bndP d = true) : pProg d = lProg d := by
  unfold pProg lProg
  split
  · rename_i t rows
    have h : rows.all bndAll = true := h
    rw [title_eq, all_eq (p := fun r => pRow r rows.length) (q := fun r => lRow r rows.length) fun r hr => rows_agree _ r (List.all_eq_true.mp h r hr)]
  · rfl
theorem books_agree (d : PyData) (h : bndB d = true) : pBook d = lBook d := by
  cases d with
  | tuple ds =>
    show (!ds.isEmpty && (ds.all pProg && rise (ds.map titleOf))) = (!ds.isEmpty && (ds.all lProg && rise (ds.map titleOf)))
    have h : ds.all bndP = true := h
    rw [all_eq (p := pProg) (q := lProg) fun x hx => progs_agree x (List.all_eq_true.mp h x hx)]
  | _ => rfl
theorem prog_title {d : PyData} (h : pProg d = true) : ∃ z rows, d = .tuple [.str z, .tuple rows] ∧ azAll z = true ∧ z.length ≤ 8 := by
  unfold pProg at h
  split at h
  · rename_i t rows
    have h1 := (Bool.and_eq_true_iff.mp h).1
    cases t with
    | str z =>
      have h1 : (decide (1 ≤ z.length) && decide (z.length ≤ 8) && azAll z) = true := h1
      obtain ⟨h2, h3⟩ := Bool.and_eq_true_iff.mp h1
      exact ⟨z, rows, rfl, h3, of_decide_eq_true (Bool.and_eq_true_iff.mp h2).2⟩
    | _ => cases h1
  · cases h
theorem az_ok {z : Str} (h : azAll z = true) : PyData.strOk z = true := by
  unfold PyData.strOk
  rw [← Array.all_toList, List.all_eq_true]
  intro c hc
  have q := List.all_eq_true.mp h c hc
  have q := of_decide_eq_true (Bool.and_eq_true_iff.mp q).2
  exact decide_eq_true (by omega)
theorem shaped_strs (zs : List Str) (h : ∀ z ∈ zs, PyData.strOk z = true) : SeqAt.shaped (.list (zs.map PyData.str)) = true := by
  have h1 : PyData.canLayAll0 (zs.map PyData.str) = true := by
    induction zs with
    | nil => rw [List.map_nil, PyData.canLayAll0]
    | cons c r ih =>
      rw [List.map_cons, PyData.canLayAll0, ih fun z hz => h z (List.mem_cons_of_mem _ hz), PyData.canLay0, h c List.mem_cons_self]
      rfl
  have h2 : PyData.depthAll (zs.map PyData.str) = 0 := by
    clear h h1
    induction zs with
    | nil => rw [List.map_nil, PyData.depthAll]
    | cons c r ih => rw [List.map_cons, PyData.depthAll, ih, PyData.depth]; rfl
  unfold SeqAt.shaped
  rw [PyData.canLay0, PyData.depth, h1, h2]
  rfl
theorem eqv_strs : ∀ (xs ys : List Str), PyData.eqv (.list (xs.map PyData.str)) (.list (ys.map PyData.str)) = decide (xs = ys)
  | xs, ys => by
    show PyData.eqvAll (xs.map PyData.str) (ys.map PyData.str) = decide (xs = ys)
    induction xs generalizing ys with
    | nil =>
      cases ys with
      | nil => rfl
      | cons b r => simp [PyData.eqvAll]
    | cons a l ih =>
      cases ys with
      | nil => simp [PyData.eqvAll]
      | cons b r =>
        rw [List.map_cons, List.map_cons, PyData.eqvAll, ih]
        by_cases h : a = b
        · subst h
          simp [PyData.eqv]
        · simp [PyData.eqv, h]
theorem shaped_mem {ds : List PyData} {d : PyData} (h : SeqAt.shaped (.tuple ds) = true) (hd : d ∈ ds) : SeqAt.shaped d = true := by
  unfold SeqAt.shaped at *
  rw [PyData.canLay0, PyData.depth] at h
  obtain ⟨h1, h2⟩ := Bool.and_eq_true_iff.mp h
  have h2 := of_decide_eq_true h2
  have key : ∀ (l : List PyData), d ∈ l → PyData.canLayAll0 l = true → d.canLay0 = true ∧ d.depth ≤ PyData.depthAll l := by
    intro l
    induction l with
    | nil => intro q; cases q
    | cons a r ih =>
      intro q c
      rw [PyData.canLayAll0] at c
      obtain ⟨c1, c2⟩ := Bool.and_eq_true_iff.mp c
      rw [PyData.depthAll]
      rcases List.mem_cons.mp q with e | e
      · subst e
        exact ⟨c1, by omega⟩
      · obtain ⟨i1, i2⟩ := ih e c2
        exact ⟨i1, by omega⟩
  obtain ⟨k1, k2⟩ := key ds hd h1
  rw [k1, decide_eq_true (show d.depth ≤ 64 by omega)]
  rfl
def ltAt (xs : List Str) (i : Nat) : Bool := match xs[i]?, xs[i + 1]? with
  | some a, some b => ltS a b
  | _, _ => true
theorem rise_all : ∀ (xs : List Str), ((List.range (xs.length - 1)).map (ltAt xs)).all id = rise xs
  | [] => rfl
  | [a] => rfl
  | a :: b :: r => by
    have ih := rise_all (b :: r)
    rw [show (a :: b :: r).length - 1 = ((b :: r).length - 1) + 1 by simp, List.range_succ_eq_map, List.map_cons, List.all_cons, List.map_map]
    show (ltS a b && ((List.range ((b :: r).length - 1)).map (ltAt (b :: r))).all id) = (ltS a b && rise (b :: r))
    rw [ih]
end Kin
/-! What drawn rows and books are; slices and sums of tuples beside the hand. -/
namespace Kin
open PySem PySem.Spec PyProof.Rows L2
section
variable {K : PySem.W.Frag}
theorem catA_data {H : Hp} {a b : Addr} {xs ys : List V} {Q : VK} (hx : SqT K H a xs) (hy : SqT K H b ys) (hl : xs.length + ys.length ≤ 10000000) (q : ∀ p H', Same H H' → SqT K H' p (xs ++ ys) → Q (.ref p) H') : rCatA K (.ref a) (.ref b) H Q :=
  ⟨a, b, xs, ys, rfl, rfl, hx, hy, Nat.le_trans hl (by decide), fun e => by
    subst e
    exact q b H (Same.refl H) hy, fun _ e => by
    subst e
    exact q a H (Same.refl H) (by rw [List.append_nil]; exact hx), fun _ _ p hp => q p _ (same_upd hp) sqT_new⟩
theorem slA_data {H : Hp} {a : Addr} {xs : List V} {lo hi : Option Int} {Q : VK} (hx : SqT K H a xs) (q : ∀ p H', Same H H' → SqT K H' p (cutV xs lo hi) → Q (.ref p) H') : rSlA K (.ref a) lo hi H Q :=
  ⟨a, xs, rfl, hx, fun ⟨e1, e2⟩ => by
    have e : cutV xs lo hi = xs := by
      unfold cutV
      rw [e1, e2]
      show (xs.drop 0).take (xs.length - 0) = xs
      rw [List.drop_zero, Nat.sub_zero, List.take_length]
    exact q a H (Same.refl H) (by rw [e]; exact hx), fun _ p hp => q p _ (same_upd hp) sqT_new⟩
theorem nice_word {wd : Str} (hw : wd ∈ words18) : nice (.str wd) = true := by
  have h : ∀ z ∈ words18, nice (.str z) = true := by decide +kernel
  exact h wd hw
/-- a row that both looks take alike -/
def rowOk (d : PyData) : Prop := bndAll d = true ∧ lenOk d = true ∧ d.canLay0 = true ∧ d.depth ≤ 4 ∧ nearAll d = true
theorem rowOk_of {ds : List PyData} (h : ds.all nice = true) (hl : ds.length ≤ 1000) : rowOk (.tuple ds) := by
  obtain ⟨b1, b2, b3, b4⟩ := nice_all h
  refine ⟨b1, ?_, ?_, ?_, nice_near h⟩
  · rw [lenOk, b2, decide_eq_true (show ds.length ≤ 1000000 by omega)]; rfl
  · rw [PyData.canLay0, b3]
  · rw [PyData.depth]
    omega
theorem catO {x l a b : Addr} {H : Hp} {xs ys : List V} {Q : VK} (hh : Hand x l H) (hax : a ≠ x) (hal : a ≠ l) (hbx : b ≠ x) (hbl : b ≠ l) (hx : H a = some (.tup xs)) (hy : H b = some (.tup ys)) (hl : xs.length + ys.length ≤ 10000000)
    (q : ∀ p H', Same H H' → p ≠ x → p ≠ l → SqT K (off x l H') p (xs ++ ys) → Q (.ref p) H') : rCatA K (.ref a) (.ref b) H Q :=
  ⟨a, b, xs, ys, rfl, rfl, .inl (.inl hx), .inl (.inl hy), Nat.le_trans hl (by decide), fun e => by
    subst e
    exact q b H (Same.refl H) hbx hbl (.inl (.inl (off_at hbx hbl hy))), fun _ e => by
    subst e
    exact q a H (Same.refl H) hax hal (by rw [List.append_nil]; exact .inl (.inl (off_at hax hal hx))), fun _ _ p hp => by
    obtain ⟨n1, n2⟩ := hh.nx hp
    exact q p _ (same_upd hp) n1 n2 (.inl (.inl (off_at n1 n2 upd_same)))⟩
end
def lets : List Nat := ("acegikmoqsuwybdf" : Str).cps.toList
def titleAt (j : Nat) (z : Str) : Prop := ∃ cs : List Nat, z.cps.toList = lets.getD (5 * j % 16) 0 :: cs ∧ cs.length ≤ 6 ∧ ∀ c ∈ cs, 97 ≤ c ∧ c ≤ 122
theorem titleAt_az {j : Nat} {z : Str} (h : titleAt j z) : 1 ≤ z.length ∧ z.length ≤ 8 ∧ azAll z = true := by
  obtain ⟨cs, e, hl, hc⟩ := h
  have hz : z.length = cs.length + 1 := by
    show z.cps.size = _
    rw [← Array.length_toList, e, List.length_cons]
  have hj : ∀ i, i < 16 → 97 ≤ lets.getD i 0 ∧ lets.getD i 0 ≤ 122 := by decide +kernel
  have h0 := hj (5 * j % 16) (Nat.mod_lt _ (by decide))
  refine ⟨by omega, by omega, ?_⟩
  unfold azAll
  rw [e, List.all_cons, decide_eq_true h0.1, decide_eq_true h0.2, Bool.true_and, Bool.true_and, List.all_eq_true]
  intro c q
  rw [decide_eq_true (hc c q).1, decide_eq_true (hc c q).2]
  rfl
theorem titles_nodup {ts : List Str} (h : ∀ j z, ts[j]? = some z → titleAt j z) (hl : ts.length ≤ 15) : ts.Nodup := by
  refine List.pairwise_iff_getElem.mpr fun i j hi hj hij e => ?_
  obtain ⟨c1, e1, _⟩ := h i _ (List.getElem?_eq_getElem hi)
  obtain ⟨c2, e2, _⟩ := h j _ (List.getElem?_eq_getElem hj)
  rw [e, e2] at e1
  have q := (List.cons.inj e1).1
  have all : ∀ i, i < 15 → ∀ j, j < 15 → i < j → lets.getD (5 * j % 16) 0 ≠ lets.getD (5 * i % 16) 0 := by decide +kernel
  exact all i (by omega) j (by omega) hij q
def progOk (p : PyData) : Prop := ∃ (z : Str) (rows : List PyData), p = .tuple [.str z, .tuple rows] ∧ 1 ≤ z.length ∧ z.length ≤ 8 ∧ azAll z = true ∧ 0 < rows.length ∧ rows.length ≤ 40 ∧ ∀ r ∈ rows, rowOk r ∧ pRow r rows.length = true
theorem Off.mut {x l p : Addr} {H H' : Hp} {o : HO} (f : Off x l H H') (h : H p = none) : Off x l H (upd H' p o) := fun b u h1 h2 e => by
  rw [upd_ne (ne_of_none e h)]
  exact f b u h1 h2 e
theorem Hand.mut {x l p : Addr} {H : Hp} {o : HO} (h : Hand x l H) (h1 : p ≠ x) (h2 : p ≠ l) : Hand x l (upd H p o) := by
  obtain ⟨m, hm, hN⟩ := h
  obtain ⟨cells, seed, e1, e2, e3⟩ := hN.ex
  exact ⟨m, hm, ⟨cells, seed, by rw [upd_ne h1.symm]; exact e1, by rw [upd_ne h2.symm]; exact e2, e3⟩, hN.ne⟩
mutual
def noL : PyData → Bool
  | .tuple ds => noLAll ds
  | .list _ => false
  | .dict _ => false
  | .none => true
  | .bool _ => true
  | .int _ => true
  | .str _ => true
def noLAll : List PyData → Bool
  | [] => true
  | d :: r => noL d && noLAll r
end
theorem noLAll_of : ∀ {ds : List PyData}, (∀ d ∈ ds, noL d = true) → noLAll ds = true
  | [], _ => by rw [noLAll]
  | d :: r, h => by
    rw [noLAll, h d List.mem_cons_self, noLAll_of fun y hy => h y (List.mem_cons_of_mem _ hy)]
    rfl
mutual
theorem dp_noL {K : PySem.W.Frag} {G G' : Hp} (h : ∀ b xs, SqT K G b xs → SqT K G' b xs) : ∀ {d : PyData} {v : V}, noL d = true → Dp K G v d → Dp K G' v d
  | _, _, _, .non => .non
  | _, _, _, .bl b => .bl b
  | _, _, _, .int i => .int i
  | _, _, _, .str x => .str x
  | _, _, e, .lst _ _ => by rw [noL] at e; cases e
  | _, _, e, .tup hs a => .tup (h _ _ hs) (dpA_noL h (by rw [noL] at e; exact e) a)
  | _, _, e, .dct _ => by rw [noL] at e; cases e
theorem dpA_noL {K : PySem.W.Frag} {G G' : Hp} (h : ∀ b xs, SqT K G b xs → SqT K G' b xs) : ∀ {ds : List PyData} {vs : List V}, noLAll ds = true → DpAll K G vs ds → DpAll K G' vs ds
  | _, _, _, .nil => .nil
  | _, _, e, .cons h1 t => by
    rw [noLAll] at e
    obtain ⟨e1, e2⟩ := Bool.and_eq_true_iff.mp e
    exact .cons (dp_noL h e1 h1) (dpA_noL h e2 t)
end
theorem sqT_mut {K : PySem.W.Frag} {x l D : Addr} {G : Hp} {acc : List V} {o : HO} (hD : G D = some (.lst acc)) (b : Addr) (xs : List V) (h : SqT K (off x l G) b xs) : SqT K (off x l (upd G D o)) b xs := by
  rcases h with (h | ⟨u, h⟩) | h
  · obtain ⟨h1, h2, h3⟩ := off_some.mp h
    have hne : b ≠ D := fun e => by
      rw [e, hD] at h3
      cases h3
    exact .inl (.inl (off_at h1 h2 (by rw [upd_ne hne]; exact h3)))
  · obtain ⟨h1, h2, h3⟩ := off_some.mp h
    have hne : b ≠ D := fun e => by
      rw [e, hD] at h3
      cases h3
    exact .inl (.inr ⟨u, off_at h1 h2 (by rw [upd_ne hne]; exact h3)⟩)
  · exact .inr h
theorem one_noL {d : PyData} {ws : List Str} (h : pOne d ws = true) : noL d = true := by
  cases d with
  | str z => rw [noL]
  | _ => cases h
theorem loop_noL : ∀ {ds : List PyData} {k : Nat}, pLoop k ds = true → noLAll ds = true
  | [], _, _ => by rw [noLAll]
  | d :: r, k, h => by
    cases d with
    | str z =>
      rw [pLoop_str] at h
      split at h
      · split at h
        · cases h
        · rw [noLAll, noL, loop_noL h]
          rfl
      · cases h
    | _ => cases h
theorem are_noL {d : PyData} (h : pAre d = true) : noL d = true := by
  cases d with
  | tuple ds => rw [noL]; exact loop_noL (k := 0) h
  | _ => cases h
theorem int_noL (i : Int) : noL (.int i) = true := by rw [noL]
theorem part_noL {k : Str} {d : PyData} {n : Int} (h : pPart k d n = true) : noL d = true := by
  have hrow : ∀ {e : PyData}, pRowNo e n = true → noL e = true := fun {e} h => by
    cases e with
    | int i => exact int_noL i
    | _ => cases h
  unfold pPart at h
  repeat' split at h
  · cases d with
    | str z => rw [noL]
    | _ => cases h
  · cases d with
    | int i => exact int_noL i
    | _ => cases h
  · cases d with
    | int i => exact int_noL i
    | _ => cases h
  · cases d with
    | bool b => rw [noL]
    | _ => cases h
  · exact hrow h
  · exact one_noL h
  · rw [pLoose_eq] at h
    exact one_noL h
  · exact are_noL h
  · rcases Bool.or_eq_true_iff.mp h with h | h
    · exact one_noL h
    · unfold pHandler at h
      split at h
      · obtain ⟨h1, h2⟩ := Bool.and_eq_true_iff.mp h
        rw [noL, noLAll, noLAll, noLAll, hrow h1, are_noL h2]
        rfl
      · cases h
  · exact one_noL h
  · unfold pChild at h
    repeat' split at h
    · rename_i hn
      cases d with
      | int i => exact int_noL i
      | _ => cases hn
    · cases d with
      | none => rw [noL]
      | _ => cases h
    · exact one_noL h
    · exact one_noL h
theorem parts_noL (n : Int) : ∀ {ks : List Str} {ds : List PyData}, ds.length = ks.length → pParts n ks ds = true → noLAll ds = true
  | [], [], _, _ => by rw [noLAll]
  | k :: ks, d :: ds, hl, h => by
    unfold pParts at h
    obtain ⟨h1, h2⟩ := Bool.and_eq_true_iff.mp h
    rw [noLAll, part_noL h1, parts_noL n (by simpa using hl) h2]
    rfl
  | [], _ :: _, hl, _ => by cases hl
  | _ :: _, [], hl, _ => by cases hl
theorem row_noL {d : PyData} {n : Int} (h : pRow d n = true) : noL d = true := by
  unfold pRow at h
  split at h
  · rename_i w ps
    split at h
    · rename_i ks _
      obtain ⟨h1, h2⟩ := Bool.and_eq_true_iff.mp h
      rw [noL, noLAll, noL, parts_noL n (of_decide_eq_true h1) h2]
      rfl
    · cases h
  · cases h
theorem prog_noL {p : PyData} (h : progOk p) : noL p = true := by
  obtain ⟨z, rows, rfl, _, _, _, _, _, hr⟩ := h
  rw [noL, noLAll, noLAll, noLAll, noL, noL, noLAll_of fun r h => row_noL (hr r h).2]
  rfl
end Kin
/-! How great data are: lengths by m, numbers by b. What stays so when a part of it is exchanged. -/
namespace Kin
open PySem PySem.Spec PyProof.Rows L2
mutual
def sz (m b : Nat) : PyData → Bool
  | .str z => decide (z.length ≤ m)
  | .int i => decide (i.natAbs ≤ b)
  | .list xs => decide (xs.length ≤ m) && szAll m b xs
  | .tuple xs => decide (xs.length ≤ m) && szAll m b xs
  | .none => true
  | .bool _ => true
  | .dict _ => true
def szAll (m b : Nat) : List PyData → Bool
  | [] => true
  | x :: xs => sz m b x && szAll m b xs
end
theorem szAll_of {m b : Nat} : ∀ {ds : List PyData}, (∀ d ∈ ds, sz m b d = true) → szAll m b ds = true
  | [], _ => by rw [szAll]
  | d :: r, h => by
    rw [szAll, h d List.mem_cons_self, szAll_of fun y hy => h y (List.mem_cons_of_mem _ hy)]
    rfl
theorem szAll_mem {m b : Nat} : ∀ {ds : List PyData}, szAll m b ds = true → ∀ d ∈ ds, sz m b d = true
  | [], _ => fun d hd => by cases hd
  | a :: r, h => fun d hd => by
    rw [szAll] at h
    obtain ⟨h1, h2⟩ := Bool.and_eq_true_iff.mp h
    rcases List.mem_cons.mp hd with e | e
    · subst e
      exact h1
    · exact szAll_mem h2 d e
theorem sz_tup {m b : Nat} {ds : List PyData} (h : ∀ d ∈ ds, sz m b d = true) (hl : ds.length ≤ m) : sz m b (.tuple ds) = true := by
  rw [sz, szAll_of h, decide_eq_true hl]
  rfl
theorem sz_list {m b : Nat} {ds : List PyData} (h : ∀ d ∈ ds, sz m b d = true) (hl : ds.length ≤ m) : sz m b (.list ds) = true := by
  rw [sz, szAll_of h, decide_eq_true hl]
  rfl
theorem sz_str {m b : Nat} {z : Str} (h : z.length ≤ m) : sz m b (.str z) = true := by
  rw [sz, decide_eq_true h]
theorem sz_int {m b : Nat} {i : Int} (h : i.natAbs ≤ b) : sz m b (.int i) = true := by
  rw [sz, decide_eq_true h]
theorem sz_non {m b : Nat} : sz m b .none = true := by rw [sz]
theorem sz_bool {m b : Nat} {t : Bool} : sz m b (.bool t) = true := by rw [sz]
theorem sz_dict {m b : Nat} : sz m b (.dict []) = true := by rw [sz]
theorem sz_tup' {m b : Nat} {ds : List PyData} (h : sz m b (.tuple ds) = true) : ds.length ≤ m ∧ ∀ d ∈ ds, sz m b d = true := by
  rw [sz] at h
  obtain ⟨h1, h2⟩ := Bool.and_eq_true_iff.mp h
  exact ⟨of_decide_eq_true h1, szAll_mem h2⟩
theorem sz_str' {m b : Nat} {z : Str} (h : sz m b (.str z) = true) : z.length ≤ m := by
  rw [sz] at h
  exact of_decide_eq_true h
theorem sz_int' {m b : Nat} {i : Int} (h : sz m b (.int i) = true) : i.natAbs ≤ b := by
  rw [sz] at h
  exact of_decide_eq_true h
mutual
theorem sz_mono {m b m' b' : Nat} (hm : m ≤ m') (hb : b ≤ b') : ∀ {d : PyData}, sz m b d = true → sz m' b' d = true
  | .none, _ => by rw [sz]
  | .bool _, _ => by rw [sz]
  | .dict _, _ => by rw [sz]
  | .int i, h => by
    rw [sz] at h ⊢
    exact decide_eq_true (Nat.le_trans (of_decide_eq_true h) hb)
  | .str z, h => by
    rw [sz] at h ⊢
    exact decide_eq_true (Nat.le_trans (of_decide_eq_true h) hm)
  | .list xs, h => by
    rw [sz] at h ⊢
    obtain ⟨h1, h2⟩ := Bool.and_eq_true_iff.mp h
    rw [szAll_mono hm hb h2, decide_eq_true (Nat.le_trans (of_decide_eq_true h1) hm)]
    rfl
  | .tuple xs, h => by
    rw [sz] at h ⊢
    obtain ⟨h1, h2⟩ := Bool.and_eq_true_iff.mp h
    rw [szAll_mono hm hb h2, decide_eq_true (Nat.le_trans (of_decide_eq_true h1) hm)]
    rfl
theorem szAll_mono {m b m' b' : Nat} (hm : m ≤ m') (hb : b ≤ b') : ∀ {ds : List PyData}, szAll m b ds = true → szAll m' b' ds = true
  | [], _ => by rw [szAll]
  | d :: r, h => by
    rw [szAll] at h ⊢
    obtain ⟨h1, h2⟩ := Bool.and_eq_true_iff.mp h
    rw [sz_mono hm hb h1, szAll_mono hm hb h2]
    rfl
end
mutual
theorem sz_len {m b : Nat} (hm : m ≤ 1000000) : ∀ {d : PyData}, sz m b d = true → lenOk d = true
  | .none, _ => by rw [lenOk]
  | .bool _, _ => by rw [lenOk]
  | .dict _, _ => by rw [lenOk]
  | .int i, h => by rw [lenOk]
  | .str z, h => by
    rw [sz] at h
    rw [lenOk]
    exact decide_eq_true (Nat.le_trans (of_decide_eq_true h) hm)
  | .list xs, h => by
    rw [sz] at h
    rw [lenOk]
    obtain ⟨h1, h2⟩ := Bool.and_eq_true_iff.mp h
    rw [szAll_len hm h2, decide_eq_true (Nat.le_trans (of_decide_eq_true h1) hm)]
    rfl
  | .tuple xs, h => by
    rw [sz] at h
    rw [lenOk]
    obtain ⟨h1, h2⟩ := Bool.and_eq_true_iff.mp h
    rw [szAll_len hm h2, decide_eq_true (Nat.le_trans (of_decide_eq_true h1) hm)]
    rfl
theorem szAll_len {m b : Nat} (hm : m ≤ 1000000) : ∀ {ds : List PyData}, szAll m b ds = true → lenAll ds = true
  | [], _ => by rw [lenAll]
  | d :: r, h => by
    rw [szAll] at h
    rw [lenAll]
    obtain ⟨h1, h2⟩ := Bool.and_eq_true_iff.mp h
    rw [sz_len hm h1, szAll_len hm h2]
    rfl
end
/-! ### depths -/
theorem depth_tup (ds : List PyData) : (PyData.tuple ds).depth = PyData.depthAll ds + 1 := by rw [PyData.depth]
theorem depth_list (ds : List PyData) : (PyData.list ds).depth = PyData.depthAll ds + 1 := by rw [PyData.depth]
theorem depth_mem : ∀ {ds : List PyData} {d : PyData}, d ∈ ds → d.depth ≤ PyData.depthAll ds
  | [], _, h => by cases h
  | a :: r, d, h => by
    rw [PyData.depthAll]
    rcases List.mem_cons.mp h with e | e
    · subst e
      omega
    · have := depth_mem e
      omega
theorem depthAll_of {m : Nat} : ∀ {ds : List PyData}, (∀ d ∈ ds, d.depth ≤ m) → PyData.depthAll ds ≤ m
  | [], _ => by rw [PyData.depthAll]; exact Nat.zero_le _
  | a :: r, h => by
    rw [PyData.depthAll]
    have h1 := h a List.mem_cons_self
    have h2 := depthAll_of fun d hd => h d (List.mem_cons_of_mem _ hd)
    omega
def topLen : PyData → Nat
  | .tuple ds => ds.length
  | _ => 0
/-! ### rows -/
theorem loop_len : ∀ {ds : List PyData} {k : Nat}, pLoop k ds = true → ds.length ≤ 9 - k ∧ ∀ d ∈ ds, ∃ z, d = .str z ∧ z ∈ sig9
  | [], _, _ => ⟨Nat.zero_le _, fun d hd => by cases hd⟩
  | d :: r, k, h => by
    cases d with
    | str z =>
      rw [pLoop_str] at h
      split at h
      · rename_i hz
        split at h
        · cases h
        · rename_i hk
          obtain ⟨h1, h2⟩ := loop_len h
          have hz9 : z ∈ sig9 := of_decide_eq_true (Bool.and_eq_true_iff.mp hz).1
          have hlt : sig9.idxOf z < 9 := List.idxOf_lt_length_of_mem hz9
          refine ⟨by rw [List.length_cons]; omega, fun d hd => ?_⟩
          rcases List.mem_cons.mp hd with e | e
          · exact ⟨z, e, hz9⟩
          · exact h2 d e
      · cases h
    | _ => cases h
theorem sig9_len {z : Str} (h : z ∈ sig9) : z.length ≤ 8 := by
  have h : ∀ z ∈ sig9, z.length ≤ 8 := by decide +kernel
  exact h z ‹_›
theorem are_sz {b : Nat} {d : PyData} (h : pAre d = true) : sz 40 b d = true ∧ d.depth ≤ 1 := by
  cases d with
  | tuple ds =>
    obtain ⟨h1, h2⟩ := loop_len (k := 0) h
    refine ⟨sz_tup (fun d hd => ?_) (by omega), ?_⟩
    · obtain ⟨z, rfl, hz⟩ := h2 d hd
      exact sz_str (Nat.le_trans (sig9_len hz) (by decide))
    · rw [depth_tup]
      have : PyData.depthAll ds ≤ 0 := depthAll_of fun d hd => by
        obtain ⟨z, rfl, hz⟩ := h2 d hd
        rw [PyData.depth]
        exact Nat.le_refl _
      omega
  | _ => cases h
theorem one_sz {m b : Nat} {d : PyData} {ws : List Str} (h : pOne d ws = true) (hw : ∀ z ∈ ws, z.length ≤ m) : sz m b d = true ∧ d.depth = 0 := by
  cases d with
  | str z => exact ⟨sz_str (hw z (of_decide_eq_true h)), by rw [PyData.depth]⟩
  | _ => cases h
theorem near_sz {m : Nat} {i : Int} (h : near (.int i) = true) : sz m 1000000000 (.int i) = true ∧ (PyData.int i).depth ≤ 2 := by
  have h : (decide (-1000000000 ≤ i) && decide (i ≤ 1000000000)) = true := h
  obtain ⟨h1, h2⟩ := Bool.and_eq_true_iff.mp h
  have h1 := of_decide_eq_true h1
  have h2 := of_decide_eq_true h2
  exact ⟨sz_int (by omega), by rw [PyData.depth]; decide⟩
theorem part_sz {k : Str} {d : PyData} {n : Int} (h : pPart k d n = true) (hn : n ≤ 1000) (hd : near d = true) : sz 40 1000000000 d = true ∧ d.depth ≤ 2 := by
  have hone : ∀ {ws : List Str}, pOne d ws = true → (∀ z ∈ ws, z.length ≤ 40) → sz 40 1000000000 d = true ∧ d.depth ≤ 2 := fun h hw => by
    obtain ⟨a, b⟩ := one_sz (b := 1000000000) h hw
    exact ⟨a, by omega⟩
  have hrow : ∀ {e : PyData}, pRowNo e n = true → sz 40 1000000000 e = true ∧ e.depth = 0 := fun {e} h => by
    cases e with
    | int i =>
      have h : (decide (0 ≤ i) && decide (i < n)) = true := h
      obtain ⟨h1, h2⟩ := Bool.and_eq_true_iff.mp h
      have h1 := of_decide_eq_true h1
      have h2 := of_decide_eq_true h2
      exact ⟨sz_int (by omega), by rw [PyData.depth]⟩
    | _ => cases h
  unfold pPart at h
  repeat' split at h
  · cases d with
    | str z =>
      have h : (decide (1 ≤ z.length) && decide (z.length ≤ 8) && azAll z) = true := h
      have h2 := of_decide_eq_true (Bool.and_eq_true_iff.mp (Bool.and_eq_true_iff.mp h).1).2
      exact ⟨sz_str (by omega), by rw [PyData.depth]; decide⟩
    | _ => cases h
  · cases d with
    | int i => exact near_sz hd
    | _ => cases h
  · cases d with
    | int i => exact near_sz hd
    | _ => cases h
  · cases d with
    | bool b => exact ⟨sz_bool, by rw [PyData.depth]; decide⟩
    | _ => cases h
  · obtain ⟨a, b⟩ := hrow h
    exact ⟨a, by omega⟩
  · exact hone h (by decide +kernel)
  · rw [pLoose_eq] at h
    exact hone h (by decide +kernel)
  · obtain ⟨a, b⟩ := are_sz (b := 1000000000) h
    exact ⟨a, by omega⟩
  · rcases Bool.or_eq_true_iff.mp h with h | h
    · exact hone h (by decide +kernel)
    · unfold pHandler at h
      split at h
      · rename_i d1 d2
        obtain ⟨h1, h2⟩ := Bool.and_eq_true_iff.mp h
        obtain ⟨a1, b1⟩ := hrow h1
        obtain ⟨a2, b2⟩ := are_sz (b := 1000000000) h2
        refine ⟨sz_tup (fun e he => ?_) (by show 2 ≤ 40; decide), ?_⟩
        · rcases List.mem_cons.mp he with e1 | he
          · rw [e1]; exact a1
          · rw [List.mem_singleton.mp he]; exact a2
        · rw [depth_tup, PyData.depthAll, PyData.depthAll, PyData.depthAll]
          omega
      · cases h
  · exact hone h (by decide +kernel)
  · unfold pChild at h
    repeat' split at h
    · rename_i hn
      cases d with
      | int i => exact near_sz hd
      | _ => cases hn
    · cases d with
      | none => exact ⟨sz_non, by rw [PyData.depth]; decide⟩
      | _ => cases h
    · exact hone h (by decide +kernel)
    · exact hone h (by decide +kernel)
theorem parts_sz {n : Int} (hn : n ≤ 1000) : ∀ {ks : List Str} {ds : List PyData}, ds.length = ks.length → ds.all near = true → pParts n ks ds = true → ∀ d ∈ ds, sz 40 1000000000 d = true ∧ d.depth ≤ 2
  | [], [], _, _, _ => fun d hd => by cases hd
  | k :: ks, e :: ds, hl, hb, h => fun d hd => by
    unfold pParts at h
    obtain ⟨h1, h2⟩ := Bool.and_eq_true_iff.mp h
    rw [List.all_cons] at hb
    obtain ⟨b1, b2⟩ := Bool.and_eq_true_iff.mp hb
    rcases List.mem_cons.mp hd with q | q
    · rw [q]
      exact part_sz h1 hn b1
    · exact parts_sz hn (by simpa using hl) b2 h2 d q
  | [], _ :: _, hl, _, _ => by cases hl
  | _ :: _, [], hl, _, _ => by cases hl
theorem forms_le {w : Str} {ks : List Str} (h : forms.lookup w = some ks) : ks.length ≤ 2 ∧ w.length ≤ 40 := by
  have all : ∀ p ∈ forms, p.2.length ≤ 2 ∧ p.1.length ≤ 40 := by decide +kernel
  have key : ∀ (l : List (Str × List Str)), l.lookup w = some ks → (w, ks) ∈ l := by
    intro l
    induction l with
    | nil => intro q; cases q
    | cons p r ih =>
      intro q
      obtain ⟨a, b⟩ := p
      rw [List.lookup_cons] at q
      split at q
      · rename_i e
        have e := eq_of_beq e
        cases q
        rw [e]
        exact List.mem_cons_self
      · exact List.mem_cons_of_mem _ (ih q)
  exact all _ (key _ h)
theorem row_sz {d : PyData} {n : Int} (h : pRow d n = true) (hn : n ≤ 1000) (hb : nearAll d = true) : sz 40 1000000000 d = true ∧ d.depth ≤ 3 ∧ topLen d ≤ 3 := by
  unfold pRow at h
  split at h
  · rename_i w ps
    split at h
    · rename_i ks hk
      obtain ⟨h1, h2⟩ := Bool.and_eq_true_iff.mp h
      have h1 := of_decide_eq_true h1
      obtain ⟨f1, f2⟩ := forms_le hk
      have hb : (near (.str w) && ps.all near) = true := hb
      have key := parts_sz hn h1 (Bool.and_eq_true_iff.mp hb).2 h2
      refine ⟨sz_tup (fun d hd => ?_) (by rw [List.length_cons]; omega), ?_, ?_⟩
      · rcases List.mem_cons.mp hd with q | q
        · rw [q]
          exact sz_str f2
        · exact (key d q).1
      · rw [depth_tup]
        have : PyData.depthAll (.str w :: ps) ≤ 2 := depthAll_of fun d hd => by
          rcases List.mem_cons.mp hd with q | q
          · rw [q, PyData.depth]
            exact Nat.zero_le _
          · exact (key d q).2
        omega
      · show (PyData.str w :: ps).length ≤ 3
        rw [List.length_cons]
        omega
    · cases h
  · cases h
end Kin
/-! How great data are in all: tw; numbers by b, signs below 2^21: gd. What repr shows of them. -/
namespace Kin
open PySem PySem.Spec PyProof.Rows L2
mutual
def tw : PyData → Nat
  | .str z => z.length + 1
  | .list xs => twAll xs + 1
  | .tuple xs => twAll xs + 1
  | .int _ => 1
  | .none => 1
  | .bool _ => 1
  | .dict _ => 1
def twAll : List PyData → Nat
  | [] => 0
  | x :: r => tw x + twAll r
end
theorem tw_tup (ds : List PyData) : tw (.tuple ds) = twAll ds + 1 := by rw [tw]
theorem tw_list (ds : List PyData) : tw (.list ds) = twAll ds + 1 := by rw [tw]
theorem tw_str (z : Str) : tw (.str z) = z.length + 1 := by rw [tw]
theorem twAll_nil : twAll [] = 0 := by rw [twAll]
theorem twAll_cons (d : PyData) (r : List PyData) : twAll (d :: r) = tw d + twAll r := by rw [twAll]
theorem twAll_app : ∀ (a b : List PyData), twAll (a ++ b) = twAll a + twAll b
  | [], b => by rw [List.nil_append, twAll_nil, Nat.zero_add]
  | d :: r, b => by rw [List.cons_append, twAll_cons, twAll_cons, twAll_app r b, Nat.add_assoc]
theorem twAll_take : ∀ (n : Nat) (a : List PyData), twAll (a.take n) ≤ twAll a
  | 0, a => by rw [List.take_zero, twAll_nil]; exact Nat.zero_le _
  | n + 1, [] => by rw [List.take_nil]; exact Nat.le_refl _
  | n + 1, d :: r => by
    rw [List.take_succ_cons, twAll_cons, twAll_cons]
    have := twAll_take n r
    omega
theorem twAll_drop : ∀ (n : Nat) (a : List PyData), twAll (a.drop n) ≤ twAll a
  | 0, a => Nat.le_refl _
  | n + 1, [] => by rw [List.drop_nil]; exact Nat.le_refl _
  | n + 1, d :: r => by
    rw [List.drop_succ_cons, twAll_cons]
    have := twAll_drop n r
    omega
theorem twAll_cut (c n : Nat) (a : List PyData) : twAll ((a.drop c).take n) ≤ twAll a := Nat.le_trans (twAll_take _ _) (twAll_drop _ _)
theorem twAll_rev : ∀ a : List PyData, twAll a.reverse = twAll a
  | [] => rfl
  | d :: r => by rw [List.reverse_cons, twAll_app, twAll_rev r, twAll_cons, twAll_cons, twAll_nil]; omega
theorem tw_mem : ∀ {ds : List PyData} {d : PyData}, d ∈ ds → tw d ≤ twAll ds
  | [], _, h => by cases h
  | a :: r, d, h => by
    rw [twAll_cons]
    rcases List.mem_cons.mp h with e | e
    · rw [e]; omega
    · have := tw_mem e
      omega
theorem tw_pos (d : PyData) : 1 ≤ tw d := by
  cases d <;> rw [tw] <;> omega
theorem len_twAll : ∀ ds : List PyData, ds.length ≤ twAll ds
  | [] => Nat.zero_le _
  | d :: r => by
    rw [List.length_cons, twAll_cons]
    have := tw_pos d
    have := len_twAll r
    omega
/-- signs of a text -/
def chS (z : Str) : Bool := z.cps.toList.all fun c => decide (c < 2097152)
mutual
def gd (b : Nat) : PyData → Bool
  | .str z => chS z
  | .int i => decide (i.natAbs ≤ b)
  | .list xs => gdAll b xs
  | .tuple xs => gdAll b xs
  | .dict kvs => kvs.isEmpty
  | .none => true
  | .bool _ => true
def gdAll (b : Nat) : List PyData → Bool
  | [] => true
  | x :: r => gd b x && gdAll b r
end
theorem gdAll_of {b : Nat} : ∀ {ds : List PyData}, (∀ d ∈ ds, gd b d = true) → gdAll b ds = true
  | [], _ => by rw [gdAll]
  | d :: r, h => by
    rw [gdAll, h d List.mem_cons_self, gdAll_of fun y hy => h y (List.mem_cons_of_mem _ hy)]
    rfl
theorem gdAll_mem {b : Nat} : ∀ {ds : List PyData}, gdAll b ds = true → ∀ d ∈ ds, gd b d = true
  | [], _ => fun d hd => by cases hd
  | a :: r, h => fun d hd => by
    rw [gdAll] at h
    obtain ⟨h1, h2⟩ := Bool.and_eq_true_iff.mp h
    rcases List.mem_cons.mp hd with e | e
    · subst e
      exact h1
    · exact gdAll_mem h2 d e
theorem gd_tup {b : Nat} {ds : List PyData} (h : ∀ d ∈ ds, gd b d = true) : gd b (.tuple ds) = true := by rw [gd]; exact gdAll_of h
theorem gd_list {b : Nat} {ds : List PyData} (h : ∀ d ∈ ds, gd b d = true) : gd b (.list ds) = true := by rw [gd]; exact gdAll_of h
theorem gd_tup' {b : Nat} {ds : List PyData} (h : gd b (.tuple ds) = true) : ∀ d ∈ ds, gd b d = true := by rw [gd] at h; exact gdAll_mem h
theorem gd_list' {b : Nat} {ds : List PyData} (h : gd b (.list ds) = true) : ∀ d ∈ ds, gd b d = true := by rw [gd] at h; exact gdAll_mem h
theorem gd_int {b : Nat} {i : Int} (h : i.natAbs ≤ b) : gd b (.int i) = true := by rw [gd]; exact decide_eq_true h
theorem gd_int' {b : Nat} {i : Int} (h : gd b (.int i) = true) : i.natAbs ≤ b := by rw [gd] at h; exact of_decide_eq_true h
theorem gd_str {b : Nat} {z : Str} (h : chS z = true) : gd b (.str z) = true := by rw [gd]; exact h
theorem gd_str' {b : Nat} {z : Str} (h : gd b (.str z) = true) : chS z = true := by rw [gd] at h; exact h
theorem gd_non {b : Nat} : gd b .none = true := by rw [gd]
theorem gd_bool {b : Nat} {t : Bool} : gd b (.bool t) = true := by rw [gd]
theorem gd_dict {b : Nat} : gd b (.dict []) = true := by rw [gd]; rfl
mutual
theorem gd_mono {b b' : Nat} (hb : b ≤ b') : ∀ {d : PyData}, gd b d = true → gd b' d = true
  | .none, _ => by rw [gd]
  | .bool _, _ => by rw [gd]
  | .dict _, h => by rw [gd] at h ⊢; exact h
  | .str _, h => by rw [gd] at h ⊢; exact h
  | .int i, h => by
    rw [gd] at h ⊢
    exact decide_eq_true (Nat.le_trans (of_decide_eq_true h) hb)
  | .list xs, h => by rw [gd] at h ⊢; exact gdAll_mono hb h
  | .tuple xs, h => by rw [gd] at h ⊢; exact gdAll_mono hb h
theorem gdAll_mono {b b' : Nat} (hb : b ≤ b') : ∀ {ds : List PyData}, gdAll b ds = true → gdAll b' ds = true
  | [], _ => by rw [gdAll]
  | d :: r, h => by
    rw [gdAll] at h ⊢
    obtain ⟨h1, h2⟩ := Bool.and_eq_true_iff.mp h
    rw [gd_mono hb h1, gdAll_mono hb h2]
    rfl
end
mutual
theorem depth_tw {b : Nat} : ∀ {d : PyData}, gd b d = true → d.depth ≤ tw d
  | .none, _ => by rw [PyData.depth]; exact Nat.zero_le _
  | .bool _, _ => by rw [PyData.depth]; exact Nat.zero_le _
  | .int _, _ => by rw [PyData.depth]; exact Nat.zero_le _
  | .str _, _ => by rw [PyData.depth]; exact Nat.zero_le _
  | .dict [], _ => by rw [PyData.depth, PyData.depthKv, tw]; exact Nat.le_refl _
  | .dict (_ :: _), h => by rw [gd] at h; cases h
  | .list xs, h => by
    rw [PyData.depth, tw]
    have := depthAll_tw (ds := xs) (by rw [gd] at h; exact h)
    omega
  | .tuple xs, h => by
    rw [PyData.depth, tw]
    have := depthAll_tw (ds := xs) (by rw [gd] at h; exact h)
    omega
theorem depthAll_tw {b : Nat} : ∀ {ds : List PyData}, gdAll b ds = true → PyData.depthAll ds ≤ twAll ds
  | [], _ => by rw [PyData.depthAll]; exact Nat.zero_le _
  | d :: r, h => by
    rw [gdAll] at h
    obtain ⟨h1, h2⟩ := Bool.and_eq_true_iff.mp h
    rw [PyData.depthAll, twAll]
    have := depth_tw h1
    have := depthAll_tw h2
    omega
end
mutual
theorem len_tw {d : PyData} (h : tw d ≤ 1000000) : lenOk d = true := by
  match d, h with
  | .none, _ => rw [lenOk]
  | .bool _, _ => rw [lenOk]
  | .dict _, _ => rw [lenOk]
  | .int i, h => rw [lenOk]
  | .str z, h =>
    rw [tw] at h
    rw [lenOk]
    exact decide_eq_true (by omega)
  | .list xs, h =>
    rw [tw] at h
    rw [lenOk, lenAll_tw (ds := xs) (by omega), decide_eq_true (Nat.le_trans (len_twAll xs) (by omega))]
    rfl
  | .tuple xs, h =>
    rw [tw] at h
    rw [lenOk, lenAll_tw (ds := xs) (by omega), decide_eq_true (Nat.le_trans (len_twAll xs) (by omega))]
    rfl
theorem lenAll_tw {ds : List PyData} (h : twAll ds ≤ 1000000) : lenAll ds = true := by
  match ds, h with
  | [], _ => rw [lenAll]
  | d :: r, h =>
    rw [twAll] at h
    rw [lenAll, len_tw (d := d) (by omega), lenAll_tw (ds := r) (by omega)]
    rfl
end
/-! ### signs -/
theorem ch_app {a b : Str} (ha : chS a = true) (hb : chS b = true) : chS (a ++ b) = true := by
  unfold chS at *
  show ((a.cps ++ b.cps).toList.all _) = true
  rw [Array.toList_append, List.all_append, ha, hb]
  rfl
theorem ch_cut {z : Str} (lo hi : Option Int) (h : chS z = true) : chS (cutS z lo hi) = true := by
  unfold chS at *
  rw [List.all_eq_true] at h ⊢
  intro c hc
  have hc : c ∈ ((z.cps.toList.drop (HT.sIx z.length 0 lo)).take (HT.sIx z.length z.length hi - HT.sIx z.length 0 lo)).toArray.toList := hc
  rw [List.toList_toArray] at hc
  exact h c (List.mem_of_mem_drop (List.mem_of_mem_take hc))
theorem ch_of (s : String) : chS (Str.ofString s) = true := by
  unfold chS
  rw [Str.ofString_eq_toList, List.toList_toArray, List.all_eq_true]
  intro c hc
  obtain ⟨x, _, rfl⟩ := List.mem_map.mp hc
  have h := x.valid
  have h2 : x.toNat < 1114112 := by
    rcases h with h | ⟨_, h⟩
    · exact Nat.lt_trans h (by decide)
    · exact h
  exact decide_eq_true (Nat.lt_trans h2 (by decide))
theorem ch_join {sep : Str} (hs : chS sep = true) : ∀ {ts : List Str}, (∀ t ∈ ts, chS t = true) → chS (Str.join sep ts) = true
  | [], _ => rfl
  | [t], h => h t List.mem_cons_self
  | t :: u :: r, h => by
    have e : Str.join sep (t :: u :: r) = t ++ sep ++ Str.join sep (u :: r) := rfl
    rw [e]
    exact ch_app (ch_app (h t List.mem_cons_self) hs) (ch_join hs fun y hy => h y (List.mem_cons_of_mem _ hy))
theorem char_lt (x : Char) : x.toNat < 2097152 := by
  rcases x.valid with h | ⟨_, h⟩
  · exact Nat.lt_trans h (by decide)
  · exact Nat.lt_trans h (by decide)
theorem ch_reprChar {q c : Nat} (hq : q < 2097152) (hc : c < 2097152) : ∀ x ∈ Builtin.Str.reprChar q c, x < 2097152 := by
  have hex : ∀ w : Nat, ∀ x ∈ List.replicate (w - ((Nat.toDigits 16 c).map Char.toNat).length) 48 ++ (Nat.toDigits 16 c).map Char.toNat, x < 2097152 := fun w x hx => by
    rcases List.mem_append.mp hx with h | h
    · rw [(List.mem_replicate.mp h).2]
      decide
    · obtain ⟨y, _, rfl⟩ := List.mem_map.mp h
      exact char_lt y
  unfold Builtin.Str.reprChar
  dsimp only
  intro x hx
  repeat' split at hx
  all_goals first
    | (simp only [List.mem_cons, List.not_mem_nil, or_false] at hx; rcases hx with rfl | rfl <;> first | assumption | decide)
    | (rw [List.mem_singleton.mp hx]; exact hc)
    | (rcases List.mem_append.mp hx with h | h
       · simp only [List.mem_cons, List.not_mem_nil, or_false] at h
         rcases h with rfl | rfl <;> decide
       · exact hex _ x h)
theorem ch_fold {q : Nat} (hq : q < 2097152) : ∀ (l : List Nat) (acc : Array Nat), (∀ c ∈ l, c < 2097152) → (∀ c ∈ acc.toList, c < 2097152) → ∀ c ∈ (l.foldl (fun out c => out ++ (Builtin.Str.reprChar q c).toArray) acc).toList, c < 2097152
  | [], acc, _, ha => ha
  | c :: r, acc, h, ha => by
    rw [List.foldl_cons]
    refine ch_fold hq r _ (fun d hd => h d (List.mem_cons_of_mem _ hd)) fun d hd => ?_
    rw [Array.toList_append, List.toList_toArray] at hd
    rcases List.mem_append.mp hd with e | e
    · exact ha d e
    · exact ch_reprChar hq (h c List.mem_cons_self) d e
theorem quote_lt (z : Str) : reprQuote z < 2097152 := by
  unfold reprQuote
  split <;> decide
theorem ch_repr {z : Str} (h : chS z = true) : chS (reprText z) = true := by
  unfold chS at *
  rw [List.all_eq_true] at h ⊢
  have h : ∀ c ∈ z.cps.toList, c < 2097152 := fun c hc => of_decide_eq_true (h c hc)
  intro c hc
  apply decide_eq_true
  have hc : c ∈ ((z.cps.foldl (fun out c => out ++ (Builtin.Str.reprChar (reprQuote z) c).toArray) #[reprQuote z]).push (reprQuote z)).toList := hc
  rw [Array.toList_push, ← Array.foldl_toList] at hc
  rcases List.mem_append.mp hc with e | e
  · refine ch_fold (quote_lt z) _ _ h (fun d hd => ?_) c e
    have hd : d ∈ [reprQuote z] := hd
    rw [List.mem_singleton.mp hd]
    exact quote_lt z
  · rw [List.mem_singleton.mp e]
    exact quote_lt z
/-! ### great letters -/
theorem shifted_lt : ∀ {l : List (Nat × Nat × Nat)} {c t : Nat}, (l.all fun q => decide (q.2.2 + (q.2.1 - q.1) < 2097152)) = true → Unicode.shifted l c = some t → t < 2097152
  | [], c, t, _, h => by cases h
  | (a, b, u) :: r, c, t, hl, h => by
    rw [List.all_cons] at hl
    obtain ⟨h1, h2⟩ := Bool.and_eq_true_iff.mp hl
    have h1 : u + (b - a) < 2097152 := of_decide_eq_true h1
    unfold Unicode.shifted at h
    split at h
    · cases h
    · split at h
      · cases h
        omega
      · exact shifted_lt h2 h
theorem upperOf_lt {c : Nat} (hc : c < 2097152) : ∀ x ∈ Unicode.upperOf c, x < 2097152 := by
  intro x hx
  have t1 : (UnicodeData.oneUpper.all fun q => decide (q.2.2 + (q.2.1 - q.1) < 2097152)) = true := by decide +kernel
  have t2 : (UnicodeData.severalUpper.all fun q => q.2.all fun y => decide (y < 2097152)) = true := by decide +kernel
  unfold Unicode.upperOf Unicode.image at hx
  split at hx
  · rename_i cs hl
    have := StrLaws.lookup_all (p := fun l => l.all fun y => decide (y < 2097152)) _ c cs t2 hl
    exact of_decide_eq_true (List.all_eq_true.mp this x hx)
  · rw [List.mem_singleton.mp hx]
    cases q : Unicode.shifted UnicodeData.oneUpper c with
    | none => exact hc
    | some t => exact shifted_lt t1 q
theorem ch_upper {z : Str} (h : chS z = true) : chS (Txt.upper z) = true := by
  unfold chS at *
  rw [List.all_eq_true] at h ⊢
  intro c hc
  apply decide_eq_true
  have hc : c ∈ (z.cps.mapIdx fun _ c => (Unicode.upperOf c).toArray).flatten.toList := hc
  rw [Array.mem_toList_iff, Array.mem_flatten] at hc
  obtain ⟨ar, h1, h2⟩ := hc
  obtain ⟨i, hi, e⟩ := Array.mem_mapIdx.mp h1
  rw [← e] at h2
  have h2 : c ∈ Unicode.upperOf z.cps[i] := by simpa using h2
  refine upperOf_lt (of_decide_eq_true (h _ ?_)) c h2
  rw [Array.mem_toList_iff]
  exact Array.getElem_mem hi
/-! ### what is shown -/
theorem repr_len {z : Str} (h : chS z = true) : (reprText z).length ≤ 10 * z.length + 2 := StrLaws.reprText_len z fun c hc => by
  unfold chS at h
  have := of_decide_eq_true (List.all_eq_true.mp h c hc)
  exact Nat.lt_trans this (by decide)
theorem int_text {i : Int} (h : i.natAbs < 10 ^ 14) : (Str.ofString (toString i)).length ≤ 15 := by
  have h1 := PySem.int_text_length_le10 (a := i) (k := 14) (by decide) h
  have h2 : (Str.ofString (toString i)).length = (toString i).length := by rw [PyProof.Rows.ofString_length, String.length_toList]
  omega
mutual
theorem shown_tw {b : Nat} (hb : b < 10 ^ 14) : ∀ {d : PyData}, gd b d = true → d.shown.length + 2 ≤ 18 * tw d ∧ chS d.shown = true ∧ d.showable = true
  | .none, _ => by rw [PyData.shown, tw, PyData.showable]; exact ⟨by decide +kernel, ch_of _, rfl⟩
  | .bool t, _ => by
    rw [PyData.shown, tw, PyData.showable]
    cases t
    · exact ⟨by decide +kernel, ch_of _, rfl⟩
    · exact ⟨by decide +kernel, ch_of _, rfl⟩
  | .int i, h => by
    have hi := gd_int' h
    rw [PyData.shown, tw, PyData.showable]
    have := int_text (i := i) (by omega)
    refine ⟨?_, ch_of _, decide_eq_true ?_⟩
    · show (Str.ofString (toString i)).length + 2 ≤ 18 * 1
      omega
    · by_cases h0 : i.natAbs = 0
      · rw [h0]; decide
      · have : i.natAbs < 2 ^ 100 := Nat.lt_of_lt_of_le (Nat.lt_of_le_of_lt hi hb) (by decide)
        exact Nat.lt_trans ((Nat.log2_lt h0).mpr this) (by decide)
  | .str z, h => by
    rw [PyData.shown, tw, PyData.showable]
    have := repr_len (gd_str' h)
    exact ⟨by omega, ch_repr (gd_str' h), rfl⟩
  | .dict [], _ => by
    rw [PyData.shown, PyData.shownKv, tw, PyData.showable, PyData.showableKv]
    exact ⟨by decide +kernel, by decide +kernel, rfl⟩
  | .dict (_ :: _), h => by rw [gd] at h; cases h
  | .list xs, h => by
    rw [gd] at h
    obtain ⟨h1, h2, h3⟩ := shownAll_tw hb h
    rw [PyData.shown, tw, PyData.showable]
    have := listText_len_le (PyData.shownAll xs)
    have e := PyData.shownAll_length xs
    refine ⟨by omega, ?_, h3⟩
    rw [listText_eq_join]
    exact ch_app (ch_app (ch_of _) (ch_join (ch_of _) h2)) (ch_of _)
  | .tuple xs, h => by
    rw [gd] at h
    obtain ⟨h1, h2, h3⟩ := shownAll_tw hb h
    rw [PyData.shown, tw, PyData.showable]
    have := tupleText_len_le (PyData.shownAll xs)
    have e := PyData.shownAll_length xs
    refine ⟨by omega, ?_, h3⟩
    exact ch_app (ch_app (ch_of _) (ch_join (ch_of _) h2)) (ch_of _)
theorem shownAll_tw {b : Nat} (hb : b < 10 ^ 14) : ∀ {ds : List PyData}, gdAll b ds = true → ((PyData.shownAll ds).map (·.length)).sum + 2 * ds.length ≤ 18 * twAll ds ∧ (∀ t ∈ PyData.shownAll ds, chS t = true) ∧ PyData.showableAll ds = true
  | [], _ => by rw [PyData.shownAll, twAll, PyData.showableAll]; exact ⟨by decide, fun t ht => (by cases ht), rfl⟩
  | d :: r, h => by
    rw [gdAll] at h
    obtain ⟨h1, h2⟩ := Bool.and_eq_true_iff.mp h
    obtain ⟨a1, a2, a3⟩ := shown_tw hb h1
    obtain ⟨b1, b2, b3⟩ := shownAll_tw hb h2
    rw [PyData.shownAll, twAll, PyData.showableAll, a3, b3]
    refine ⟨?_, fun t ht => ?_, rfl⟩
    · rw [List.map_cons, List.sum_cons, List.length_cons]
      omega
    · rcases List.mem_cons.mp ht with e | e
      · rw [e]; exact a2
      · exact b2 t e
end
theorem sh_ok {b : Nat} {d : PyData} (hb : b < 10 ^ 14) (h : gd b d = true) (ht : tw d ≤ 880000) (hd : d.depth ≤ 100) : shOk d := by
  obtain ⟨h1, _, h3⟩ := shown_tw hb h
  exact ⟨h3, by omega, hd⟩
/-! ### rows -/
theorem sig9_ch {z : Str} (h : z ∈ sig9) : chS z = true := by
  have h : ∀ z ∈ sig9, chS z = true := by decide +kernel
  exact h z ‹_›
theorem az_ch {z : Str} (h : azAll z = true) : chS z = true := by
  unfold azAll at h
  unfold chS
  rw [List.all_eq_true] at h ⊢
  intro c hc
  have := of_decide_eq_true (Bool.and_eq_true_iff.mp (h c hc)).2
  exact decide_eq_true (by omega)
theorem are_tw {b : Nat} {d : PyData} (h : pAre d = true) : gd b d = true ∧ tw d ≤ 82 := by
  cases d with
  | tuple ds =>
    obtain ⟨h1, h2⟩ := loop_len (k := 0) h
    have key : ∀ l : List PyData, (∀ d ∈ l, ∃ z, d = .str z ∧ z ∈ sig9) → twAll l ≤ 9 * l.length := by
      intro l
      induction l with
      | nil => intro _; rw [twAll]; exact Nat.zero_le _
      | cons a r ih =>
        intro hl
        obtain ⟨z, rfl, hz⟩ := hl a List.mem_cons_self
        have := ih fun d hd => hl d (List.mem_cons_of_mem _ hd)
        have := sig9_len hz
        rw [twAll_cons, tw_str, List.length_cons]
        omega
    refine ⟨gd_tup fun d hd => ?_, ?_⟩
    · obtain ⟨z, rfl, hz⟩ := h2 d hd
      exact gd_str (sig9_ch hz)
    · have := key ds h2
      rw [tw_tup]
      omega
  | _ => cases h
theorem one_tw {b : Nat} {d : PyData} {ws : List Str} (h : pOne d ws = true) (hw : ∀ z ∈ ws, z.length ≤ 40 ∧ chS z = true) : gd b d = true ∧ tw d ≤ 84 := by
  cases d with
  | str z =>
    have hz := hw z (of_decide_eq_true h)
    exact ⟨gd_str hz.2, by rw [tw_str]; omega⟩
  | _ => cases h
theorem near_tw {i : Int} (h : near (.int i) = true) : gd 1000000000 (.int i) = true ∧ tw (.int i) ≤ 84 := by
  have h : (decide (-1000000000 ≤ i) && decide (i ≤ 1000000000)) = true := h
  obtain ⟨h1, h2⟩ := Bool.and_eq_true_iff.mp h
  have h1 := of_decide_eq_true h1
  have h2 := of_decide_eq_true h2
  exact ⟨gd_int (by omega), by rw [tw]; decide⟩
theorem part_tw {k : Str} {d : PyData} {n : Int} (h : pPart k d n = true) (hn : n ≤ 1000) (hd : near d = true) : gd 1000000000 d = true ∧ tw d ≤ 84 := by
  have hone : ∀ {ws : List Str}, pOne d ws = true → (∀ z ∈ ws, z.length ≤ 40 ∧ chS z = true) → gd 1000000000 d = true ∧ tw d ≤ 84 := fun h hw => one_tw h hw
  have hrow : ∀ {e : PyData}, pRowNo e n = true → gd 1000000000 e = true ∧ tw e = 1 := fun {e} h => by
    cases e with
    | int i =>
      have h : (decide (0 ≤ i) && decide (i < n)) = true := h
      obtain ⟨h1, h2⟩ := Bool.and_eq_true_iff.mp h
      have h1 := of_decide_eq_true h1
      have h2 := of_decide_eq_true h2
      exact ⟨gd_int (by omega), by rw [tw]⟩
    | _ => cases h
  unfold pPart at h
  repeat' split at h
  · cases d with
    | str z =>
      have h : (decide (1 ≤ z.length) && decide (z.length ≤ 8) && azAll z) = true := h
      have h2 := of_decide_eq_true (Bool.and_eq_true_iff.mp (Bool.and_eq_true_iff.mp h).1).2
      exact ⟨gd_str (az_ch (Bool.and_eq_true_iff.mp h).2), by rw [tw_str]; omega⟩
    | _ => cases h
  · cases d with
    | int i => exact near_tw hd
    | _ => cases h
  · cases d with
    | int i => exact near_tw hd
    | _ => cases h
  · cases d with
    | bool b => exact ⟨gd_bool, by rw [tw]; decide⟩
    | _ => cases h
  · obtain ⟨a, b⟩ := hrow h
    exact ⟨a, by omega⟩
  · exact hone h (by decide +kernel)
  · rw [pLoose_eq] at h
    exact hone h (by decide +kernel)
  · obtain ⟨a, b⟩ := are_tw (b := 1000000000) h
    exact ⟨a, by omega⟩
  · rcases Bool.or_eq_true_iff.mp h with h | h
    · exact hone h (by decide +kernel)
    · unfold pHandler at h
      split at h
      · rename_i d1 d2
        obtain ⟨h1, h2⟩ := Bool.and_eq_true_iff.mp h
        obtain ⟨a1, b1⟩ := hrow h1
        obtain ⟨a2, b2⟩ := are_tw (b := 1000000000) h2
        refine ⟨gd_tup (fun e he => ?_), ?_⟩
        · rcases List.mem_cons.mp he with e1 | he
          · rw [e1]; exact a1
          · rw [List.mem_singleton.mp he]; exact a2
        · rw [tw_tup, twAll_cons, twAll_cons, twAll_nil]
          omega
      · cases h
  · exact hone h (by decide +kernel)
  · unfold pChild at h
    repeat' split at h
    · rename_i hn
      cases d with
      | int i => exact near_tw hd
      | _ => cases hn
    · cases d with
      | none => exact ⟨gd_non, by rw [tw]; decide⟩
      | _ => cases h
    · exact hone h (by decide +kernel)
    · exact hone h (by decide +kernel)
theorem parts_tw {n : Int} (hn : n ≤ 1000) : ∀ {ks : List Str} {ds : List PyData}, ds.length = ks.length → ds.all near = true → pParts n ks ds = true → gdAll 1000000000 ds = true ∧ twAll ds ≤ 84 * ds.length
  | [], [], _, _, _ => by rw [gdAll, twAll]; exact ⟨rfl, Nat.zero_le _⟩
  | k :: ks, e :: ds, hl, hb, h => by
    unfold pParts at h
    obtain ⟨h1, h2⟩ := Bool.and_eq_true_iff.mp h
    rw [List.all_cons] at hb
    obtain ⟨b1, b2⟩ := Bool.and_eq_true_iff.mp hb
    obtain ⟨c1, c2⟩ := part_tw h1 hn b1
    obtain ⟨d1, d2⟩ := parts_tw hn (by simpa using hl) b2 h2
    rw [gdAll, twAll, c1, d1, List.length_cons]
    exact ⟨rfl, by omega⟩
  | [], _ :: _, hl, _, _ => by cases hl
  | _ :: _, [], hl, _, _ => by cases hl
theorem forms_ch {w : Str} {ks : List Str} (h : forms.lookup w = some ks) : chS w = true := by
  have all : ∀ p ∈ forms, chS p.1 = true := by decide +kernel
  have key : ∀ (l : List (Str × List Str)), l.lookup w = some ks → (w, ks) ∈ l := by
    intro l
    induction l with
    | nil => intro q; cases q
    | cons p r ih =>
      intro q
      obtain ⟨a, b⟩ := p
      rw [List.lookup_cons] at q
      split at q
      · rename_i e
        have e := eq_of_beq e
        cases q
        rw [e]
        exact List.mem_cons_self
      · exact List.mem_cons_of_mem _ (ih q)
  exact all _ (key _ h)
theorem row_tw {d : PyData} {n : Int} (h : pRow d n = true) (hn : n ≤ 1000) (hb : nearAll d = true) : gd 1000000000 d = true ∧ tw d ≤ 220 := by
  unfold pRow at h
  split at h
  · rename_i w ps
    split at h
    · rename_i ks hk
      obtain ⟨h1, h2⟩ := Bool.and_eq_true_iff.mp h
      have h1 := of_decide_eq_true h1
      obtain ⟨f1, f2⟩ := forms_le hk
      have hb : (near (.str w) && ps.all near) = true := hb
      obtain ⟨k1, k2⟩ := parts_tw hn h1 (Bool.and_eq_true_iff.mp hb).2 h2
      refine ⟨gd_tup fun d hd => ?_, ?_⟩
      · rcases List.mem_cons.mp hd with q | q
        · rw [q]
          exact gd_str (forms_ch hk)
        · exact gdAll_mem k1 d q
      · rw [tw_tup, twAll_cons, tw_str]
        omega
    · cases h
  · cases h
end Kin
namespace Kin
open PySem PySem.Spec PyProof.Rows L2
/-- a class whose __init__ keeps its promise -/
structure Mk (P : Program) (w : World) (K : PySem.W.Frag) (mg : Str → Option Value) (base : Heap) (C : Addr) (ps : List Str) (sp : Sp) : Prop where
  ex : ∃ (fI : Addr) (fd : FuncData), PySem.W.findIn K (.ref C) "__init__" = some (some (.ref fI)) ∧ PySem.W.typeIn K (.ref fI) = some (.type "function") ∧ FnOk P w K mg base CX0 1 fI fd ps sp ∧ Binds K fd ps []
def fld : Nat → Str
  | 0 => "title"
  | 1 => "name"
  | 2 => "name"
  | _ => "row"
structure Es (P : Program) (w : World) (K : PySem.W.Frag) (mg : Str → Option Value) (base : Heap) : Prop where
  em : Em K mg
  xf : ∀ i, i < 11 → XfC K (cl K i)
  no : ∀ i, i < 4 → PySem.W.findIn K (.ref (cl K i)) (fld i) = some none
  one : ∀ i, i < 4 → Mk P w K mg base (cl K i) ["self", fld i] (spIni1 K (cl K i) (fld i))
  zer : ∀ i, 4 ≤ i → i < 11 → Mk P w K mg base (cl K i) ["self"] (spIni0 K (cl K i))
  gk : mg "KinError" = some (.ref (He.ga K "KinError"))
  gv : mg "ValueError" = none
  kk : ∀ i, i < 11 → PySem.W.kitOne K (.ref (cl K i)) (.ref (He.ga K "KinError")) = some true
  kv : ∀ i, i < 11 → PySem.W.kitOne K (.ref (cl K i)) (.type "ValueError") = some true
section
variable {X : Cx} {x : Str} {ps : List Str} {sp : Sp} {e : Expr} {es : List Expr} {ta : TA} {p pos : Pos} {C : Addr}
theorem pe_mkC (T : OexC X.K C) (m : Mk X.prog X.w X.K X.mg X.base C ps sp) (hr : Room 2 X.A) (hg : Gl X x) (hm : X.mg x = some (.ref C)) (hx : Passes CX0 X (fun _ _ _ => False)) (ha : PA X (e :: es) ta) (hdb : (x == ("__debug__" : Str)) = false := by decide)
    (he : starEach (e :: es) X.env = (false, eval e X.env) :: starEach es X.env := by rfl) (hpl : (backTo pos (starEach es X.env)).any (·.1) = false := by rfl) : PE X (.Call (.Name x p) (e :: es) [] pos) (tMkE C sp [] ta) := by
  obtain ⟨fI, fd, h1, h2, h3, h4⟩ := m.ex
  exact pe_mkE T h1 h2 h3 hr h4 .nil hx hg hm ha hdb he hpl
theorem pe_mkC0 (T : OexC X.K C) (m : Mk X.prog X.w X.K X.mg X.base C ps sp) (hr : Room 2 X.A) (hg : Gl X x) (hm : X.mg x = some (.ref C)) (hx : Passes CX0 X (fun _ _ _ => False)) (hdb : (x == ("__debug__" : Str)) = false := by decide) :
    PE X (.Call (.Name x p) [] [] pos) (tMkE C sp [] tNil) := by
  obtain ⟨fI, fd, h1, h2, h3, h4⟩ := m.ex
  exact pe_mkE0 T h1 h2 h3 hr h4 .nil hx hg hm hdb
end
section
variable {P : Program} {w : World} {K : PySem.W.Frag} {mg : Str → Option Value} {base : Heap} {σ : L2.St} {H : Hp} {ts : TA} {Q : List V → Hp → Prop} {i j : Nat} {y : V}
theorem mk1 (S : Es P w K mg base) (hi : i < 4) (hv : σ[j]? = some (some y)) (q : ∀ a H', Same H H' → H a = none → Ex1 K H' a (cl K i) (fld i) y → ts σ H' fun xs H2 => Q (.ref a :: xs) H2) :
    tCons (tMkE (cl K i) (spIni1 K (cl K i) (fld i)) [] (tCons (tVar j) tNil)) ts σ H Q :=
  ⟨y, hv, (show (1 : Nat) ≤ 1000 by decide), fun a n => made1 (Q := fun x H1 => ts σ H1 fun xs H2 => Q (x :: xs) H2) (S.em.oex i (by omega)) (S.no i hi) (fun a' H' s n' e => q a' H' s n' e) a n⟩
theorem mk0 (S : Es P w K mg base) (hi : i < 11) (q : ∀ a H', Same H H' → H a = none → Exn K H' a i → ts σ H' fun xs H2 => Q (.ref a :: xs) H2) :
    tCons (tMkE (cl K i) (spIni0 K (cl K i)) [] tNil) ts σ H Q :=
  ⟨(show (0 : Nat) ≤ 1000 by decide), fun a n => made0 (Q := fun x H1 => ts σ H1 fun xs H2 => Q (x :: xs) H2) (S.em.oex i hi) (fun a' H' s n' e => q a' H' s n' e) a n⟩
end
section
variable {X : Cx}
def rInD' (K : PySem.W.Frag) : R2 := fun u v H Q => ∃ a bs, Dp K H u a ∧ Dp K H v (.list bs) ∧ SeqAt.shaped a = true ∧ SeqAt.shaped (.list bs) = true ∧ Q (.bl (bs.any fun z => z.eqv a)) H
theorem op_inD' (hu : X.A.units + 65 < cLine) : OpR X (compareOp .In) (rInD' X.K) := fun pins s σ H x y v u Q I rx ry h => by
  obtain ⟨d, e, hd, he, sd, se, q⟩ := h
  exact L2.op_inD hu pins s σ H x y v u Q I rx ry ⟨d, e, dp_L2 (SeqAt.canLay_of_shaped sd) hd, dp_L2 (SeqAt.canLay_of_shaped se) he, sd, se, q⟩
end
end Kin
namespace Kin
open PySem PySem.Spec PyProof.Rows L2
section
variable {P : Program} {w : World} {K : PySem.W.Frag} {mg : Str → Option Value} {base : Heap} {tL : Tok} {es : Array DictEntry} {nF : Nat}
theorem atI_lt {α : Type} {xs : List α} {k : Int} (h0 : 0 ≤ k) (h1 : k < (xs.length : Int)) : ∃ v, atI xs k = some v ∧ v ∈ xs := by
  unfold atI ixN
  rw [if_pos h0, if_pos h1]
  have hl : k.toNat < xs.length := by omega
  exact ⟨xs[k.toNat], by show xs[k.toNat]? = _; rw [List.getElem?_eq_getElem hl], List.getElem_mem hl⟩
abbrev s__law_of : Stmt := topS 36
theorem sc__law_of : FnScope [("_law_hand_here" : Str), ("_law_some" : Str)] ["_law_hand_here", "_law_some"] (defScope s__law_of) := ⟨rfl, rfl, rfl, by decide +kernel, rfl, by decide +kernel, by decide +kernel⟩
theorem ok__law_of {f : Addr} {fd : FuncData} (F : FnP K "_law_of" s__law_of f fd) (T : Bi K w mg tL es nF) (c__law_pick : Cal P w K mg base "_law_pick" ["_law_hand_here", "_law_many"] 1 spPick) : FnOk P w K mg base CX0 2 f fd ["_law_hand_here", "_law_some"] (spOf K) := by
  refine F.ok sc__law_of (fun vs H Q E h => ?_) (fun cdv A outer s H vs Q E hr h => ?_)
  · obtain ⟨x, l, sv, rfl, _⟩ := h
    rfl
  · obtain ⟨x, l, sv, rfl, hh, h⟩ := h
    refine ⟨_, PSs.nox (pss_one (ps_ret (pe_ix ix_seq (pv 1) (pe_cal c__law_pick (hr.mono (by decide)) (by rfl) pass0 (pa_cons (pv 0) (pa_cons (pe_callB (CallR.or call_len_seq call_len_str) (by rfl) T.n_len PySem.boot_len (pa_cons (pv 1) pa_nil)) pa_nil))) (fun _ _ => rfl)))), ?_⟩
    rcases h with ⟨a, xs, rfl, ha, hx0, hx1, k⟩ | ⟨z, rfl, hz0, hz1, k⟩
    · refine ⟨_, rfl, _, rfl, _, rfl, .inl ⟨a, xs, rfl, ?_, x, l, _, rfl, hh, by omega, by omega, fun i H1 h0 h1 hh1 f1 => ?_⟩⟩
      · rcases ha with ha | ha
        · exact .inl (off_sub.seq ha)
        · exact .inr (Same.tup off_sub ha)
      · obtain ⟨v, hv, hm⟩ := atI_lt h0 h1
        rcases ha with ha | ha
        · exact .inl ⟨a, xs, i, v, rfl, rfl, off_sub.seq (f1.same.seq ha), hv, k v H1 hm hh1 f1⟩
        · exact .inr (.inl ⟨a, xs, i, v, rfl, rfl, Same.tup off_sub (Same.tup f1.same ha), hv, k v H1 hm hh1 f1⟩)
    · refine ⟨_, rfl, _, rfl, _, rfl, .inr ⟨z, rfl, Nat.le_trans hz1 (by decide), x, l, _, rfl, hh, by omega, by omega, fun i H1 h0 h1 hh1 f1 => ?_⟩⟩
      have hl : z.cps.toList.length = z.length := by rw [Array.length_toList]; rfl
      obtain ⟨c, hc, hm⟩ := atI_lt (xs := z.cps.toList) h0 (by rw [hl]; exact h1)
      exact .inr (.inr ⟨z, i, c, rfl, rfl, Nat.le_trans hz1 (by decide), hc, k c H1 hm hh1 f1⟩)
end
end Kin
namespace Kin
open PySem PySem.Spec PyProof.Rows L2
section
variable {P : Program} {w : World} {K : PySem.W.Frag} {mg : Str → Option Value} {base : Heap} {tL : Tok} {es : Array DictEntry} {nF : Nat}
theorem at1 {α : Type} (a b : α) : atI [a, b] 1 = some b := rfl
abbrev s__law_pick : Stmt := topS 35
theorem sc__law_pick : FnScope [("_law_hand_here" : Str), ("_law_many" : Str), ("_law_digit" : Str), ("_law_mixed" : Str)] ["_law_hand_here", "_law_many"] (defScope s__law_pick) := ⟨rfl, rfl, rfl, by decide +kernel, rfl, by decide +kernel, by decide +kernel⟩
theorem ok__law_pick {f : Addr} {fd : FuncData} (F : FnP K "_law_pick" s__law_pick f fd) (T : Bi K w mg tL es nF) : FnOk P w K mg base CX0 1 f fd ["_law_hand_here", "_law_many"] spPick := by
  refine F.ok sc__law_pick (fun vs H Q E h => ?_) (fun cdv A outer s H vs Q E hr h => ?_)
  · obtain ⟨x, l, many, rfl, _⟩ := h
    rfl
  · obtain ⟨x, l, many, rfl, ⟨n0, hn0, hh⟩, hm0, hm1, k⟩ := h
    refine ⟨_, PSs.nox (Evl.pss_cut (ps_while PassesOwn.never (PW.pt (pw_and (pt_cmpR (op_neD hr.units) (pe_ix ix_list (pv 0) pe_int (fun _ _ => rfl)) (pe_lst pa_nil) (nomark _)) (pw_and1 (pt_cmpR op_eq (pe_ix ix_list (pe_ix ix_list (pv 0) pe_int (fun _ _ => rfl)) pe_int (fun _ _ => rfl)) pe_int (nomark _))))) (pss_one (ps_expr (pe_bm PySem.F.plainAttrs_list PySem.F.slot_list_pop PySem.F.type_list_pop mt_popAt (pe_ix ix_list (pv 0) pe_int (fun _ _ => rfl)) (pa_cons pe_int pa_nil))))) (pss_cons (ps_if (pt_cmpR (op_neD hr.units) (pe_ix ix_list (pv 0) pe_int (fun _ _ => rfl)) (pe_lst pa_nil) (nomark _)) (pss_cons (ps_set (i := 2) sc__law_pick.nd rfl (by first | exact .inl rfl | exact .inr rfl) (pe_op op_mod (pe_ix ix_list (pe_ix ix_list (pv 0) pe_int (fun _ _ => rfl)) pe_int (fun _ _ => rfl)) (pv 1))) (pss_cons (ps_asg (pe_op op_fdiv (pe_ix ix_list (pe_ix ix_list (pv 0) pe_int (fun _ _ => rfl)) pe_int (fun _ _ => rfl)) (pv 1)) (pg_sub (pe_ix ix_list (pv 0) pe_int (fun _ _ => rfl)) pe_int set_list)) (pss_one (ps_ret (pv 2))))) pss_nil) (pss_cons (ps_asg (pe_op op_mod (pe_op op_add (pe_op op_mul (pe_ix ix_list (pv 0) pe_int (fun _ _ => rfl)) pe_int) pe_int) pe_int) (pg_sub (pv 0) pe_int set_list)) (pss_cons (ps_set (i := 3) sc__law_pick.nd rfl (by first | exact .inl rfl | exact .inr rfl) (pe_op op_fdiv (pe_ix ix_list (pv 0) pe_int (fun _ _ => rfl)) pe_int)) (pss_one (ps_ret (pe_op op_mod (pe_op op_fdiv (pe_op op_mod (pe_op op_mul (pv 3) (pe_op op_add (pe_op op_mod (pv 3) pe_int) pe_int)) pe_int) pe_int) (pv 1)))))))), ?_⟩
    refine ⟨fun σ H' => ∃ m, m ≤ n0 ∧ σ = [some (.ref x), some (.int many), none, none] ∧ Off x l H H' ∧ HandN m x l H',
      ⟨fun m σ H' => m ≤ n0 ∧ σ = [some (.ref x), some (.int many), none, none] ∧ Off x l H H' ∧ HandN m x l H', ⟨n0, Nat.le_refl _, rfl, Off.refl, hh⟩, ?_⟩, ?_⟩
    · rintro m σ H1 ⟨hm, rfl, f1, h1⟩
      obtain ⟨cells, seed, ex, el, hs0, hs1, hc0, hcn⟩ := h1.ex
      refine ⟨_, rfl, x, _, 0, .ref l, rfl, rfl, .inl (.inl ex), rfl, Nat.zero_le _, fun p hp => ?_⟩
      have s1 := same_upd (o := .lst []) hp
      refine ⟨.list (cells.map .int), .list [], .lst (.inl (.inl (s1 _ _ el))) (dp_ints cells), .lst sqL_new .nil, shaped_ints cells, (by decide +kernel), _, rfl, ?_⟩
      rw [eqv_lnil]
      have hh1 := h1.same s1
      cases cells with
      | nil => exact iteF (iteF ⟨m, hm, rfl, f1.trans (Off.of s1), hh1⟩)
      | cons c0 cr =>
        refine iteT ⟨_, rfl, x, _, 0, .ref l, rfl, rfl, .inl (.inl (s1 _ _ ex)), rfl, l, _, 0, .int c0, rfl, rfl, .inl (.inl (s1 _ _ el)), at0 _ _, rfl, _, rfl, ?_⟩
        refine ite2 (fun e => ?_) (fun e => ?_)
        · refine ⟨fun σ' H' => σ' = [some (.ref x), some (.int many), none, none] ∧ Off x l H H' ∧ HandN cr.length x l H', fun σ' H' h => ⟨cr.length, ?_, ?_, h⟩, ?_⟩
          · rw [← hcn, List.length_cons]
            omega
          · rw [← hcn, List.length_cons] at hm
            omega
          · refine ⟨_, rfl, x, _, 0, .ref l, rfl, rfl, .inl (.inl (s1 _ _ ex)), rfl, .inl ⟨rfl, _, .inl (.inl (s1 _ _ el))⟩, l, _, 0, 0, .int c0, rfl, rfl, s1 _ _ el, by decide, by decide, ?_, rfl, ?_⟩
            · rw [List.map_cons, List.length_cons]
              exact seqIndex_of (by decide) (by omega)
            · refine ⟨rfl, ?_, ⟨cr, seed, ?_, ?_, hs0, hs1, fun c hc => hc0 c (List.mem_cons_of_mem _ hc), rfl⟩, h1.ne⟩
              · intro b o hb1 hb2 hb
                rw [upd_ne hb2]
                exact s1 _ _ (f1 b o hb1 hb2 hb)
              · rw [upd_ne h1.ne]
                exact s1 _ _ ex
              · exact upd_same
        · exact ⟨m, hm, rfl, f1.trans (Off.of s1), hh1⟩
    · rintro σ H1 ⟨m, hm, rfl, f1, h1⟩
      obtain ⟨cells, seed, ex, el, hs0, hs1, hc0, hcn⟩ := h1.ex
      refine ⟨_, rfl, x, _, 0, .ref l, rfl, rfl, .inl (.inl ex), rfl, Nat.zero_le _, fun p hp => ?_⟩
      have s1 := same_upd (o := .lst []) hp
      refine ⟨.list (cells.map .int), .list [], .lst (.inl (.inl (s1 _ _ el))) (dp_ints cells), .lst sqL_new .nil, shaped_ints cells, (by decide +kernel), _, rfl, ?_⟩
      rw [eqv_lnil]
      have ex1 := s1 _ _ ex
      have el1 := s1 _ _ el
      cases cells with
      | cons c0 cr =>
        refine iteT ?_
        have hc : 0 ≤ c0 := hc0 c0 (by simp)
        refine ⟨_, rfl, x, _, 0, .ref l, rfl, rfl, .inl (.inl ex1), rfl, l, _, 0, .int c0, rfl, rfl, .inl (.inl el1), at0 _ _, _, rfl, _, _, rfl, rfl, hm0, ?_⟩
        refine ⟨_, rfl, x, _, 0, .ref l, rfl, rfl, .inl (.inl ex1), rfl, l, _, 0, .int c0, rfl, rfl, .inl (.inl el1), at0 _ _, _, rfl, _, _, rfl, rfl, ⟨hm0, by omega⟩, _, rfl, x, _, 0, .ref l, rfl, rfl, .inl (.inl ex1), rfl, l, _, 0, 0, rfl, rfl, el1, ?_, _, rfl, ?_⟩
        · rw [List.map_cons, List.length_cons]
          unfold ixN
          rw [if_pos (by decide), if_pos (by omega)]
          rfl
        · refine k _ _ (Int.emod_nonneg _ (by omega)) (Int.emod_lt_of_pos _ hm0) ⟨m, by omega, ⟨(c0 / many) :: cr, seed, ?_, ?_, hs0, hs1, ?_, hcn⟩, h1.ne⟩ ?_
          · rw [upd_ne h1.ne]
            exact ex1
          · exact upd_same
          · intro z hz
            rcases List.mem_cons.mp hz with q | q
            · rw [q]
              exact Int.ediv_nonneg hc (by omega)
            · exact hc0 z (List.mem_cons_of_mem _ q)
          · intro b o hb1 hb2 hb
            rw [upd_ne hb2]
            exact s1 _ _ (f1 b o hb1 hb2 hb)
      | nil =>
        refine iteF ?_
        refine ⟨_, rfl, x, _, 1, .int seed, rfl, rfl, .inl (.inl ex1), rfl, _, _, rfl, rfl, .inr ⟨by decide, by decide⟩, _, _, rfl, rfl, _, _, rfl, rfl, (by show (0 : Int) < 2305843009213693951; decide), _, rfl, x, _, 1, 1, rfl, rfl, ex1, rfl, ?_⟩
        have hb0 : ∀ z : Int, 0 ≤ z % 8191 := fun z => Int.emod_nonneg _ (by decide)
        have hb1 : ∀ z : Int, z % 8191 < 8191 := fun z => Int.emod_lt_of_pos _ (by decide)
        have hx1 := upd_same (H := upd H1 p (.lst [])) (a := x) (o := .lst ([V.ref l, V.int seed].set 1 (V.int ((seed * 3935559000370003 + 2691343689449507) % 2305843009213693951))))
        refine ⟨_, rfl, x, _, 1, _, rfl, rfl, .inl (.inl hx1), rfl, _, _, rfl, rfl, ⟨by decide, by decide⟩, ?_⟩
        refine ⟨_, rfl, _, rfl, _, _, rfl, rfl, (by show (0 : Int) < 8191; decide), _, _, rfl, rfl, _, _, rfl, rfl, .inr ⟨?_, ?_⟩, _, _, rfl, rfl, (by show (0 : Int) < 2305843009213693921; decide), _, _, rfl, rfl, ⟨by decide, by decide⟩, _, rfl, _, _, rfl, rfl, hm0, ?_⟩
        · have := hb0 ((seed * 3935559000370003 + 2691343689449507) % 2305843009213693951 / 65537)
          show (-(2 ^ 64) : Int) < (seed * 3935559000370003 + 2691343689449507) % 2305843009213693951 / 65537 % 8191 + 3
          omega
        · have := hb1 ((seed * 3935559000370003 + 2691343689449507) % 2305843009213693951 / 65537)
          show (seed * 3935559000370003 + 2691343689449507) % 2305843009213693951 / 65537 % 8191 + 3 < 2 ^ 64
          omega
        · refine k _ _ (Int.emod_nonneg _ (by omega)) (Int.emod_lt_of_pos _ hm0) ⟨m, by omega, ⟨[], (seed * 3935559000370003 + 2691343689449507) % 2305843009213693951, hx1, ?_, Int.emod_nonneg _ (by decide), Int.emod_lt_of_pos _ (by decide), by simp, hcn⟩, h1.ne⟩ ?_
          · rw [upd_ne h1.ne.symm]
            exact el1
          · intro b o hb1 hb2 hb
            rw [upd_ne hb1]
            exact s1 _ _ (f1 b o hb1 hb2 hb)
end
end Kin
namespace Kin
open PySem PySem.Spec PyProof.Rows L2
theorem boot_ValueError : bootBuiltins "ValueError" = some (.type "ValueError") := by decide +kernel
def spRef (K : PySem.W.Frag) : Sp := fun vs H Q _ => ∃ (x l : Addr), vs = [.ref x] ∧ Hand x l H ∧ ∀ H', Hand x l H' → Off x l H H' → Q (.bl true) H'
theorem dpA_bools {K : PySem.W.Frag} {H : Hp} {i : Nat} (l : List Nat) : DpAll K H (l.map fun k => V.bl (i == k)) (l.map fun k => PyData.bool (i == k)) := by
  induction l with
  | nil => exact .nil
  | cons k r ih => exact .cons (.bl _) ih
theorem shaped_marks : ∀ i, i < 11 → SeqAt.shaped (.list ((List.range 11).map fun k => PyData.bool (i == k))) = true := by decide +kernel
theorem eqv_marks : ∀ i, i < 11 → (!PyData.eqv (.list ((List.range 11).map fun k => PyData.bool (i == k))) (.list ((List.range 11).map fun k => PyData.bool (i == k)))) = false := by decide +kernel
section
variable {P : Program} {w : World} {K : PySem.W.Frag} {mg : Str → Option Value} {base : Heap} {tL : Tok} {es : Array DictEntry} {nF : Nat}
abbrev s__law_refusals_right : Stmt := topS 38
theorem sc__law_refusals_right : FnScope [("_law_hand_here" : Str), ("_law_thing" : Str), ("_law_row" : Str), ("_law_made" : Str), ("_law_at" : Str), ("_law_one" : Str), ("_law_k" : Str)] ["_law_hand_here"] (defScope s__law_refusals_right) := ⟨rfl, rfl, rfl, by decide +kernel, rfl, by decide +kernel, by decide +kernel⟩
theorem ok__law_refusals_right {f : Addr} {fd : FuncData} (F : FnP K "_law_refusals_right" s__law_refusals_right f fd) (T : Bi K w mg tL es nF) (S : Es P w K mg base) (mods : ∃ mm, base.Ns sysModules mm) (c__law_pick : Cal P w K mg base "_law_pick" ["_law_hand_here", "_law_many"] 1 spPick) (c__law_of : Cal P w K mg base "_law_of" ["_law_hand_here", "_law_some"] 2 (spOf K)) (c__law_marks : Cal P w K mg base "_law_marks" ["_law_one"] 1 (spMarks K)) : FnG P w K mg base CX0 3 f fd ["_law_hand_here"] (spRef K) := by
  refine okG F sc__law_refusals_right (fun vs H Q E h => ?_) (fun cdv A outer s H vs Q E hG hr h => ?_)
  · obtain ⟨x, l, rfl, _⟩ := h
    rfl
  · obtain ⟨x, l, rfl, hh, k⟩ := h
    refine ⟨_, PSs.nox (pss_cons (ps_par (i := 1) (j := 2) rfl sc__law_refusals_right.nd rfl rfl (by decide) rfl rfl (pa_cons (pe_cal c__law_of (hr.mono (by decide)) (by rfl) pass0 (pa_cons (pv 0) (pa_cons (pe_lst (pa_cons pe_non (pa_cons pe_str (pa_cons (pe_tup (pa_cons pe_int (pa_cons pe_int pa_nil))) (pa_cons (pe_lst (pa_cons pe_int pa_nil)) (pa_cons pe_bl (pa_cons (pe_tup (pa_cons pe_str (pa_cons (pe_tup pa_nil) pa_nil))) pa_nil))))))) pa_nil))) (pa_cons (pe_cal c__law_pick (hr.mono (by decide)) (by rfl) pass0 (pa_cons (pv 0) (pa_cons (pe_op op_pow pe_int pe_int) pa_nil))) pa_nil)) (by rfl)) (pss_cons (ps_set (i := 3) sc__law_refusals_right.nd rfl (by first | exact .inl rfl | exact .inr rfl) (pe_lst (pa_cons (pe_mkC (S.em.oex 0 (by decide)) (S.one 0 (by decide)) hr (by rfl) (S.em.g 0 (by decide)) pass0 (pa_cons (pv 1) pa_nil)) (pa_cons (pe_mkC (S.em.oex 1 (by decide)) (S.one 1 (by decide)) hr (by rfl) (S.em.g 1 (by decide)) pass0 (pa_cons (pv 1) pa_nil)) (pa_cons (pe_mkC (S.em.oex 2 (by decide)) (S.one 2 (by decide)) hr (by rfl) (S.em.g 2 (by decide)) pass0 (pa_cons (pv 1) pa_nil)) (pa_cons (pe_mkC (S.em.oex 3 (by decide)) (S.one 3 (by decide)) hr (by rfl) (S.em.g 3 (by decide)) pass0 (pa_cons (pv 2) pa_nil)) (pa_cons (pe_mkC0 (S.em.oex 4 (by decide)) (S.zer 4 (by decide) (by decide)) hr (by rfl) (S.em.g 4 (by decide)) pass0) (pa_cons (pe_mkC0 (S.em.oex 5 (by decide)) (S.zer 5 (by decide) (by decide)) hr (by rfl) (S.em.g 5 (by decide)) pass0) (pa_cons (pe_mkC0 (S.em.oex 6 (by decide)) (S.zer 6 (by decide) (by decide)) hr (by rfl) (S.em.g 6 (by decide)) pass0) (pa_cons (pe_mkC0 (S.em.oex 7 (by decide)) (S.zer 7 (by decide) (by decide)) hr (by rfl) (S.em.g 7 (by decide)) pass0) pa_nil)))))))))) (pss_cons (ps_set (i := 3) sc__law_refusals_right.nd rfl (by first | exact .inl rfl | exact .inr rfl) (pe_op op_cat (pv 3) (pe_lst (pa_cons (pe_mkC0 (S.em.oex 8 (by decide)) (S.zer 8 (by decide) (by decide)) hr (by rfl) (S.em.g 8 (by decide)) pass0) (pa_cons (pe_mkC0 (S.em.oex 9 (by decide)) (S.zer 9 (by decide) (by decide)) hr (by rfl) (S.em.g 9 (by decide)) pass0) (pa_cons (pe_mkC0 (S.em.oex 10 (by decide)) (S.zer 10 (by decide) (by decide)) hr (by rfl) (S.em.g 10 (by decide)) pass0) pa_nil)))))) (pss_cons (ps_if (pt_cmpR op_ne (pe_callB (call_reprD hr hG mods) (by rfl) T.n_repr boot_repr (pa_cons (pe_lst (pa_cons (pe_exf (pe_ix ix_list (pv 3) pe_int (fun _ _ => rfl))) (pa_cons (pe_exf (pe_ix ix_list (pv 3) pe_int (fun _ _ => rfl))) (pa_cons (pe_exf (pe_ix ix_list (pv 3) pe_int (fun _ _ => rfl))) (pa_cons (pe_exf (pe_ix ix_list (pv 3) pe_int (fun _ _ => rfl))) pa_nil))))) pa_nil)) (pe_callB (call_reprD hr hG mods) (by rfl) T.n_repr boot_repr (pa_cons (pe_lst (pa_cons (pv 1) (pa_cons (pv 1) (pa_cons (pv 1) (pa_cons (pv 2) pa_nil))))) pa_nil)) (nomark _)) (pss_one (ps_ret pe_bl)) pss_nil) (pss_cons (ps_for PassesOwn.never rfl (pi_enum (by rfl) T.n_enumerate (pa_cons (pv 3) pa_nil)) (pg_tup rfl (pgs_cons (pg_name (i := 4) sc__law_refusals_right.nd rfl (by first | exact .inl rfl | exact .inr rfl)) (pgs_cons (pg_name (i := 5) sc__law_refusals_right.nd rfl (by first | exact .inl rfl | exact .inr rfl)) pgs_nil))) (pss_cons (ps_if (PW.pt (pw_or (pt_cmpR (op_neD hr.units) (pe_cal c__law_marks (hr.mono (by decide)) (by rfl) pass0 (pa_cons (pv 5) pa_nil)) (pe_lc (own := [(("_law_k" : Str), 6)]) (g := gName 6) rfl sc__law_refusals_right.nd (pi_range1 (by rfl) T.n_range (pa_cons pe_int pa_nil)) (blkOk_by (N := [("_law_hand_here" : Str), ("_law_thing" : Str), ("_law_row" : Str), ("_law_made" : Str), ("_law_at" : Str), ("_law_one" : Str), ("_law_k" : Str)]) (sc := defScope s__law_refusals_right) (by decide +kernel)) (fun _ _ _ _ _ => by exact (pg_name (i := 6) sc__law_refusals_right.nd rfl (by first | exact .inl rfl | exact .inr rfl))) (fun _ _ _ _ _ => pts_nil) (fun _ _ _ _ _ => (pe_cmpR op_eq (pv 6) (pv 4) (nomark _)))) (nomark _)) (pw_or1 (pt_not (pt_val (pe_callB call_isX (by rfl) T.n_isinstance boot_isinstance (pa_cons (pv 5) (pa_cons (pe_glob (v := .ref (He.ga K "KinError")) (by rfl) S.gk rfl) pa_nil)))))))) (pss_one (ps_ret pe_bl)) pss_nil) (pss_one (ps_if (pt_not (pt_val (pe_callB call_isX (by rfl) T.n_isinstance boot_isinstance (pa_cons (pv 5) (pa_cons (pe_bltn (v := .ty "ValueError") (by rfl) S.gv boot_ValueError rfl) pa_nil))))) (pss_one (ps_ret pe_bl)) pss_nil)))) (pss_one (ps_ret pe_bl))))))), ?_⟩
    refine ⟨_, rfl, ?_⟩
    refine ⟨(by show 2 ≤ sizeLine; decide), fun p1 n1 => ?_⟩
    have s1 := same_upd (o := .tup [.int 0, .int 1]) n1
    have hh1 := hh.same s1
    refine ⟨(by show 1 ≤ sizeLine; decide), fun p2 n2 => ?_⟩
    have s2 := same_upd (o := .lst [.int 0]) n2
    have hh2 := hh1.same s2
    refine ⟨Nat.zero_le _, fun p3 n3 => ?_⟩
    have s3 := same_upd (o := .tup []) n3
    have hh3 := hh2.same s3
    refine ⟨(by show 2 ≤ sizeLine; decide), fun p4 n4 => ?_⟩
    have s4 := same_upd (o := .tup [.str "x", .ref p3]) n4
    have hh4 := hh3.same s4
    refine ⟨(by show 6 ≤ sizeLine; decide), fun p5 n5 => ?_⟩
    have s5 := same_upd (o := .lst [.non, .str "a", .ref p1, .ref p2, .bl true, .ref p4]) n5
    have hh5 := hh4.same s5
    have of5 := Off.of (x := x) (l := l) (s5)
    have ox1 : ∀ {p : Addr}, H p = none → p ≠ x ∧ p ≠ l := fun {p} hp => hh.nx hp
    refine ⟨x, l, .ref p5, rfl, hh5, .inl ⟨p5, _, rfl, .inl (.inl (.inl (off_at (hh4.nx n5).1 (hh4.nx n5).2 upd_same))), (by show 0 < 6; decide), (by show 6 ≤ 1000; decide), fun v H6 hv hh6 f6 => ?_⟩⟩
    have fr : Off x l H H6 := (Off.of (s1.trans (s2.trans (s3.trans (s4.trans s5))))).trans f6
    obtain ⟨d, hd, hgd, htw, hdep⟩ : ∃ d, Dp K (off x l H6) v d ∧ gd 1000000000 d = true ∧ tw d ≤ 200 ∧ d.depth ≤ 20 := by
      have q1 : Dp K (off x l H6) (.ref p1) (.tuple [.int 0, .int 1]) := dp_mono ((Off.of (s2.trans (s3.trans (s4.trans s5)))).trans f6).same (.tup (.inl (.inl (off_at (hh.nx n1).1 (hh.nx n1).2 upd_same))) (.cons (.int 0) (.cons (.int 1) .nil)))
      have q2 : Dp K (off x l H6) (.ref p2) (.list [.int 0]) := dp_mono ((Off.of (s3.trans (s4.trans s5))).trans f6).same (.lst (.inl (.inl (off_at (hh1.nx n2).1 (hh1.nx n2).2 upd_same))) (.cons (.int 0) .nil))
      have q3 : Dp K (off x l H6) (.ref p3) (.tuple []) := dp_mono ((Off.of (s4.trans s5)).trans f6).same (.tup (.inl (.inl (off_at (hh2.nx n3).1 (hh2.nx n3).2 upd_same))) .nil)
      have q4 : Dp K (off x l H6) (.ref p4) (.tuple [.str "x", .tuple []]) := .tup (.inl (.inl (((Off.of s5).trans f6).same _ _ (off_at (hh3.nx n4).1 (hh3.nx n4).2 upd_same)))) (.cons (.str "x") (.cons q3 .nil))
      simp only [List.mem_cons, List.not_mem_nil, or_false] at hv
      rcases hv with rfl | rfl | rfl | rfl | rfl | rfl
      · exact ⟨_, .non, by decide +kernel, by decide +kernel, by decide +kernel⟩
      · exact ⟨_, .str "a", by decide +kernel, by decide +kernel, by decide +kernel⟩
      · exact ⟨_, q1, by decide +kernel, by decide +kernel, by decide +kernel⟩
      · exact ⟨_, q2, by decide +kernel, by decide +kernel, by decide +kernel⟩
      · exact ⟨_, .bl true, by decide +kernel, by decide +kernel, by decide +kernel⟩
      · exact ⟨_, q4, by decide +kernel, by decide +kernel, by decide +kernel⟩
    refine ⟨_, rfl, ?_⟩
    refine ⟨_, _, rfl, rfl, ⟨by decide, by decide, by decide⟩, ?_⟩
    refine ⟨x, l, _, rfl, hh6, by decide, by decide, fun row H7 hr0 hr1 hh7 f7 => ?_⟩
    have hr1 : row < 1000000000 := hr1
    refine ⟨_, _, rfl, ?_⟩
    have hd7 := dp_mono f7.same hd
    have fr7 := fr.trans f7
    dsimp only [tSeq, tAsg, tLst]
    refine mk1 (i := 0) (j := 1) S (by decide) (by rfl) fun a0 G1 g1 m0 e0 => ?_
    refine mk1 (i := 1) (j := 1) S (by decide) (by rfl) fun a1 G2 g2 m1 e1 => ?_
    refine mk1 (i := 2) (j := 1) S (by decide) (by rfl) fun a2 G3 g3 m2 e2 => ?_
    refine mk1 (i := 3) (j := 2) S (by decide) (by rfl) fun a3 G4 g4 m3 e3 => ?_
    refine mk0 (i := 4) S (by decide) fun a4 G5 g5 m4 e4 => ?_
    refine mk0 (i := 5) S (by decide) fun a5 G6 g6 m5 e5 => ?_
    refine mk0 (i := 6) S (by decide) fun a6 G7 g7 m6 e6 => ?_
    refine mk0 (i := 7) S (by decide) fun a7 G8 g8 m7 e7 => ?_
    refine ⟨(show (8 : Nat) ≤ sizeLine by decide), fun b1 nb1 => ?_⟩
    have t1 : Same G8 (upd G8 b1 (.lst [.ref a0, .ref a1, .ref a2, .ref a3, .ref a4, .ref a5, .ref a6, .ref a7])) := same_upd nb1
    have l1 : (upd G8 b1 (.lst [.ref a0, .ref a1, .ref a2, .ref a3, .ref a4, .ref a5, .ref a6, .ref a7])) b1 = some (.lst [.ref a0, .ref a1, .ref a2, .ref a3, .ref a4, .ref a5, .ref a6, .ref a7]) := upd_same
    generalize upd G8 b1 (.lst [.ref a0, .ref a1, .ref a2, .ref a3, .ref a4, .ref a5, .ref a6, .ref a7]) = G9 at t1 l1 ⊢
    refine ⟨_, rfl, ?_⟩
    refine mk0 (i := 8) S (by decide) fun a8 G10 g10 m8 e8 => ?_
    refine mk0 (i := 9) S (by decide) fun a9 G11 g11 m9 e9 => ?_
    refine mk0 (i := 10) S (by decide) fun a10 G12 g12 m10 e10 => ?_
    refine ⟨(show (3 : Nat) ≤ sizeLine by decide), fun b2 nb2 => ?_⟩
    have t2 : Same G12 (upd G12 b2 (.lst [.ref a8, .ref a9, .ref a10])) := same_upd nb2
    have l2 : (upd G12 b2 (.lst [.ref a8, .ref a9, .ref a10])) b2 = some (.lst [.ref a8, .ref a9, .ref a10]) := upd_same
    generalize upd G12 b2 (.lst [.ref a8, .ref a9, .ref a10]) = G13 at t2 l2 ⊢
    refine ⟨b1, b2, _, _, rfl, rfl, t2 _ _ (g12 _ _ (g11 _ _ (g10 _ _ l1))), l2, (show (11 : Nat) ≤ sizeLine by decide), fun b3 nb3 => ?_⟩
    have t3 : Same G13 (upd G13 b3 (.lst ([.ref a0, .ref a1, .ref a2, .ref a3, .ref a4, .ref a5, .ref a6, .ref a7] ++ [.ref a8, .ref a9, .ref a10]))) := same_upd nb3
    have l3 : (upd G13 b3 (.lst ([.ref a0, .ref a1, .ref a2, .ref a3, .ref a4, .ref a5, .ref a6, .ref a7] ++ [.ref a8, .ref a9, .ref a10]))) b3 = some (.lst ([.ref a0, .ref a1, .ref a2, .ref a3, .ref a4, .ref a5, .ref a6, .ref a7] ++ [.ref a8, .ref a9, .ref a10])) := upd_same
    generalize upd G13 b3 (.lst ([.ref a0, .ref a1, .ref a2, .ref a3, .ref a4, .ref a5, .ref a6, .ref a7] ++ [.ref a8, .ref a9, .ref a10])) = W0 at t3 l3 ⊢
    have l3 : W0 b3 = some (.lst [.ref a0, .ref a1, .ref a2, .ref a3, .ref a4, .ref a5, .ref a6, .ref a7, .ref a8, .ref a9, .ref a10]) := l3
    have w12 : Same G12 W0 := t2.trans t3
    have w11 : Same G11 W0 := g12.trans w12
    have w10 : Same G10 W0 := g11.trans w11
    have w9 : Same G9 W0 := g10.trans w10
    have w8 : Same G8 W0 := t1.trans w9
    have w7 : Same G7 W0 := g8.trans w8
    have w6 : Same G6 W0 := g7.trans w7
    have w5 : Same G5 W0 := g6.trans w6
    have w4 : Same G4 W0 := g5.trans w5
    have w3 : Same G3 W0 := g4.trans w4
    have w2 : Same G2 W0 := g3.trans w3
    have w1 : Same G1 W0 := g2.trans w2
    have w0 : Same H7 W0 := g1.trans w1
    have f0 := e0.same w1
    have f1 := e1.same w2
    have f2 := e2.same w3
    have f3 := e3.same w4
    have exns : ∀ i, i < 11 → ∃ a, [V.ref a0, .ref a1, .ref a2, .ref a3, .ref a4, .ref a5, .ref a6, .ref a7, .ref a8, .ref a9, .ref a10][i]? = some (.ref a) ∧ Exn K W0 a i := by
      intro i hi
      match i, hi with
      | 0, _ => exact ⟨_, rfl, f0.exn⟩
      | 1, _ => exact ⟨_, rfl, f1.exn⟩
      | 2, _ => exact ⟨_, rfl, f2.exn⟩
      | 3, _ => exact ⟨_, rfl, f3.exn⟩
      | 4, _ => exact ⟨_, rfl, e4.same w5⟩
      | 5, _ => exact ⟨_, rfl, e5.same w6⟩
      | 6, _ => exact ⟨_, rfl, e6.same w7⟩
      | 7, _ => exact ⟨_, rfl, e7.same w8⟩
      | 8, _ => exact ⟨_, rfl, e8.same w10⟩
      | 9, _ => exact ⟨_, rfl, e9.same w11⟩
      | 10, _ => exact ⟨_, rfl, e10.same w12⟩
    have hdW : Dp K W0 v d := dp_mono w0 (dp_off hd7)
    have hhW : Hand x l W0 := hh7.same w0
    have frW : Off x l H W0 := fr7.trans (Off.of w0)
    clear e0 e1 e2 e3 e4 e5 e6 e7 e8 e9 e10 hd hd7
    obtain ⟨d0, z1, z2⟩ := f0
    obtain ⟨d1, z3, z4⟩ := f1
    obtain ⟨d2, z5, z6⟩ := f2
    obtain ⟨d3, z7, z8⟩ := f3
    refine ⟨_, rfl, b3, _, 0, _, rfl, rfl, .inl (.inl l3), rfl, a0, _, d0, _, _, rfl, z1, z2, S.xf 0 (by decide), S.no 0 (by decide), rfl, ?_⟩
    refine ⟨_, rfl, b3, _, 1, _, rfl, rfl, .inl (.inl l3), rfl, a1, _, d1, _, _, rfl, z3, z4, S.xf 1 (by decide), S.no 1 (by decide), rfl, ?_⟩
    refine ⟨_, rfl, b3, _, 2, _, rfl, rfl, .inl (.inl l3), rfl, a2, _, d2, _, _, rfl, z5, z6, S.xf 2 (by decide), S.no 2 (by decide), rfl, ?_⟩
    refine ⟨_, rfl, b3, _, 3, _, rfl, rfl, .inl (.inl l3), rfl, a3, _, d3, _, _, rfl, z7, z8, S.xf 3 (by decide), S.no 3 (by decide), rfl, ?_⟩
    refine ⟨(show (4 : Nat) ≤ sizeLine by decide), fun c1 nc1 => ?_⟩
    have u1 : Same W0 (upd W0 c1 (.lst [v, v, v, .int row])) := same_upd nc1
    have hok : shOk (.list [d, d, d, .int row]) := by
      refine sh_ok (b := 1000000000) (by decide) (gd_list fun e he => ?_) ?_ ?_
      · simp only [List.mem_cons, List.not_mem_nil, or_false] at he
        rcases he with rfl | rfl | rfl | rfl
        · exact hgd
        · exact hgd
        · exact hgd
        · exact gd_int (by omega)
      · rw [tw_list, twAll_cons, twAll_cons, twAll_cons, twAll_cons, twAll_nil]
        have : tw (.int row) = 1 := by rw [tw]
        omega
      · rw [PyData.depth, PyData.depthAll, PyData.depthAll, PyData.depthAll, PyData.depthAll, PyData.depthAll]
        have : PyData.depth (.int row) = 0 := by rw [PyData.depth]
        omega
    have dl1 : Dp K (upd W0 c1 (.lst [v, v, v, .int row])) (.ref c1) (.list [d, d, d, .int row]) := .lst (.inl (.inl upd_same)) (.cons (dp_mono u1 hdW) (.cons (dp_mono u1 hdW) (.cons (dp_mono u1 hdW) (.cons (.int row) .nil))))
    refine ⟨_, _, rfl, dl1, hok, ?_⟩
    generalize upd W0 c1 (.lst [v, v, v, .int row]) = W1 at u1 ⊢
    clear dl1
    refine ⟨_, rfl, _, rfl, _, rfl, _, rfl, (show (4 : Nat) ≤ sizeLine by decide), fun c2 nc2 => ?_⟩
    have u2 : Same W1 (upd W1 c2 (.lst [v, v, v, .int row])) := same_upd nc2
    have hdW2 := dp_mono (u1.trans u2) hdW
    refine ⟨_, _, rfl, .lst (.inl (.inl upd_same)) (.cons hdW2 (.cons hdW2 (.cons hdW2 (.cons (.int row) .nil)))), hok, rfl, _, rfl, ?_⟩
    generalize upd W1 c2 (.lst [v, v, v, .int row]) = W2 at u2 ⊢
    rw [decide_eq_true rfl]
    have uu := u1.trans u2
    have L3 : W2 b3 = some (.lst [.ref a0, .ref a1, .ref a2, .ref a3, .ref a4, .ref a5, .ref a6, .ref a7, .ref a8, .ref a9, .ref a10]) := uu _ _ l3
    refine iteF ?_
    refine ⟨_, rfl, b3, _, rfl, .inl (.inl L3), ?_⟩
    refine for_it (walk_enum (K := K) (a := b3) (xs := [.ref a0, .ref a1, .ref a2, .ref a3, .ref a4, .ref a5, .ref a6, .ref a7, .ref a8, .ref a9, .ref a10])) (fun i σ H' => ∃ y4 y5 y6, σ = [some (.ref x), some v, some (.int row), some (.ref b3), y4, y5, y6] ∧ Same W2 H')
      ⟨none, none, none, rfl, Same.refl _⟩ (fun i σ H' _ ⟨_, _, _, _, s⟩ => .inl (.inl (s _ _ L3))) ?_ ?_
    · rintro i z σ V1 V2 hi ⟨y4, y5, y6, rfl, v1⟩ ⟨Tp, xa, ya, rfl, nT, rfl, hx, hy⟩
      cases hx
      obtain ⟨a, ha, hex⟩ := exns i hi
      have hy : some (V.ref a) = some ya := ha.symm.trans hy
      cases hy
      have v2 : Same V1 (upd V1 Tp (.tup [.int (i : Nat), .ref a])) := same_upd nT
      have q2 : SqT K (upd V1 Tp (.tup [.int (i : Nat), .ref a])) Tp [.int (i : Nat), .ref a] := sqT_new
      generalize upd V1 Tp (.tup [.int (i : Nat), .ref a]) = V2 at v2 q2 ⊢
      have hex2 := hex.same (uu.trans (v1.trans v2))
      refine ⟨Tp, _, rfl, q2, rfl, _, _, rfl, _, _, rfl, rfl, ?_⟩
      refine ⟨_, rfl, a, i, rfl, hi, hex2, fun p V3 v3 np hp => ?_⟩
      refine ⟨11, rfl, by decide, by decide, fun D hD => ?_⟩
      refine lc_vals (walk_range (lo := 0) (n := 11)) (fun k => V.bl (i == k)) hD (by decide) (fun _ _ => trivial) (fun k xv H' H'' Qe hk sH y q => ?_) (fun V4 v4 hV4 => ?_)
      · obtain ⟨rfl, rfl⟩ := y
        refine ⟨rfl, _, rfl, _, rfl, rfl, ?_⟩
        have e : decide (V.int (0 + (k : Int)) = V.int (i : Int)) = (i == k) := by
          rw [dec_int']
          by_cases h : i = k
          · subst h
            simp
          · rw [decide_eq_false (by omega)]
            simp [h]
        rw [e]
        exact q _ (Same.refl _)
      · refine ⟨.list ((List.range 11).map fun k => .bool (i == k)), .list ((List.range 11).map fun k => .bool (i == k)), .lst (.inl (.inl (v4 _ _ hp))) (dpA_bools _), .lst (.inl (.inl hV4)) (dpA_bools _), shaped_marks i hi, shaped_marks i hi, _, rfl, ?_⟩
        rw [eqv_marks i hi]
        have hex4 := hex2.same (v3.trans v4)
        obtain ⟨dd, hz1, hz2⟩ := hex4
        refine iteF ⟨_, rfl, a, _, dd, _, _, _, rfl, hz1, hz2, S.em.exc i hi, .own _, S.kk i hi, _, rfl, ?_⟩
        refine iteF ⟨_, rfl, a, _, dd, _, _, _, rfl, hz1, hz2, S.em.exc i hi, .ty _, S.kv i hi, _, rfl, ?_⟩
        exact iteF ⟨_, _, _, rfl, v1.trans (v2.trans (v3.trans v4))⟩
    · rintro σ V1 ⟨y4, y5, y6, rfl, v1⟩
      exact k V1 (hhW.same (uu.trans v1)) (frW.trans (Off.of (uu.trans v1)))
end
end Kin
namespace Kin
open PySem PySem.Spec PyProof.Rows L2
section
variable {P : Program} {w : World} {K : PySem.W.Frag} {mg : Str → Option Value} {base : Heap} {tL : Tok} {es : Array DictEntry} {nF : Nat}
abbrev s_is_row : Stmt := topS 19
theorem sc_is_row : FnScope [("thing" : Str), ("size" : Str), ("word" : Str), ("kinds" : Str), ("kind" : Str), ("part" : Str)] ["thing", "size"] (defScope s_is_row) := ⟨rfl, rfl, rfl, by decide +kernel, rfl, by decide +kernel, by decide +kernel⟩
theorem mem_of_lookup {α : Type} {z : Str} {v : α} : ∀ {l : List (Str × α)}, l.lookup z = some v → (z, v) ∈ l
  | [], h => by cases h
  | (a, b) :: r, h => by
    rw [List.lookup_cons] at h
    by_cases e : z = a
    · subst e
      rw [beq_self_eq_true] at h
      cases Option.some.inj h
      exact List.mem_cons_self
    · have : (z == a) = false := by simpa using e
      rw [this] at h
      exact List.mem_cons_of_mem _ (mem_of_lookup h)
theorem pParts_all (n : Int) : ∀ (ks : List Str) (ps : List PyData), ps.length = ks.length → ((List.range ks.length).map fun i => (match ks[i]?, ps[i]? with | some k, some p => pPart k p n | _, _ => true)).all id = pParts n ks ps
  | [], [], _ => rfl
  | k :: ks, p :: ps, h => by
    rw [List.length_cons, List.range_succ_eq_map, List.map_cons, List.all_cons, List.map_map]
    have ih := pParts_all n ks ps (by simpa using h)
    show (pPart k p n && ((List.range ks.length).map fun i => (match ks[i]?, ps[i]? with | some k, some p => pPart k p n | _, _ => true)).all id) = (pPart k p n && pParts n ks ps)
    rw [ih]
  | [], _ :: _, h => by cases h
  | _ :: _, [], h => by cases h
theorem ok_is_row {f : Addr} {fd : FuncData} (F : FnP K "is_row" s_is_row f fd) (T : Bi K w mg tL es nF) (c_is_part : Cal P w K mg base "is_part" ["kind", "part", "size"] 6 (spPart K)) : FnOk P w K mg base CX0 7 f fd ["thing", "size"] (spRow K pRow) := by
  refine F.ok sc_is_row (fun vs H Q E h => ?_) (fun cdv A outer s H vs Q E hr h => ?_)
  · obtain ⟨x, d, n, rfl, _⟩ := h
    rfl
  · obtain ⟨x, d, n, rfl, hd, hok, k⟩ := h
    refine ⟨_, PSs.nox (pss_cons (ps_if (PW.pt (pw_or (pt_not (pt_val (pe_callB call_isi (by rfl) T.n_isinstance boot_isinstance (pa_cons (pv 0) (pa_cons (pe_bltn (v := .ty "tuple") (by rfl) T.n_tuple boot_tuple rfl) pa_nil))))) (pw_or1 (pt_cmpR op_eq (pe_callB call_len_seq (by rfl) T.n_len PySem.boot_len (pa_cons (pv 0) pa_nil)) pe_int (nomark _))))) (pss_one (ps_ret pe_bl)) pss_nil) (pss_cons (ps_set (i := 2) sc_is_row.nd rfl (by first | exact .inl rfl | exact .inr rfl) (pe_ix ix_tup (pv 0) pe_int (fun _ _ => rfl))) (pss_cons (ps_if (PW.pt (pw_or (pt_not (pt_val (pe_callB call_isi (by rfl) T.n_isinstance boot_isinstance (pa_cons (pv 2) (pa_cons (pe_bltn (v := .ty "str") (by rfl) T.n_str boot_str rfl) pa_nil))))) (pw_or1 (pt_cmpR (op_notIn_kd T.kd) (pv 2) (pe_glob (by rfl) T.g_FORMS T.r_FORMS) (by rfl))))) (pss_one (ps_ret pe_bl)) pss_nil) (pss_cons (ps_set (i := 3) sc_is_row.nd rfl (by first | exact .inl rfl | exact .inr rfl) (pe_ix ix_kdict (pe_glob (by rfl) T.g_FORMS T.r_FORMS) (pv 2) (fun _ _ => rfl))) (pss_cons (ps_if (pt_cmpR op_ne (pe_callB call_len_seq (by rfl) T.n_len PySem.boot_len (pa_cons (pv 0) pa_nil)) (pe_op op_add (pe_callB call_len_seq (by rfl) T.n_len PySem.boot_len (pa_cons (pv 3) pa_nil)) pe_int) (nomark _)) (pss_one (ps_ret pe_bl)) pss_nil) (pss_one (ps_ret (pe_callB (cr_all rfl) (by rfl) T.n_all boot_all (pa_cons (pe_lc (own := [(("kind" : Str), 4), (("part" : Str), 5)]) (g := gTup K 2 (gCons (gName 4) (gCons (gName 5) (gNil)))) rfl sc_is_row.nd (RZ.pi_zipA (by rfl) T.n_zip (pa_cons (pv 3) (pa_cons (pe_slice sl_tupA (pv 0) (po_some pe_int) po_none) pa_nil))) (blkOk_by (N := [("thing" : Str), ("size" : Str), ("word" : Str), ("kinds" : Str), ("kind" : Str), ("part" : Str)]) (sc := defScope s_is_row) (by decide +kernel)) (fun _ _ _ _ _ => by exact (pg_tup rfl (pgs_cons (pg_name (i := 4) sc_is_row.nd rfl (by first | exact .inl rfl | exact .inr rfl)) (pgs_cons (pg_name (i := 5) sc_is_row.nd rfl (by first | exact .inl rfl | exact .inr rfl)) pgs_nil)))) (fun _ _ _ _ _ => pts_nil) (fun _ _ _ _ _ => (pe_cal c_is_part (hr.mono (by decide)) (by rfl) pass0 (pa_cons (pv 4) (pa_cons (pv 5) (pa_cons (pv 1) pa_nil)))))) pa_nil))))))))), ?_⟩
    refine ⟨x, rfl, x, _, _, _, _, rfl, .ty _, tyx_of hd, kit_tup (nd_of hd), _, rfl, ?_⟩
    cases hd with
    | @tup a xs ds ha hds =>
      refine iteF ⟨_, rfl, a, xs, rfl, .inr ha, rfl, _, rfl, ?_⟩
      refine iteLenE (fun h0 => ?_) (fun h0 => ?_)
      · have hx : xs = [] := List.length_eq_zero_iff.mp (by omega)
        subst hx
        cases hds
        exact k H (Same.refl H)
      · obtain ⟨x1, xr, rfl⟩ : ∃ x1 xr, xs = x1 :: xr := by
          cases xs with
          | nil => exact absurd rfl h0
          | cons x1 xr => exact ⟨x1, xr, rfl⟩
        cases hds with
        | @cons _ _ d1 dr h1 ht =>
          refine ⟨_, rfl, a, _, 0, x1, rfl, rfl, ha, at0 _ _, ?_⟩
          refine ⟨x1, rfl, x1, _, _, _, _, rfl, .ty _, tyx_of h1, kit_str (nd_of h1), _, rfl, ?_⟩
          cases h1 with
          | str wd =>
            cases hf : forms.lookup wd with
            | none =>
              refine iteF ⟨_, rfl, _, _, rfl, rfl, T.fno wd hf, _, rfl, iteT ?_⟩
              have q := k H (Same.refl H)
              rw [show pRow (.tuple (.str wd :: dr)) n = (match forms.lookup wd with | some ks => decide (dr.length = ks.length) && pParts n ks dr | none => false) from rfl, hf] at q
              exact q
            | some ks =>
              have k : ∀ H', Same H H' → Q (.bl (decide (dr.length = ks.length) && pParts n ks dr)) H' := fun H' s1 => by
                have q := k H' s1
                rw [show pRow (.tuple (.str wd :: dr)) n = (match forms.lookup wd with | some ks => decide (dr.length = ks.length) && pParts n ks dr | none => false) from rfl, hf] at q
                exact q
              obtain ⟨aF, hF, hT⟩ := T.fyes wd ks hf
              refine iteF ⟨_, rfl, _, _, rfl, rfl, hF, _, rfl, iteF ?_⟩
              refine ⟨_, rfl, _, _, .ref aF, rfl, rfl, ⟨_, _, _, T.kd.at_, T.kd.lit, hF, rfl⟩, ?_⟩
              refine ⟨_, rfl, a, _, rfl, .inr ha, _, rfl, aF, _, rfl, .inr (hT H), _, _, rfl, rfl, rfl, _, rfl, ?_⟩
              have hlr := dpA_len ht
              refine iteLen (fun hne => ?_) (fun heq => ?_)
              · have q := k H (Same.refl H)
                rw [decide_eq_false (show ¬ dr.length = ks.length by
                  intro z
                  apply hne
                  rw [List.length_cons, hlr, z, List.length_map]
                  omega)] at q
                exact q
              · have hl : dr.length = ks.length := by
                  rw [List.length_cons, hlr, List.length_map] at heq
                  omega
                refine ⟨_, rfl, _, rfl, _, rfl, a, _, rfl, ha, fun z => absurd z sIx1, fun _ p hp => ?_⟩
                have sp := same_upd (o := .tup (cutV (V.str wd :: xr) (some 1) none)) hp
                refine ⟨aF, p, _, xr, rfl, .inr ⟨hT _, sqT_cut1, fun D hD => ?_⟩⟩
                refine lc_vals (walk_zipT (xs := ks.map V.str) (ys := xr) (n := ks.length) (by rw [List.length_map, hlr, hl]; simp)) (fun i => .bl (match ks[i]?, dr[i]? with | some k, some p => pPart k p n | _, _ => true)) hD ?_ (fun H' s1 => ⟨hT _, Same.tup s1 sqT_cut1⟩) ?_ ?_
                · have : ks.length ≤ 2 := by
                    have hm : ∀ q ∈ forms, q.2.length ≤ 2 := by decide +kernel
                    exact hm (wd, ks) (mem_of_lookup hf)
                  omega
                · rintro i v H' H'' Qe hi s1 ⟨tp, y1, y2, rfl, htp, rfl, hk1, hk2⟩ q
                  have hkl : ks[i]? = some ks[i] := List.getElem?_eq_getElem hi
                  have hk1 : (ks.map V.str)[i]? = some y1 := hk1
                  have hk2 : xr[i]? = some y2 := hk2
                  have e1 : y1 = .str ks[i] := by
                    rw [List.getElem?_map, hkl] at hk1
                    exact (Option.some.inj hk1).symm
                  obtain ⟨dd, hdd, hdp⟩ := dpA_get ht hk2
                  have sT := same_upd (o := .tup [y1, y2]) htp
                  refine ⟨tp, [y1, y2], rfl, sqT_new, rfl, y1, [y2], rfl, y2, [], rfl, rfl, rfl, ?_⟩
                  subst e1
                  have hlo : lenOk dd = true := by
                    exact lenAll_mem (lenOk_tup hok).2 (List.mem_cons_of_mem _ (List.mem_of_getElem? hdd))
                  refine ⟨_, rfl, _, rfl, _, rfl, y2, dd, ks[i], n, rfl, dp_mono ((sp.trans s1).trans sT) hdp, hlo, fun H4 s4 => ?_⟩
                  have q := q H4 (sT.trans s4)
                  rw [hkl, hdd] at q
                  exact q
                · intro H' s1 hlst
                  refine ⟨D, (List.range ks.length).map fun i => (match ks[i]?, dr[i]? with | some k, some p => pPart k p n | _, _ => true), rfl, .inl (.inl ?_), ?_⟩
                  · rw [hlst, List.map_map]
                    rfl
                  · rw [pParts_all n ks dr hl]
                    have q := k H' (sp.trans s1)
                    rw [decide_eq_true hl] at q
                    exact q
          | _ => exact iteT (k H (Same.refl H))
    | _ => exact iteT (k H (Same.refl H))
end
end Kin
namespace Kin
open PySem PySem.Spec PyProof.Rows L2
def spIs (K : PySem.W.Frag) : Sp := fun vs H Q _ => ∃ (x : V) (d : PyData) (b : Bool), vs = [x, .bl b] ∧ Dp K H x d ∧ lenOk d = true ∧ pRow d 1 = b ∧ ∀ H', Same H H' → Q (.bl true) H'
section
variable {P : Program} {w : World} {K : PySem.W.Frag} {mg : Str → Option Value} {base : Heap} {tL : Tok} {es : Array DictEntry} {nF : Nat}
abbrev s__law_is : Stmt := topS 39
theorem sc__law_is : FnScope [("_law_row" : Str), ("_law_want" : Str), ("_law_found" : Str)] ["_law_row", "_law_want"] (defScope s__law_is) := ⟨rfl, rfl, rfl, by decide +kernel, rfl, by decide +kernel, by decide +kernel⟩
theorem ok__law_is {f : Addr} {fd : FuncData} (F : FnP K "_law_is" s__law_is f fd) (T : Bi K w mg tL es nF) (c_is_row : Cal P w K mg base "is_row" ["thing", "size"] 7 (spRow K pRow)) : FnOk P w K mg base CX0 8 f fd ["_law_row", "_law_want"] (spIs K) := by
  refine F.ok sc__law_is (fun vs H Q E h => ?_) (fun cdv A outer s H vs Q E hr h => ?_)
  · obtain ⟨x, d, b, rfl, _⟩ := h
    rfl
  · obtain ⟨x, d, b, rfl, hd, hok, hb, k⟩ := h
    refine ⟨_, PSs.nox (pss_cons (ps_set (i := 2) sc__law_is.nd rfl (by first | exact .inl rfl | exact .inr rfl) (pe_cal c_is_row (hr.mono (by decide)) (by rfl) pass0 (pa_cons (pv 0) (pa_cons pe_int pa_nil)))) (pss_one (ps_ret (pe_and (pe_callB call_isi (by rfl) T.n_isinstance boot_isinstance (pa_cons (pv 2) (pa_cons (pe_bltn (v := .ty "bool") (by rfl) T.n_bool boot_bool rfl) pa_nil))) (pe_one (pe_cmpR op_eq (pv 2) (pv 1) (nomark _))))))), ?_⟩
    refine ⟨_, rfl, x, d, 1, rfl, hd, hok, fun H1 s1 => ?_⟩
    refine ⟨_, rfl, _, _, _, _, _, rfl, .ty _, tyx_of (.bl (pRow d 1)), kit_bool (d := .bool (pRow d 1)) rfl, _, rfl, iteT ?_⟩
    refine ⟨_, rfl, _, rfl, rfl, ?_⟩
    rw [hb, decide_eq_true rfl]
    exact k H1 s1
end
end Kin
namespace Kin
open PySem PySem.Spec PyProof.Rows L2
section
variable {P : Program} {w : World} {K : PySem.W.Frag} {mg : Str → Option Value} {base : Heap} {tL : Tok} {es : Array DictEntry} {nF : Nat}
abbrev s__law_hand : Stmt := topS 34
theorem sc__law_hand : FnScope [("_law_script" : Str), ("_law_seed" : Str), ("_law_cell" : Str)] ["_law_script"] (defScope s__law_hand) := ⟨rfl, rfl, rfl, by decide +kernel, rfl, by decide +kernel, by decide +kernel⟩
theorem ok__law_hand {f : Addr} {fd : FuncData} (F : FnP K "_law_hand" s__law_hand f fd) (T : Bi K w mg tL es nF) : FnOk P w K mg base CX0 1 f fd ["_law_script"] (spHand K) := by
  refine F.ok sc__law_hand (fun vs H Q E h => ?_) (fun cdv A outer s H vs Q E hr h => ?_)
  · obtain ⟨a, ns, rfl, _⟩ := h
    rfl
  · obtain ⟨a, ns, rfl, ha, hlen, k⟩ := h
    refine ⟨_, PSs.nox (pss_cons (ps_set (i := 1) sc__law_hand.nd rfl (by first | exact .inl rfl | exact .inr rfl) pe_int) (pss_cons (ps_for PassesOwn.never rfl (pi_list (pe_slice sl_list (pv 0) po_none (po_some pe_int))) (pg_name (i := 2) sc__law_hand.nd rfl (by first | exact .inl rfl | exact .inr rfl)) (pss_one (ps_set (i := 1) sc__law_hand.nd rfl (by first | exact .inl rfl | exact .inr rfl) (pe_op op_mod (pe_op op_add (pe_op op_add (pe_op op_mul (pv 1) pe_int) (pe_op op_mod (pv 2) pe_int)) pe_int) pe_int)))) (pss_one (ps_ret (pe_lst (pa_cons (pe_lc (own := [(("_law_cell" : Str), 2)]) (g := gName 2) rfl sc__law_hand.nd (pi_list (pe_slice sl_list (pv 0) po_none (po_some pe_int))) (blkOk_by (N := [("_law_script" : Str), ("_law_seed" : Str), ("_law_cell" : Str)]) (sc := defScope s__law_hand) (by decide +kernel)) (fun _ _ _ _ _ => by exact (pg_name (i := 2) sc__law_hand.nd rfl (by first | exact .inl rfl | exact .inr rfl))) (fun _ _ _ _ _ => pts_one (pt_cmpR op_ge (pv 2) (pe_op op_pow pe_int pe_int) (nomark _))) (fun _ _ _ _ _ => (pv 2))) (pa_cons (pv 1) pa_nil))))))), ?_⟩
    refine ⟨_, rfl, _, rfl, a, _, rfl, ha, fun p hp => ?_⟩
    have s1 := same_upd (o := .lst (cutV (ns.map V.int) none (some 63))) hp
    have hcl : (cutV (ns.map V.int) none (some 63)).length ≤ 63 := Nat.le_trans (cutV_length _ _ _) (by rw [List.length_map]; exact hlen)
    obtain ⟨ms, hms⟩ : ∃ ms : List Int, cutV (ns.map V.int) none (some 63) = ms.map V.int := by
      unfold cutV
      rw [List.map_drop.symm, List.map_take.symm]
      exact ⟨_, rfl⟩
    refine ⟨p, rfl, ⟨_, sqL_new⟩, ?_⟩
    refine for_list (K := K) (a := p) (xs := cutV (ns.map V.int) none (some 63)) (fun i σ H' => ∃ (seed : Int) (y : Option V), σ = [some (.ref a), some (.int seed), y] ∧ 0 ≤ seed ∧ seed < bigM ∧ Same H H' ∧ SqL K H' p (cutV (ns.map V.int) none (some 63)))
      ⟨23, none, rfl, by decide, by decide, s1, sqL_new⟩ (fun i σ H' _ ⟨_, _, _, _, _, _, h⟩ => h) ?_ ?_
    · rintro i v σ H' hi ⟨seed, y, rfl, h0, h1, s2, hl⟩
      rw [hms, List.getElem?_map] at hi
      obtain ⟨c, rfl⟩ : ∃ c, v = V.int c := by
        cases e : ms[i]? with
        | none => rw [e] at hi; cases hi
        | some c => rw [e] at hi; exact ⟨c, (Option.some.inj hi).symm⟩
      refine ⟨_, rfl, _, _, rfl, rfl, .inr ⟨by decide, by decide⟩, _, rfl, _, _, rfl, rfl, (by show (0 : Int) < 2305843009213693951; decide), _, _, rfl, rfl, _, _, rfl, rfl, _, _, rfl, rfl, (by show (0 : Int) < 2305843009213693951; decide), ?_⟩
      exact ⟨_, some (.int c), rfl, Int.emod_nonneg _ (by decide), Int.emod_lt_of_pos _ (by decide), s2, hl⟩
    · rintro σ H2 ⟨seed, y, rfl, h0, h1, s2, _⟩
      refine ⟨_, rfl, _, rfl, a, _, rfl, s2.seq ha, fun p2 hp2 => ?_⟩
      have s3 := same_upd (o := .lst (cutV (ns.map V.int) none (some 63))) hp2
      refine ⟨p2, rfl, ⟨_, sqL_new⟩, fun D hD => ?_⟩
      refine lc_it (walk_list (xs := cutV (ns.map V.int) none (some 63))) (fun i H' => Same H2 H' ∧ SqL K H' p2 (cutV (ns.map V.int) none (some 63)) ∧ ∃ cells : List Int, H' D = some (.lst (cells.map V.int)) ∧ cells.length ≤ i ∧ ∀ c ∈ cells, 0 ≤ c) ?_ (fun i H' _ h => h.2.1) ?_ ?_
      · exact ⟨s3.trans (same_upd hD), (same_upd hD).seq sqL_new, [], upd_same, Nat.le_refl _, by simp⟩
      · rintro i v H' H'' hi ⟨s4, h4, cells, hc, hcn, hc0⟩ ⟨rfl, hv⟩
        rw [hms, List.getElem?_map] at hv
        obtain ⟨c, rfl⟩ : ∃ c, v = V.int c := by
          cases e : ms[i]? with
          | none => rw [e] at hv; cases hv
          | some c => rw [e] at hv; exact ⟨c, (Option.some.inj hv).symm⟩
        refine ⟨rfl, _, rfl, _, _, rfl, rfl, ⟨by decide, by decide, by decide⟩, _, _, rfl, rfl, _, rfl, ?_⟩
        have hDp : D ≠ p2 := (ne_of_none upd_same hD).symm
        refine ite2 (fun e => ?_) (fun e => ?_)
        · refine ⟨_, rfl, _, hc, ?_, ?_, ?_, cells ++ [c], ?_, ?_, ?_⟩
          · rw [List.length_map]
            exact Nat.lt_of_le_of_lt hcn (Nat.lt_of_lt_of_le hi (Nat.le_trans hcl (by decide)))
          · exact same_mut s4 (s3.free hD)
          · rcases h4 with (h4 | ⟨o, h4⟩) | h4
            · exact .inl (.inl (by rw [upd_ne hDp.symm]; exact h4))
            · exact .inl (.inr ⟨o, by rw [upd_ne hDp.symm]; exact h4⟩)
            · exact .inr h4
          · rw [upd_same, List.map_append]
            rfl
          · rw [List.length_append, List.length_singleton]
            omega
          · intro z hz
            rcases List.mem_append.mp hz with q | q
            · exact hc0 z q
            · rw [List.mem_singleton.mp q]
              have e : (10 : Int) ^ (18 : Int).toNat ≤ c := of_decide_eq_true e
              have : (0 : Int) ≤ 10 ^ (18 : Int).toNat := by decide
              omega
        · exact ⟨s4, h4, cells, hc, by omega, hc0⟩
      · rintro H3 ⟨s4, h4, cells, hc, hcn, hc0⟩
        refine ⟨_, rfl, (by show 2 ≤ sizeLine; decide), fun x hx => ?_⟩
        have s5 := same_upd (o := .lst [V.ref D, V.int seed]) hx
        refine k x D _ ((s2.trans s4).trans s5) ((s2.trans s4).free hx) (s2.free (s3.free hD)) ⟨cells.length, Nat.le_trans hcn hcl, ⟨cells, seed, upd_same, s5 _ _ hc, h0, h1, hc0, rfl⟩, (ne_of_none hc hx).symm⟩
end
end Kin
namespace Kin
open PySem PySem.Spec PyProof.Rows L2
theorem _root_.L2.Room.units1 {k : Nat} {A : Around} (h : Room k A) : A.units + 65 < cLine := by
  have := h.un
  omega
section
variable {P : Program} {w : World} {K : PySem.W.Frag} {mg : Str → Option Value} {base : Heap} {tL : Tok} {es : Array DictEntry} {nF : Nat}
def spLaw (K : PySem.W.Frag) : Sp := fun vs H Q _ => ∃ (a : Addr) (ns : List Int), vs = [.ref a] ∧ SqL K H a (ns.map V.int) ∧ ns.length ≤ 63 ∧ ∀ H', Q (.bl true) H'
theorem row_send (d : PyData) : pRow (.tuple [.str "send", d, .str "self"]) 1 = pOne d sig9 := by
  have e : pRow (.tuple [.str "send", d, .str "self"]) 1 = (pOne d sig9 && (pPart "to" (.str "self") 1 && true)) := rfl
  rw [e, show (pPart "to" (.str "self") 1 && true) = true by decide +kernel, Bool.and_true]
theorem row_mask1 : ∀ i, i < 9 → ∀ word ∈ (["mask", "unmask"] : List Str), pRow (.tuple [.str word, .tuple [.str (sig9.getD i "")]]) 1 = decide ((1 : Int) < (i : Int)) := by decide +kernel
theorem row_mask2 : ∀ i, i < 9 → ∀ j, j < 9 → ∀ word ∈ (["mask", "unmask"] : List Str), pRow (.tuple [.str word, .tuple [.str (sig9.getD i ""), .str (sig9.getD j "")]]) 1 = (decide ((1 : Int) < (i : Int)) && decide ((i : Int) < (j : Int))) := by decide +kernel
theorem row_handle : ∀ i, i < 9 → ∀ d ∈ ([.str "plain", .str "ignore", .tuple [.int 0, .tuple []], .tuple [.int 0, .tuple [.str (sig9.getD i "")]]] : List PyData), pRow (.tuple [.str "handle", .str (sig9.getD i ""), d]) 1 = decide ((1 : Int) < (i : Int)) := by decide +kernel
theorem sig9_ln : ∀ i, i < 9 → (sig9.getD i "").length ≤ 5 := by decide +kernel
theorem sig9_at {i : Nat} {v : V} (hi : i < 9) (h : (sig9.map V.str)[i]? = some v) : v = .str (sig9.getD i "") := by
  have e : ∀ i, i < 9 → sig9[i]? = some (sig9.getD i "") := by decide +kernel
  rw [List.getElem?_map, e i hi] at h
  exact (Option.some.inj h).symm
theorem any_str (z : Str) : ((sig9.map PyData.str).any fun y => y.eqv (.str z)) = pOne (.str z) sig9 := by
  show _ = decide (z ∈ sig9)
  generalize sig9 = l
  induction l with
  | nil => rfl
  | cons a r ih =>
    rw [List.map_cons, List.any_cons, ih]
    have e : PyData.eqv (.str a) (.str z) = (a == z) := by rw [PyData.eqv]
    rw [e]
    by_cases h : z = a
    · subst h
      simp
    · have h2 : ¬ a = z := fun q => h q.symm
      simp [h, h2]
theorem any_tup (ds : List PyData) : ((sig9.map PyData.str).any fun y => y.eqv (.tuple ds)) = pOne (.tuple ds) sig9 := by
  show _ = false
  generalize sig9 = l
  induction l with
  | nil => rfl
  | cons a r ih =>
    rw [List.map_cons, List.any_cons, ih]
    have e : PyData.eqv (.str a) (.tuple ds) = false := by simp [PyData.eqv]
    rw [e]
    rfl
theorem any_int (n : Int) : ((sig9.map PyData.str).any fun y => y.eqv (.int n)) = pOne (.int n) sig9 := by
  show _ = false
  generalize sig9 = l
  induction l with
  | nil => rfl
  | cons a r ih =>
    rw [List.map_cons, List.any_cons, ih]
    have e : PyData.eqv (.str a) (.int n) = false := by simp [PyData.eqv]
    rw [e]
    rfl
theorem sh_sig : shOk (.tuple (sig9.map PyData.str)) := by
  refine sh_ok (b := 1) (by decide) (by decide +kernel) (by decide +kernel) (by decide +kernel)
theorem shaped_sig : SeqAt.shaped (.list (sig9.map PyData.str)) = true := by decide +kernel
theorem lenOk_row {ds : List PyData} (h : ∀ d ∈ ds, lenOk d = true) (hl : ds.length ≤ 1000000) : lenOk (.tuple ds) = true := by
  rw [lenOk, decide_eq_true hl, Bool.true_and]
  induction ds with
  | nil => rw [lenAll]
  | cons d r ih =>
    rw [lenAll, h d (by simp), ih (fun e he => h e (List.mem_cons_of_mem _ he)) (by rw [List.length_cons] at hl; omega)]
    rfl
theorem lenOk_s {z : Str} (h : z.length ≤ 1000) : lenOk (.str z) = true := by
  rw [lenOk]
  exact decide_eq_true (Nat.le_trans h (by decide))
theorem len_app (a b : Str) : (a ++ b).length = a.length + b.length := Array.size_append ..
theorem odd_ok : ∀ i, i < 9 → (PyData.strOk (sig9.getD i "" ++ "s") && (PyData.strOk (cutS (sig9.getD i "") (some 1) none) && (PyData.strOk (Txt.upper (sig9.getD i "")) && (PyData.strOk (" " ++ sig9.getD i "") && (PyData.strOk (sig9.getD i "" ++ " ") && PyData.strOk (sig9.getD i "")))))) = true := by decide +kernel
theorem shaped_s {z : Str} (h : PyData.strOk z = true) : SeqAt.shaped (.str z) = true := by
  unfold SeqAt.shaped
  rw [PyData.canLay0, PyData.depth, h]
  rfl
theorem shaped_i (n : Int) : SeqAt.shaped (.int n) = true := by
  unfold SeqAt.shaped
  rw [PyData.canLay0, PyData.depth]
  rfl
theorem shaped_t {z : Str} (h : PyData.strOk z = true) : SeqAt.shaped (.tuple [.str z]) = true := by
  unfold SeqAt.shaped
  rw [PyData.canLay0, PyData.depth, PyData.canLayAll0, PyData.canLayAll0, PyData.canLay0, PyData.depthAll, PyData.depthAll, PyData.depth, h]
  rfl
abbrev s_law : Stmt := topS 40
theorem sc_law : FnScope [("_law_script" : Str), ("_law_hand_here" : Str), ("_law_every" : Str), ("_law_at" : Str), ("_law_signal" : Str), ("_law_odd" : Str), ("_law_word" : Str), ("_law_place" : Str), ("_law_other" : Str), ("_law_how" : Str)] ["_law_script"] (defScope s_law) := ⟨rfl, rfl, rfl, by decide +kernel, rfl, by decide +kernel, by decide +kernel⟩
theorem ok_law {f : Addr} {fd : FuncData} (F : FnP K "law" s_law f fd) (T : Bi K w mg tL es nF) (mods : ∃ mm, base.Ns sysModules mm) (c__law_hand : Cal P w K mg base "_law_hand" ["_law_script"] 1 (spHand K)) (c__law_of : Cal P w K mg base "_law_of" ["_law_hand_here", "_law_some"] 2 (spOf K)) (c__law_refusals_right : CalG P w K mg base "_law_refusals_right" ["_law_hand_here"] 3 (spRef K)) (c__law_is : Cal P w K mg base "_law_is" ["_law_row", "_law_want"] 8 (spIs K)) : FnG P w K mg base CX0 9 f fd ["_law_script"] (spLaw K) := by
  refine okG F sc_law (fun vs H Q E h => ?_) (fun cdv A outer s H vs Q E hG hr h => ?_)
  · obtain ⟨a, ns, rfl, _⟩ := h
    rfl
  · obtain ⟨a, ns, rfl, ha, hns, k⟩ := h
    refine ⟨_, PSs.nox (pss_cons (ps_set (i := 1) sc_law.nd rfl (by first | exact .inl rfl | exact .inr rfl) (pe_cal c__law_hand (hr.mono (by decide)) (by rfl) pass0 (pa_cons (pv 0) pa_nil))) (pss_cons (ps_set (i := 2) sc_law.nd rfl (by first | exact .inl rfl | exact .inr rfl) (pe_lst (pa_cons pe_str (pa_cons pe_str (pa_cons pe_str (pa_cons pe_str (pa_cons pe_str (pa_cons pe_str (pa_cons pe_str (pa_cons pe_str (pa_cons pe_str pa_nil))))))))))) (pss_cons (ps_if (PW.pt (pw_or (pt_cmpR op_ne (pe_callB (call_reprD hr hG mods) (by rfl) T.n_repr boot_repr (pa_cons (pe_glob (by rfl) T.g_SIGNALS T.r_SIGNALS) pa_nil)) (pe_callB (call_reprD hr hG mods) (by rfl) T.n_repr boot_repr (pa_cons (pe_callTy call_tuple_of (by rfl) T.n_tuple boot_tuple (pa_cons (pv 2) pa_nil)) pa_nil)) (nomark _)) (pw_or1 (pt_not (pt_val (pe_calG c__law_refusals_right hG (hr.mono (by decide)) (by rfl) pass0 (pa_cons (pv 1) pa_nil))))))) (pss_one (ps_ret pe_bl)) pss_nil) (pss_cons (ps_for PassesOwn.never rfl (pi_enum (by rfl) T.n_enumerate (pa_cons (pv 2) pa_nil)) (pg_tup rfl (pgs_cons (pg_name (i := 3) sc_law.nd rfl (by first | exact .inl rfl | exact .inr rfl)) (pgs_cons (pg_name (i := 4) sc_law.nd rfl (by first | exact .inl rfl | exact .inr rfl)) pgs_nil))) (pss_cons (ps_set (i := 5) sc_law.nd rfl (by first | exact .inl rfl | exact .inr rfl) (pe_cal c__law_of (hr.mono (by decide)) (by rfl) pass0 (pa_cons (pv 1) (pa_cons (pe_lst (pa_cons (pe_op op_add_str (pv 4) pe_str) (pa_cons (pe_slice sl_str (pv 4) (po_some pe_int) po_none) (pa_cons (pe_upper (pv 4)) (pa_cons (pe_op op_add_str pe_str (pv 4)) (pa_cons (pe_op op_add_str (pv 4) pe_str) (pa_cons pe_str (pa_cons (pe_tup (pa_cons (pv 4) pa_nil)) (pa_cons (pv 3) pa_nil))))))))) pa_nil)))) (pss_cons (ps_if (PW.pt (pw_or (pt_not (pt_val (pe_cal c__law_is (hr.mono (by decide)) (by rfl) pass0 (pa_cons (pe_tup (pa_cons pe_str (pa_cons (pv 4) (pa_cons pe_str pa_nil)))) (pa_cons pe_bl pa_nil))))) (pw_or1 (pt_not (pt_val (pe_cal c__law_is (hr.mono (by decide)) (by rfl) pass0 (pa_cons (pe_tup (pa_cons pe_str (pa_cons (pv 5) (pa_cons pe_str pa_nil)))) (pa_cons (pe_cmpR (op_inD' hr.units1) (pv 5) (pv 2) (by rfl)) pa_nil)))))))) (pss_one (ps_ret pe_bl)) pss_nil) (pss_cons (ps_for PassesOwn.never rfl (pi_tup (pe_tup (pa_cons pe_str (pa_cons pe_str pa_nil)))) (pg_name (i := 6) sc_law.nd rfl (by first | exact .inl rfl | exact .inr rfl)) (pss_cons (ps_if (pt_not (pt_val (pe_cal c__law_is (hr.mono (by decide)) (by rfl) pass0 (pa_cons (pe_tup (pa_cons (pv 6) (pa_cons (pe_tup (pa_cons (pv 4) pa_nil)) pa_nil))) (pa_cons (pe_cmpR op_gt (pv 3) pe_int (nomark _)) pa_nil))))) (pss_one (ps_ret pe_bl)) pss_nil) (pss_one (ps_for PassesOwn.never rfl (pi_enum (by rfl) T.n_enumerate (pa_cons (pv 2) pa_nil)) (pg_tup rfl (pgs_cons (pg_name (i := 7) sc_law.nd rfl (by first | exact .inl rfl | exact .inr rfl)) (pgs_cons (pg_name (i := 8) sc_law.nd rfl (by first | exact .inl rfl | exact .inr rfl)) pgs_nil))) (pss_one (ps_if (pt_not (pt_val (pe_cal c__law_is (hr.mono (by decide)) (by rfl) pass0 (pa_cons (pe_tup (pa_cons (pv 6) (pa_cons (pe_tup (pa_cons (pv 4) (pa_cons (pv 8) pa_nil))) pa_nil))) (pa_cons (pe_chain op_lt op_lt pe_int (pv 3) (pv 7)) pa_nil))))) (pss_one (ps_ret pe_bl)) pss_nil)))))) (pss_one (ps_for PassesOwn.never rfl (pi_tup (pe_tup (pa_cons pe_str (pa_cons pe_str (pa_cons (pe_tup (pa_cons pe_int (pa_cons (pe_tup pa_nil) pa_nil))) (pa_cons (pe_tup (pa_cons pe_int (pa_cons (pe_tup (pa_cons (pv 4) pa_nil)) pa_nil))) pa_nil)))))) (pg_name (i := 9) sc_law.nd rfl (by first | exact .inl rfl | exact .inr rfl)) (pss_one (ps_if (pt_not (pt_val (pe_cal c__law_is (hr.mono (by decide)) (by rfl) pass0 (pa_cons (pe_tup (pa_cons pe_str (pa_cons (pv 4) (pa_cons (pv 9) pa_nil)))) (pa_cons (pe_cmpR op_gt (pv 3) pe_int (nomark _)) pa_nil))))) (pss_one (ps_ret pe_bl)) pss_nil)))))))) (pss_one (ps_ret pe_bl)))))), ?_⟩
    refine ⟨_, rfl, a, ns, rfl, ha, hns, fun x l H1 s1 hx0 hl0 hh1 => ?_⟩
    refine ⟨(by show 9 ≤ sizeLine; decide), fun e nE => ?_⟩
    obtain ⟨nex, nel⟩ := hh1.nx nE
    have sE : Same H1 (upd H1 e (.lst [.str "kill", .str "halt", .str "on", .str "hang", .str "quit", .str "call", .str "kin", .str "rest", .str "reads"])) := same_upd nE
    have hE : (upd H1 e (.lst [.str "kill", .str "halt", .str "on", .str "hang", .str "quit", .str "call", .str "kin", .str "rest", .str "reads"])) e = some (.lst (sig9.map V.str)) := upd_same
    generalize upd H1 e (.lst [.str "kill", .str "halt", .str "on", .str "hang", .str "quit", .str "call", .str "kin", .str "rest", .str "reads"]) = H2 at sE hE ⊢
    have hh2 := hh1.same sE
    refine ⟨_, _, rfl, .tup (T.sig _) (dpA_strs sig9), sh_sig, ?_⟩
    refine ⟨_, rfl, e, _, rfl, .inl ⟨.inl (.inl hE), fun t nt => ?_⟩⟩
    have sT : Same H2 (upd H2 t (.tup (sig9.map V.str))) := same_upd nt
    refine ⟨_, _, rfl, .tup sqT_new (dpA_strs sig9), sh_sig, rfl, _, rfl, ?_⟩
    generalize upd H2 t (.tup (sig9.map V.str)) = H3 at sT ⊢
    have hh3 := hh2.same sT
    have hE3 := sT _ _ hE
    rw [decide_eq_true rfl]
    refine iteF ?_
    refine ⟨_, rfl, x, l, rfl, hh3, fun H4 hh4 f4 => ⟨_, rfl, iteF ?_⟩⟩
    have hE4 := f4 _ _ nex nel hE3
    refine ⟨_, rfl, e, _, rfl, .inl (.inl hE4), ?_⟩
    refine for_it (walk_enum (K := K) (a := e) (xs := sig9.map V.str)) (fun i σ H' => ∃ y3 y4 y5 y6 y7 y8 y9, σ = [some (.ref a), some (.ref x), some (.ref e), y3, y4, y5, y6, y7, y8, y9] ∧ Hand x l H' ∧ H' e = some (.lst (sig9.map V.str)))
      ⟨none, none, none, none, none, none, none, rfl, hh4, hE4⟩ (fun i σ H' _ ⟨_, _, _, _, _, _, _, _, _, h⟩ => .inl (.inl h)) ?_ (fun σ H' _ => k H')
    rintro i z σ V1 V2 hi ⟨y3, y4, y5, y6, y7, y8, y9, rfl, hv1, hEv⟩ ⟨Tp, xa, ya, rfl, nT, rfl, hx, hy⟩
    cases hx
    have hi : i < 9 := hi
    have hy := sig9_at hi hy
    subst hy
    have hsl := sig9_ln i hi
    have hs9 : sig9.getD i "" ∈ sig9 := by
      have h : ∀ i, i < 9 → sig9.getD i "" ∈ sig9 := by decide +kernel
      exact h i hi
    have rm1 := row_mask1 i hi
    have ook := odd_ok i hi
    have rm2 := row_mask2 i hi
    have rh := row_handle i hi
    generalize sig9.getD i "" = sg at *
    have v2 : Same V1 (upd V1 Tp (.tup [.int (i : Nat), .str sg])) := same_upd nT
    have q2 : SqT K (upd V1 Tp (.tup [.int (i : Nat), .str sg])) Tp [.int (i : Nat), .str sg] := sqT_new
    generalize upd V1 Tp (.tup [.int (i : Nat), .str sg]) = V2 at v2 q2 ⊢
    have hv2 := hv1.same v2
    have hEv2 := v2 _ _ hEv
    refine ⟨Tp, _, rfl, q2, rfl, _, _, rfl, _, _, rfl, rfl, ?_⟩
    refine ⟨_, rfl, ?_⟩
    have fit : ∀ {n : Nat}, n ≤ 100 → n ≤ sizeLine := fun h => Nat.le_trans h (by decide)
    refine ⟨_, rfl, sg, "s", rfl, rfl, fit (by show sg.length + 1 ≤ 100; omega), ?_⟩
    refine ⟨_, rfl, _, rfl, sg, rfl, fit (by omega), ?_⟩
    refine ⟨_, rfl, ⟨_, rfl⟩, sg, rfl, rfl, by omega, ?_⟩
    refine ⟨_, rfl, " ", sg, rfl, rfl, fit (by show 1 + sg.length ≤ 100; omega), ?_⟩
    refine ⟨_, rfl, sg, " ", rfl, rfl, fit (by show sg.length + 1 ≤ 100; omega), ?_⟩
    refine ⟨_, rfl, (by show 1 ≤ sizeLine; decide), fun t1 nt1 => ?_⟩
    have u1 : Same V2 (upd V2 t1 (.tup [.str sg])) := same_upd nt1
    have o1 : SqT K (off x l (upd V2 t1 (.tup [.str sg]))) t1 [.str sg] := .inl (.inl (off_at (hv2.nx nt1).1 (hv2.nx nt1).2 upd_same))
    generalize upd V2 t1 (.tup [.str sg]) = V3 at u1 o1 ⊢
    have hv3 := hv2.same u1
    have hEv3 := u1 _ _ hEv2
    refine ⟨_, rfl, (by show 8 ≤ sizeLine; decide), fun t2 nt2 => ?_⟩
    have u2 := same_upd (o := .lst [.str (sg ++ "s"), .str (cutS sg (some 1) none), .str (Txt.upper sg), .str (" " ++ sg), .str (sg ++ " "), .str "", .ref t1, .int (i : Nat)]) nt2
    refine ⟨x, l, .ref t2, rfl, hv3.same u2, .inl ⟨t2, _, rfl, .inl (.inl (.inl (off_at (hv3.nx nt2).1 (hv3.nx nt2).2 upd_same))), (by show 0 < 8; decide), (by show 8 ≤ 1000; decide), fun v V4 hv hv4 f4' => ?_⟩⟩
    have hEv4 := f4' _ _ nex nel (u2 _ _ hEv3)
    obtain ⟨d, hd, hok, hsh, hany⟩ : ∃ d, Dp K (off x l V4) v d ∧ lenOk d = true ∧ SeqAt.shaped d = true ∧ ((sig9.map PyData.str).any fun y => y.eqv d) = pOne d sig9 := by
      simp only [List.mem_cons, List.not_mem_nil, or_false] at hv
      have hup := len_upper sg
      have hct := cutS_length sg (some 1) none
      obtain ⟨k1, k2⟩ := Bool.and_eq_true_iff.mp ook
      obtain ⟨k2, k3⟩ := Bool.and_eq_true_iff.mp k2
      obtain ⟨k3, k4⟩ := Bool.and_eq_true_iff.mp k3
      obtain ⟨k4, k5⟩ := Bool.and_eq_true_iff.mp k4
      obtain ⟨k5, k6⟩ := Bool.and_eq_true_iff.mp k5
      rcases hv with rfl | rfl | rfl | rfl | rfl | rfl | rfl | rfl
      · exact ⟨_, .str _, lenOk_s (by rw [len_app]; show sg.length + 1 ≤ 1000; omega), shaped_s k1, any_str _⟩
      · exact ⟨_, .str _, lenOk_s (by omega), shaped_s k2, any_str _⟩
      · exact ⟨_, .str _, lenOk_s (by omega), shaped_s k3, any_str _⟩
      · exact ⟨_, .str _, lenOk_s (by rw [len_app]; show 1 + sg.length ≤ 1000; omega), shaped_s k4, any_str _⟩
      · exact ⟨_, .str _, lenOk_s (by rw [len_app]; show sg.length + 1 ≤ 1000; omega), shaped_s k5, any_str _⟩
      · exact ⟨_, .str _, lenOk_s (by decide), shaped_s (by decide +kernel), any_str _⟩
      · refine ⟨.tuple [.str sg], dp_mono ((Off.of u2).trans f4').same (.tup o1 (.cons (.str sg) .nil)), lenOk_row (fun d hd => ?_) (show (1 : Nat) ≤ 1000000 by decide), shaped_t k6, any_tup _⟩
        rcases List.mem_cons.mp hd with rfl | q
        · exact lenOk_s (by omega)
        · cases q
      · exact ⟨_, .int _, by rw [lenOk], shaped_i _, any_int _⟩
    have lsg : lenOk (.str sg) = true := lenOk_s (by omega)
    have l3 : ∀ (w0 : Str) (d0 : PyData) (z0 : Str), w0.length ≤ 1000 → lenOk d0 = true → z0.length ≤ 1000 → lenOk (.tuple [.str w0, d0, .str z0]) = true := fun w0 d0 z0 h1 h2 h3 => lenOk_row (fun d hd => by
      simp only [List.mem_cons, List.not_mem_nil, or_false] at hd
      rcases hd with rfl | rfl | rfl
      · exact lenOk_s h1
      · exact h2
      · exact lenOk_s h3) (show (3 : Nat) ≤ 1000000 by decide)
    refine ⟨_, rfl, (by show 3 ≤ sizeLine; decide), fun t3 nt3 => ?_⟩
    have u3 : Same V4 (upd V4 t3 (.tup [.str "send", .str sg, .str "self"])) := same_upd nt3
    refine ⟨_, .tuple [.str "send", .str sg, .str "self"], true, rfl, .tup sqT_new (.cons (.str _) (.cons (.str _) (.cons (.str _) .nil))), l3 _ _ _ (by decide) lsg (by decide), ?_, fun V5 u4 => ⟨_, rfl, iteF ?_⟩⟩
    · rw [row_send]
      exact decide_eq_true hs9
    generalize upd V4 t3 (.tup [.str "send", .str sg, .str "self"]) = V4' at u3 u4
    have u34 := u3.trans u4
    clear u3 u4
    have hd5 : Dp K V5 v d := dp_mono u34 (dp_off hd)
    have hv5 := hv4.same u34
    have hEv5 := u34 _ _ hEv4
    refine ⟨_, rfl, (by show 3 ≤ sizeLine; decide), fun t4 nt4 => ?_⟩
    have u5 : Same V5 (upd V5 t4 (.tup [.str "send", v, .str "self"])) := same_upd nt4
    have dr : Dp K (upd V5 t4 (.tup [.str "send", v, .str "self"])) (.ref t4) (.tuple [.str "send", d, .str "self"]) := .tup sqT_new (.cons (.str _) (.cons (dp_mono u5 hd5) (.cons (.str _) .nil)))
    refine ⟨_, rfl, _, rfl, d, sig9.map PyData.str, dp_mono u5 hd5, .lst (.inl (.inl (u5 _ _ hEv5))) (dpA_strs sig9), hsh, shaped_sig, ?_⟩
    refine ⟨_, _, _, rfl, dr, l3 _ _ _ (by decide) hok (by decide), ?_, fun V6 u6 => ⟨_, rfl, iteF ?_⟩⟩
    · rw [row_send, hany]
    generalize upd V5 t4 (.tup [.str "send", v, .str "self"]) = V5' at u5 dr u6
    have u56 := u5.trans u6
    clear u5 u6 dr
    have hv6 := hv5.same u56
    have hEv6 := u56 _ _ hEv5
    have l2 : ∀ (w0 : Str) (d0 : PyData), w0.length ≤ 1000 → lenOk d0 = true → lenOk (.tuple [.str w0, d0]) = true := fun w0 d0 h1 h2 => lenOk_row (fun d hd => by
      simp only [List.mem_cons, List.not_mem_nil, or_false] at hd
      rcases hd with rfl | rfl
      · exact lenOk_s h1
      · exact h2) (show (2 : Nat) ≤ 1000000 by decide)
    have lt1' : lenOk (.tuple [.str sg]) = true := lenOk_row (fun d hd => by
      rcases List.mem_cons.mp hd with rfl | q
      · exact lsg
      · cases q) (show (1 : Nat) ≤ 1000000 by decide)
    have wl : ∀ w0 ∈ (["mask", "unmask"] : List Str), w0.length ≤ 1000 := by decide +kernel
    refine ⟨(by show 2 ≤ sizeLine; decide), fun t5 nt5 => ?_⟩
    have u7 : Same V6 (upd V6 t5 (.tup ([.str "mask", .str "unmask"]))) := same_upd nt5
    have qT : SqT K (upd V6 t5 (.tup ([.str "mask", .str "unmask"]))) t5 ((["mask", "unmask"] : List Str).map V.str) := sqT_new
    generalize upd V6 t5 (.tup ([.str "mask", .str "unmask"])) = V7 at u7 qT ⊢
    have hv7 := hv6.same u7
    have hEv7 := u7 _ _ hEv6
    refine ⟨t5, rfl, ⟨_, qT⟩, ?_⟩
    refine for_it (walk_tup (K := K) (a := t5) (xs := (["mask", "unmask"] : List Str).map V.str)) (fun j σ H' => ∃ z6 z7 z8, σ = [some (.ref a), some (.ref x), some (.ref e), some (.int (i : Nat)), some (.str sg), some v, z6, z7, z8, y9] ∧ Same V7 H')
      ⟨y6, y7, y8, rfl, Same.refl _⟩ (fun j σ H' _ ⟨_, _, _, _, h⟩ => Same.tup h qT) ?_ ?_
    · rintro j xw σ W1 W2 hj ⟨z6, z7, z8, rfl, w1⟩ ⟨rfl, hw⟩
      obtain ⟨word, rfl, hwm⟩ : ∃ word : Str, xw = .str word ∧ word ∈ (["mask", "unmask"] : List Str) := by
        obtain ⟨word, h1, h2⟩ := List.mem_map.mp (List.mem_of_getElem? hw)
        exact ⟨word, h2.symm, h1⟩
      refine ⟨_, rfl, _, rfl, (by show 1 ≤ sizeLine; decide), fun t6 nt6 => ?_⟩
      have w2 := same_upd (o := .tup [.str sg]) nt6
      refine ⟨(by show 2 ≤ sizeLine; decide), fun t7 nt7 => ?_⟩
      have w3 := same_upd (o := .tup [.str word, .ref t6]) nt7
      refine ⟨_, rfl, _, _, rfl, rfl, ?_⟩
      refine ⟨_, .tuple [.str word, .tuple [.str sg]], _, rfl, .tup sqT_new (.cons (.str _) (.cons (.tup (Same.tup w3 sqT_new) (.cons (.str _) .nil)) .nil)), l2 _ _ (wl _ hwm) lt1', rm1 word hwm, fun W3 w4 => ⟨_, rfl, iteF ?_⟩⟩
      have w5 : Same V7 W3 := w1.trans (w2.trans (w3.trans w4))
      clear w2 w3 w4
      refine ⟨_, rfl, e, _, rfl, .inl (.inl (w5 _ _ hEv7)), ?_⟩
      refine for_it (walk_enum (K := K) (a := e) (xs := sig9.map V.str)) (fun q σ H' => ∃ z7 z8, σ = [some (.ref a), some (.ref x), some (.ref e), some (.int (i : Nat)), some (.str sg), some v, some (.str word), z7, z8, y9] ∧ Same V7 H')
        ⟨z7, z8, rfl, w5⟩ (fun q σ H' _ ⟨_, _, _, h⟩ => .inl (.inl (h _ _ hEv7))) ?_ (fun σ H' ⟨z7, z8, h1, h2⟩ => ⟨_, _, _, h1, h2⟩)
      rintro q zz σ X1 X2 hq ⟨z7, z8, rfl, x1⟩ ⟨Tq, xq, yq, rfl, nTq, rfl, hx2, hy2⟩
      cases hx2
      have hq : q < 9 := hq
      have hy2 := sig9_at hq hy2
      subst hy2
      have rm3 := rm2 q hq word hwm
      have hol := sig9_ln q hq
      generalize sig9.getD q "" = so at *
      have x2 : Same X1 (upd X1 Tq (.tup [.int (q : Nat), .str so])) := same_upd nTq
      have q3 : SqT K (upd X1 Tq (.tup [.int (q : Nat), .str so])) Tq [.int (q : Nat), .str so] := sqT_new
      generalize upd X1 Tq (.tup [.int (q : Nat), .str so]) = X2 at x2 q3 ⊢
      refine ⟨Tq, _, rfl, q3, rfl, _, _, rfl, _, _, rfl, rfl, ?_⟩
      refine ⟨_, rfl, _, rfl, _, rfl, (by show 2 ≤ sizeLine; decide), fun t8 nt8 => ?_⟩
      have x3 := same_upd (o := .tup [.str sg, .str so]) nt8
      refine ⟨(by show 2 ≤ sizeLine; decide), fun t9 nt9 => ?_⟩
      have x4 := same_upd (o := .tup [.str word, .ref t8]) nt9
      have lt2 : lenOk (.tuple [.str sg, .str so]) = true := l2 _ _ (by omega) (lenOk_s (by omega))
      have dp3 : Dp K (upd (upd X2 t8 (.tup [.str sg, .str so])) t9 (.tup [.str word, .ref t8])) (.ref t9) (.tuple [.str word, .tuple [.str sg, .str so]]) := .tup sqT_new (.cons (.str _) (.cons (.tup (Same.tup x4 sqT_new) (.cons (.str _) (.cons (.str _) .nil))) .nil))
      have x5 : Same V7 (upd (upd X2 t8 (.tup [.str sg, .str so])) t9 (.tup [.str word, .ref t8])) := x1.trans (x2.trans (x3.trans x4))
      generalize upd (upd X2 t8 (.tup [.str sg, .str so])) t9 (.tup [.str word, .ref t8]) = X4 at x5 dp3 ⊢
      clear x3 x4
      refine ⟨_, rfl, _, _, rfl, rfl, _, rfl, ?_⟩
      by_cases c1 : (1 : Int) < (i : Int)
      · rw [if_pos (decide_eq_true c1)]
        rw [decide_eq_true c1, Bool.true_and] at rm3
        refine ⟨_, rfl, _, _, rfl, rfl, ?_⟩
        exact ⟨_, _, _, rfl, dp3, l2 _ _ (wl _ hwm) lt2, rm3, fun X5 x6 => ⟨_, rfl, iteF ⟨_, _, rfl, x5.trans x6⟩⟩⟩
      · rw [if_neg (fun z => c1 (of_decide_eq_true z))]
        rw [decide_eq_false c1, Bool.false_and] at rm3
        exact ⟨_, _, _, rfl, dp3, l2 _ _ (wl _ hwm) lt2, rm3, fun X5 x6 => ⟨_, rfl, iteF ⟨_, _, rfl, x5.trans x6⟩⟩⟩
    · rintro σ W1 ⟨z6, z7, z8, rfl, w1⟩
      have hW1 := hv7.same w1
      have hEW1 := w1 _ _ hEv7
      refine ⟨Nat.zero_le _, fun t6 nt6 => ?_⟩
      have w2 := same_upd (o := .tup []) nt6
      refine ⟨(by show 2 ≤ sizeLine; decide), fun t7 nt7 => ?_⟩
      have w3 := same_upd (o := .tup [.int 0, .ref t6]) nt7
      refine ⟨_, rfl, (by show 1 ≤ sizeLine; decide), fun t8 nt8 => ?_⟩
      have w4 := same_upd (o := .tup [.str sg]) nt8
      refine ⟨(by show 2 ≤ sizeLine; decide), fun t9 nt9 => ?_⟩
      have w5 := same_upd (o := .tup [.int 0, .ref t8]) nt9
      refine ⟨(by show 4 ≤ sizeLine; decide), fun t10 nt10 => ?_⟩
      have w6 := same_upd (o := .tup [.str "plain", .str "ignore", .ref t7, .ref t9]) nt10
      have d6 : ∀ v0 ∈ [V.str "plain", .str "ignore", .ref t7, .ref t9], ∃ d0, Dp K (upd (upd (upd (upd (upd W1 t6 (.tup [])) t7 (.tup [.int 0, .ref t6])) t8 (.tup [.str sg])) t9 (.tup [.int 0, .ref t8])) t10 (.tup [.str "plain", .str "ignore", .ref t7, .ref t9])) v0 d0 ∧ lenOk d0 = true ∧ d0 ∈ ([.str "plain", .str "ignore", .tuple [.int 0, .tuple []], .tuple [.int 0, .tuple [.str sg]]] : List PyData) := by
        intro v0 hv0
        simp only [List.mem_cons, List.not_mem_nil, or_false] at hv0
        rcases hv0 with rfl | rfl | rfl | rfl
        · exact ⟨_, .str _, by decide +kernel, by simp⟩
        · exact ⟨_, .str _, by decide +kernel, by simp⟩
        · exact ⟨.tuple [.int 0, .tuple []], .tup (Same.tup (w4.trans (w5.trans w6)) sqT_new) (.cons (.int 0) (.cons (.tup (Same.tup (w3.trans (w4.trans (w5.trans w6))) sqT_new) .nil) .nil)), by decide +kernel, by simp⟩
        · refine ⟨.tuple [.int 0, .tuple [.str sg]], .tup (Same.tup w6 sqT_new) (.cons (.int 0) (.cons (.tup (Same.tup (w5.trans w6) sqT_new) (.cons (.str sg) .nil)) .nil)), lenOk_row (fun d hd => ?_) (show (2 : Nat) ≤ 1000000 by decide), by simp⟩
          simp only [List.mem_cons, List.not_mem_nil, or_false] at hd
          rcases hd with rfl | rfl
          · rw [lenOk]
          · exact lt1'
      have q6 : SqT K (upd (upd (upd (upd (upd W1 t6 (.tup [])) t7 (.tup [.int 0, .ref t6])) t8 (.tup [.str sg])) t9 (.tup [.int 0, .ref t8])) t10 (.tup [.str "plain", .str "ignore", .ref t7, .ref t9])) t10 [.str "plain", .str "ignore", .ref t7, .ref t9] := sqT_new
      have w7 := w2.trans (w3.trans (w4.trans (w5.trans w6)))
      generalize upd (upd (upd (upd (upd W1 t6 (.tup [])) t7 (.tup [.int 0, .ref t6])) t8 (.tup [.str sg])) t9 (.tup [.int 0, .ref t8])) t10 (.tup [.str "plain", .str "ignore", .ref t7, .ref t9]) = W6 at w7 d6 q6 ⊢
      clear w2 w3 w4 w5 w6
      refine ⟨t10, rfl, ⟨_, q6⟩, ?_⟩
      refine for_it (walk_tup (K := K) (a := t10) (xs := [.str "plain", .str "ignore", .ref t7, .ref t9])) (fun j σ H' => ∃ z9, σ = [some (.ref a), some (.ref x), some (.ref e), some (.int (i : Nat)), some (.str sg), some v, z6, z7, z8, z9] ∧ Same W6 H')
        ⟨y9, rfl, Same.refl _⟩ (fun j σ H' _ ⟨_, _, h⟩ => Same.tup h q6) ?_ ?_
      · rintro j xw σ X1 X2 hj ⟨z9, rfl, x1⟩ ⟨rfl, hw⟩
        obtain ⟨d0, hd0, hl0', hm0⟩ := d6 xw (List.mem_of_getElem? hw)
        refine ⟨_, rfl, _, rfl, (by show 3 ≤ sizeLine; decide), fun t11 nt11 => ?_⟩
        have x2 := same_upd (o := .tup [.str "handle", .str sg, xw]) nt11
        have lt3 : lenOk (.tuple [.str "handle", .str sg, d0]) = true := lenOk_row (fun d hd => by
          simp only [List.mem_cons, List.not_mem_nil, or_false] at hd
          rcases hd with rfl | rfl | rfl
          · exact lenOk_s (by decide)
          · exact lsg
          · exact hl0') (show (3 : Nat) ≤ 1000000 by decide)
        refine ⟨_, rfl, _, _, rfl, rfl, ?_⟩
        exact ⟨_, .tuple [.str "handle", .str sg, d0], _, rfl, .tup sqT_new (.cons (.str _) (.cons (.str _) (.cons (dp_mono (x1.trans x2) hd0) .nil))), lt3, rh d0 hm0, fun X3 x3 => ⟨_, rfl, iteF ⟨_, rfl, x1.trans (x2.trans x3)⟩⟩⟩
      · rintro σ X1 ⟨z9, rfl, x1⟩
        exact ⟨_, _, _, _, _, _, _, rfl, hW1.same (w7.trans x1), x1 _ _ (w7 _ _ hEW1)⟩
end
end Kin
/-! A hook whose part of the heap holds the interpreter's own statics too: reading a name of an own class looks there. -/
namespace Kin
open PySem PySem.Spec PyProof.Rows L2
def partS (g : Addr → Option Obj) (n : Nat) : PySem.W.Frag := He.frT g (He.asD g n ++ [cStatics])
def obsS (n : Nat) (fa : List He.Fa) (fn : List He.DefD) (ts : List He.Tab) (ex : PySem.W.Frag → Bool) (g : Addr → Option Obj) : He.AlX := (He.obsT fa fn ts (partS g n), ex (partS g n))
theorem saysS {n : Nat} {fa : List He.Fa} {fn : List He.DefD} {ts : List He.Tab} {ex : PySem.W.Frag → Bool} {w : World} {h : Heap} (e : obsS n fa fn ts ex h.get? = He.valX fn ts w) : He.SaysX fa fn ts [] ex w h (partS h.get? n) where
  t := congrArg (fun z : He.AlX => z.1) e
  more := congrArg (fun z : He.AlX => z.2) e
  hd := fun _ q => nomatch q
  out := fun _ q => nomatch q
  empty := fun _ q => nomatch q
def hookS (n : Nat) (fa : List He.Fa) (fn : List He.DefD) (ts : List He.Tab) (ex : PySem.W.Frag → Bool) : PySem.W.Hook where
  α := He.AlX
  obs := fun s => obsS n fa fn ts ex s.heap.get?
  val := fun w => He.valX fn ts w
  says := fun w h => ∃ K : PySem.W.Frag, K.In h ∧ He.SaysX fa fn ts [] ex w h K
  of := fun _ _ e => ⟨_, He.frT_in, saysS e⟩
  keeps := fun _ _ _ ⟨K, hK, c⟩ k => ⟨K, PySem.W.Frag.In.keeps hK k, ⟨c.t, c.more, c.hd, c.out, fun _ q => nomatch q⟩⟩
theorem obsS_eq {n : Nat} {fa : List He.Fa} {fn : List He.DefD} {ts : List He.Tab} {ex : PySem.W.Frag → Bool} {g : Addr → Option Obj} {s : Shared} (h : ∀ a, g a = s.heap.get? a) : obsS n fa fn ts ex g = (hookS n fa fn ts ex).obs s := by
  rw [show g = s.heap.get? from funext h]
  rfl
end Kin
namespace Kin
open PySem PySem.Spec PyProof.Rows L2
def topE (i : Nat) : Stmt := PySem.Challenge.pw_kinsignals_k06_signals_and_refusals.main.body.getD i (.Pass ⟨0, 0, 0, 0⟩)
def mkD (x : Str) (i : Nat) : He.DefD := ⟨(x, none), x, x, defArgs (topE i), defBody (topE i), defScope (topE i), [], []⟩
def clsE (i : Nat) : Stmt := match topE i with
  | .ClassDef _ _ _ b _ _ _ _ _ _ _ => b.getD 0 (.Pass ⟨0, 0, 0, 0⟩)
  | _ => .Pass ⟨0, 0, 0, 0⟩
def mkI (x : Str) (q : Str) (i : Nat) : He.DefD := ⟨(x, some "__init__"), "__init__", q, defArgs (clsE i), defBody (clsE i), defScope (clsE i), [], []⟩
def fn : List He.DefD := ([mkD "is_whole" 1, mkD "is_natural" 2, mkD "is_small" 3, mkD "is_one_of" 4, mkD "is_signal" 8, mkD "is_loose" 9, mkD "are_loose" 10, mkD "is_title" 14, mkD "is_row_number" 15, mkD "is_handler" 16, mkD "is_child_part" 17, mkD "is_part" 18, mkD "is_row" 19, mkD "_law_hand" 34, mkD "_law_pick" 35, mkD "_law_of" 36, mkD "_law_marks" 37, mkD "_law_refusals_right" 38, mkD "_law_is" 39, mkD "law" 40, mkI "NoTitle" "NoTitle.__init__" 22, mkI "NoOne" "NoOne.__init__" 23, mkI "NoSession" "NoSession.__init__" 24, mkI "NoText" "NoText.__init__" 25, mkI "NoBook" "NoBook.__init__" 26, mkI "NoTyped" "NoTyped.__init__" 27, mkI "NoEntry" "NoEntry.__init__" 28, mkI "NoScript" "NoScript.__init__" 29, mkI "TooMany" "TooMany.__init__" 30, mkI "NoLine" "NoLine.__init__" 31] : List He.DefD) ++ ([mkI "NoHouse" "NoHouse.__init__" 32] : List He.DefD)
def fa : List He.Fa := ([.free "isinstance", .free "int", .free "bool", .free "str", .free "tuple", .free "list", .free "len", .free "all", .free "zip", .free "enumerate", .free "range", .free "sorted", .free "set", .free "repr", .glo "SIGNALS", .glo "SURE", .glo "FORMS", .int "LONGEST_TITLE" 8, .glo "is_whole", .glo "is_natural", .glo "is_small", .glo "is_one_of", .glo "is_signal", .glo "is_loose", .glo "are_loose", .glo "is_title", .glo "is_row_number", .glo "is_handler", .glo "is_child_part", .glo "is_part"] : List He.Fa) ++ ([.glo "is_row", .glo "_law_hand", .glo "_law_pick", .glo "_law_of", .glo "_law_marks", .glo "_law_refusals_right", .glo "_law_is", .glo "law", .glo "KinError", .glo "NoTitle", .glo "NoOne", .glo "NoSession", .glo "NoText", .glo "NoBook", .glo "NoTyped", .glo "NoEntry", .glo "NoScript", .glo "TooMany", .glo "NoLine", .glo "NoHouse", .meth "NoTitle" "__init__", .meth "NoOne" "__init__", .meth "NoSession" "__init__", .meth "NoText" "__init__", .meth "NoBook" "__init__", .meth "NoTyped" "__init__", .meth "NoEntry" "__init__", .meth "NoScript" "__init__", .meth "TooMany" "__init__", .meth "NoLine" "__init__"] : List He.Fa) ++ ([.meth "NoHouse" "__init__", .free "ValueError"] : List He.Fa)
def formsB (K : PySem.W.Frag) : Bool := forms.all fun q => match PySem.W.nsIn K (He.ga K "FORMS") q.1 with
  | some (some (.ref a)) => (match K.lookup a with
    | some ⟨.type c, _, .seq its _, _⟩ => decide (c = "tuple") && (decide (its.size ≤ sizeLine) && He.relAll (q.2.map V.str) its.toList)
    | _ => false)
  | _ => false
def plainB (K : PySem.W.Frag) : Bool := match K.lookup (He.ga K "SIGNALS") with
  | some ⟨.type c, none, _, _⟩ => decide (c = "tuple")
  | _ => false
def kitsB (K : PySem.W.Frag) : Bool := (List.range 11).all fun i => (List.range 11).all fun j => eqB (PySem.W.kitOne K (.ref (cl K i)) (.ref (cl K j))) (some (i == j))
def topsB (K : PySem.W.Frag) : Bool := (List.range 11).all fun i => eqB (PySem.W.kitOne K (.ref (cl K i)) (.ref (He.ga K "KinError"))) (some true) && eqB (PySem.W.kitOne K (.ref (cl K i)) (.type "ValueError")) (some true)
def namesB (K : PySem.W.Frag) : Bool := ([(0, "title"), (1, "name"), (2, "name"), (3, "row")] : List (Nat × Str)).all fun p => He.eqO (PySem.W.findIn K (.ref (cl K p.1)) p.2) (some none)
def errB (K : PySem.W.Frag) : Bool := baseB K (He.ga K "KinError") && (((List.range 11).all fun i => oexB K (cl K i) && excB K (cl K i)) && (kitsB K && (topsB K && namesB K)))
def ex (K : PySem.W.Frag) : Bool := errB K && He.tupB K "SIGNALS" (sig9.map He.Dv.str) && (He.tupB K "SURE" (sure.map He.Dv.str) && (formsB K && plainB K))
def ts : List He.Tab := [(fun K => He.ga K "FORMS", forms.map (·.1))]
abbrev R : PySem.W.OpenRow := PySem.W.OpenLaw.row PySem.Challenge.rw_kinsignals_k06_signals_and_refusals
abbrev hk : PySem.W.Hook := hookS 4 fa fn ts ex
def ob (s : PySem.W.SharedT) : He.AlX := obsS 4 fa fn ts ex (HandSHeadRun.getT s)
theorem ob_eq (s : PySem.W.SharedT) : ob s = hk.obs s.abs := obsS_eq (HandSHeadRun.getT_eq s)
def loose : List Str := (["is_whole", "is_natural", "is_small", "is_one_of", "SIGNALS", "SURE", "is_signal", "is_loose", "are_loose", "LONGEST_TITLE", "FORMS", "is_title", "is_row_number", "is_handler", "is_child_part", "is_part", "is_row", "KinError", "NoTitle", "NoOne", "NoSession", "NoText", "NoBook", "NoTyped", "NoEntry", "NoScript", "TooMany", "NoLine", "NoHouse", "_law_hand"] : List Str) ++ (["_law_pick", "_law_of", "_law_marks", "_law_refusals_right", "_law_is"] : List Str)
theorem run (w : World) : HandSHeadRun.RunEq R (PySem.W.view R.prog [40]) hk ob 8000 loose w :=
  PySem.W.byRow2 "special-get-raises" (P := fun w => HandSHeadRun.RunEq R (PySem.W.view R.prog [40]) hk ob 8000 loose w) (fun w os => by kernel_rfl) (fun w os => by kernel_rfl) w
end Kin
namespace Kin
open PySem PySem.Spec PyProof.Rows L2
section
variable {P : Program} {w : World} {K : PySem.W.Frag} {mg : Str → Option Value} {base : Heap} {tL : Tok} {es : Array DictEntry} {nF : Nat}
abbrev s_is_part : Stmt := topS 18
theorem sc_is_part : FnScope [("kind" : Str), ("part" : Str), ("size" : Str)] ["kind", "part", "size"] (defScope s_is_part) := ⟨rfl, rfl, rfl, by decide +kernel, rfl, by decide +kernel, by decide +kernel⟩
theorem ok_is_part {f : Addr} {fd : FuncData} (F : FnP K "is_part" s_is_part f fd) (T : Bi K w mg tL es nF) (c_is_title : Cal P w K mg base "is_title" ["thing"] 1 (spDL K pTitle)) (c_is_small : Cal P w K mg base "is_small" ["thing"] 2 (spD K pSmall)) (c_is_whole : Cal P w K mg base "is_whole" ["thing"] 1 (spD K pWhole)) (c_is_row_number : Cal P w K mg base "is_row_number" ["thing", "size"] 3 (spDI K pRowNo)) (c_is_signal : Cal P w K mg base "is_signal" ["thing"] 2 (spD K fun d => pOne d sig9))
    (c_is_loose : Cal P w K mg base "is_loose" ["thing"] 3 (spD K pLoose)) (c_are_loose : Cal P w K mg base "are_loose" ["thing"] 4 (spD K pAre)) (c_is_one_of : Cal P w K mg base "is_one_of" ["thing", "words"] 1 (spOne K)) (c_is_handler : Cal P w K mg base "is_handler" ["thing", "size"] 5 (spDI K pHandler)) (c_is_child_part : Cal P w K mg base "is_child_part" ["kind", "part"] 3 (spChild K)) : FnOk P w K mg base CX0 6 f fd ["kind", "part", "size"] (spPart K) := by
  refine F.ok sc_is_part (fun vs H Q E h => ?_) (fun cdv A outer s H vs Q E hr h => ?_)
  · obtain ⟨x, d, kd, n, rfl, _⟩ := h
    rfl
  · obtain ⟨x, d, kd, n, rfl, hd, hok, k⟩ := h
    refine ⟨_, PSs.nox (pss_cons (ps_if (pt_cmpR op_eq (pv 0) pe_str (nomark _)) (pss_one (ps_ret (pe_cal c_is_title (hr.mono (by decide)) (by rfl) pass0 (pa_cons (pv 1) pa_nil)))) pss_nil) (pss_cons (ps_if (pt_cmpR op_eq (pv 0) pe_str (nomark _)) (pss_one (ps_ret (pe_cal c_is_small (hr.mono (by decide)) (by rfl) pass0 (pa_cons (pv 1) pa_nil)))) pss_nil) (pss_cons (ps_if (pt_cmpR op_eq (pv 0) pe_str (nomark _)) (pss_one (ps_ret (pe_cal c_is_whole (hr.mono (by decide)) (by rfl) pass0 (pa_cons (pv 1) pa_nil)))) pss_nil) (pss_cons (ps_if (pt_cmpR op_eq (pv 0) pe_str (nomark _)) (pss_one (ps_ret (pe_callB call_isi (by rfl) T.n_isinstance boot_isinstance (pa_cons (pv 1) (pa_cons (pe_bltn (v := .ty "bool") (by rfl) T.n_bool boot_bool rfl) pa_nil))))) pss_nil) (pss_cons (ps_if (pt_cmpR op_eq (pv 0) pe_str (nomark _)) (pss_one (ps_ret (pe_cal c_is_row_number (hr.mono (by decide)) (by rfl) pass0 (pa_cons (pv 1) (pa_cons (pv 2) pa_nil))))) pss_nil) (pss_cons (ps_if (pt_cmpR op_eq (pv 0) pe_str (nomark _)) (pss_one (ps_ret (pe_cal c_is_signal (hr.mono (by decide)) (by rfl) pass0 (pa_cons (pv 1) pa_nil)))) pss_nil) (pss_cons (ps_if (pt_cmpR op_eq (pv 0) pe_str (nomark _)) (pss_one (ps_ret (pe_cal c_is_loose (hr.mono (by decide)) (by rfl) pass0 (pa_cons (pv 1) pa_nil)))) pss_nil) (pss_cons (ps_if (pt_cmpR op_eq (pv 0) pe_str (nomark _)) (pss_one (ps_ret (pe_cal c_are_loose (hr.mono (by decide)) (by rfl) pass0 (pa_cons (pv 1) pa_nil)))) pss_nil) (pss_cons (ps_if (pt_cmpR op_eq (pv 0) pe_str (nomark _)) (pss_one (ps_ret (pe_or (pe_cal c_is_one_of (hr.mono (by decide)) (by rfl) pass0 (pa_cons (pv 1) (pa_cons (pe_tup (pa_cons pe_str (pa_cons pe_str pa_nil))) pa_nil))) (pe_one (pe_cal c_is_handler (hr.mono (by decide)) (by rfl) pass0 (pa_cons (pv 1) (pa_cons (pv 2) pa_nil))))))) pss_nil) (pss_cons (ps_if (pt_cmpR op_eq (pv 0) pe_str (nomark _)) (pss_one (ps_ret (pe_cal c_is_one_of (hr.mono (by decide)) (by rfl) pass0 (pa_cons (pv 1) (pa_cons (pe_tup (pa_cons pe_str (pa_cons pe_str pa_nil))) pa_nil))))) pss_nil) (pss_one (ps_ret (pe_cal c_is_child_part (hr.mono (by decide)) (by rfl) pass0 (pa_cons (pv 0) (pa_cons (pv 1) pa_nil))))))))))))))), ?_⟩
    unfold pPart at k
    refine ⟨_, rfl, rfl, _, rfl, ?_⟩
    rw [dec_str]
    refine ite2 (fun e => ?_) (fun e => ?_)
    · rw [if_pos (of_decide_eq_true e)] at k
      exact ⟨x, rfl, x, d, rfl, hd, hok, fun H1 s1 => k H1 s1⟩
    rw [if_neg (fun z => e (decide_eq_true z))] at k
    refine ⟨_, rfl, rfl, _, rfl, ?_⟩
    rw [dec_str]
    refine ite2 (fun e => ?_) (fun e => ?_)
    · rw [if_pos (of_decide_eq_true e)] at k
      exact ⟨x, rfl, x, d, rfl, hd, fun H1 s1 => k H1 s1⟩
    rw [if_neg (fun z => e (decide_eq_true z))] at k
    refine ⟨_, rfl, rfl, _, rfl, ?_⟩
    rw [dec_str]
    refine ite2 (fun e => ?_) (fun e => ?_)
    · rw [if_pos (of_decide_eq_true e)] at k
      exact ⟨x, rfl, x, d, rfl, hd, fun H1 s1 => k H1 s1⟩
    rw [if_neg (fun z => e (decide_eq_true z))] at k
    refine ⟨_, rfl, rfl, _, rfl, ?_⟩
    rw [dec_str]
    refine ite2 (fun e => ?_) (fun e => ?_)
    · rw [if_pos (of_decide_eq_true e)] at k
      refine ⟨x, rfl, x, _, _, _, _, rfl, .ty _, tyx_of hd, kit_bool (nd_of hd), ?_⟩
      have q := k H (Same.refl H)
      cases hd <;> exact q
    rw [if_neg (fun z => e (decide_eq_true z))] at k
    refine ⟨_, rfl, rfl, _, rfl, ?_⟩
    rw [dec_str]
    refine ite2 (fun e => ?_) (fun e => ?_)
    · rw [if_pos (of_decide_eq_true e)] at k
      exact ⟨x, rfl, _, rfl, x, d, n, rfl, hd, fun H1 s1 => k H1 s1⟩
    rw [if_neg (fun z => e (decide_eq_true z))] at k
    refine ⟨_, rfl, rfl, _, rfl, ?_⟩
    rw [dec_str]
    refine ite2 (fun e => ?_) (fun e => ?_)
    · rw [if_pos (of_decide_eq_true e)] at k
      exact ⟨x, rfl, x, d, rfl, hd, fun H1 s1 => k H1 s1⟩
    rw [if_neg (fun z => e (decide_eq_true z))] at k
    refine ⟨_, rfl, rfl, _, rfl, ?_⟩
    rw [dec_str]
    refine ite2 (fun e => ?_) (fun e => ?_)
    · rw [if_pos (of_decide_eq_true e)] at k
      exact ⟨x, rfl, x, d, rfl, hd, fun H1 s1 => k H1 s1⟩
    rw [if_neg (fun z => e (decide_eq_true z))] at k
    refine ⟨_, rfl, rfl, _, rfl, ?_⟩
    rw [dec_str]
    refine ite2 (fun e => ?_) (fun e => ?_)
    · rw [if_pos (of_decide_eq_true e)] at k
      exact ⟨x, rfl, x, d, rfl, hd, fun H1 s1 => k H1 s1⟩
    rw [if_neg (fun z => e (decide_eq_true z))] at k
    refine ⟨_, rfl, rfl, _, rfl, ?_⟩
    rw [dec_str]
    refine ite2 (fun e => ?_) (fun e => ?_)
    · rw [if_pos (of_decide_eq_true e)] at k
      refine ⟨x, rfl, (by show 2 ≤ sizeLine; decide), fun p hp => ⟨x, d, p, ["plain", "ignore"], rfl, dp_mono (same_upd hp) hd, .inr sqT_new, fun H2 s2 => ⟨_, rfl, ?_⟩⟩⟩
      cases e1 : pOne d ["plain", "ignore"] with
      | true =>
        rw [e1] at k
        exact iteT (k H2 ((same_upd hp).trans s2))
      | false =>
        rw [e1] at k
        exact iteF ⟨x, rfl, _, rfl, x, d, n, rfl, dp_mono ((same_upd hp).trans s2) hd, fun H3 s3 => k H3 (((same_upd hp).trans s2).trans s3)⟩
    rw [if_neg (fun z => e (decide_eq_true z))] at k
    refine ⟨_, rfl, rfl, _, rfl, ?_⟩
    rw [dec_str]
    refine ite2 (fun e => ?_) (fun e => ?_)
    · rw [if_pos (of_decide_eq_true e)] at k
      exact ⟨x, rfl, (by show 2 ≤ sizeLine; decide), fun p hp => ⟨x, d, p, ["new", "mine"], rfl, dp_mono (same_upd hp) hd, .inr sqT_new, fun H2 s2 => k H2 ((same_upd hp).trans s2)⟩⟩
    rw [if_neg (fun z => e (decide_eq_true z))] at k
    exact ⟨_, rfl, x, rfl, x, d, kd, rfl, hd, k⟩
end
end Kin
namespace Kin
open PySem PySem.Spec PyProof.Rows L2
section
variable {P : Program} {w : World} {K : PySem.W.Frag} {mg : Str → Option Value} {base : Heap} {tL : Tok} {es : Array DictEntry} {nF : Nat}
abbrev s_is_handler : Stmt := topS 16
theorem sc_is_handler : FnScope [("thing" : Str), ("size" : Str)] ["thing", "size"] (defScope s_is_handler) := ⟨rfl, rfl, rfl, by decide +kernel, rfl, by decide +kernel, by decide +kernel⟩
theorem ok_is_handler {f : Addr} {fd : FuncData} (F : FnP K "is_handler" s_is_handler f fd) (T : Bi K w mg tL es nF) (c_is_row_number : Cal P w K mg base "is_row_number" ["thing", "size"] 3 (spDI K pRowNo)) (c_are_loose : Cal P w K mg base "are_loose" ["thing"] 4 (spD K pAre)) : FnOk P w K mg base CX0 5 f fd ["thing", "size"] (spDI K pHandler) := by
  refine F.ok sc_is_handler (fun vs H Q E h => ?_) (fun cdv A outer s H vs Q E hr h => ?_)
  · obtain ⟨x, d, n, rfl, _⟩ := h
    rfl
  · obtain ⟨x, d, n, rfl, hd, k⟩ := h
    refine ⟨_, PSs.nox (pss_cons (ps_if (PW.pt (pw_or (pt_not (pt_val (pe_callB call_isi (by rfl) T.n_isinstance boot_isinstance (pa_cons (pv 0) (pa_cons (pe_bltn (v := .ty "tuple") (by rfl) T.n_tuple boot_tuple rfl) pa_nil))))) (pw_or1 (pt_cmpR op_ne (pe_callB call_len_seq (by rfl) T.n_len PySem.boot_len (pa_cons (pv 0) pa_nil)) pe_int (nomark _))))) (pss_one (ps_ret pe_bl)) pss_nil) (pss_one (ps_ret (pe_and (pe_cal c_is_row_number (hr.mono (by decide)) (by rfl) pass0 (pa_cons (pe_ix ix_tup (pv 0) pe_int (fun _ _ => rfl)) (pa_cons (pv 1) pa_nil))) (pe_one (pe_cal c_are_loose (hr.mono (by decide)) (by rfl) pass0 (pa_cons (pe_ix ix_tup (pv 0) pe_int (fun _ _ => rfl)) pa_nil))))))), ?_⟩
    refine ⟨x, rfl, x, _, _, _, _, rfl, .ty _, tyx_of hd, kit_tup (nd_of hd), _, rfl, ?_⟩
    cases hd with
    | @tup a xs ds ha hds =>
      refine iteF ⟨_, rfl, a, xs, rfl, .inr ha, rfl, _, rfl, ?_⟩
      have hl := dpA_len hds
      refine iteLen (fun hne => ?_) (fun heq => ?_)
      · have e : pHandler (.tuple ds) n = false := by
          match ds, hl with
          | [], _ => rfl
          | [_], _ => rfl
          | [_, _], hl =>
            rw [hl] at hne
            exact absurd rfl hne
          | _ :: _ :: _ :: _, _ => rfl
        have q := k H (Same.refl H)
        rw [e] at q
        exact q
      · have hl2 : xs.length = 2 := by omega
        obtain ⟨x1, x2, rfl⟩ : ∃ x1 x2, xs = [x1, x2] := by
          match xs, hl2 with
          | [x1, x2], _ => exact ⟨x1, x2, rfl⟩
        cases hds with
        | @cons _ _ d1 _ h1 ht =>
          cases ht with
          | @cons _ _ d2 _ h2 ht2 =>
            cases ht2
            refine ⟨_, rfl, a, _, 0, x1, rfl, rfl, ha, rfl, _, rfl, x1, d1, n, rfl, h1, fun H1 s1 => ⟨_, rfl, ?_⟩⟩
            have q0 : ∀ H', Same H H' → Q (.bl (pRowNo d1 n && pAre d2)) H' := k
            cases e : pRowNo d1 n with
            | true =>
              refine iteT ⟨_, rfl, a, _, 1, x2, rfl, rfl, Same.tup s1 ha, rfl, x2, d2, rfl, dp_mono s1 h2, fun H2 s2 => ?_⟩
              have q := q0 H2 (s1.trans s2)
              rw [e] at q
              exact q
            | false =>
              have q := q0 H1 s1
              rw [e] at q
              exact iteF q
    | _ => exact iteT (k H (Same.refl H))
end
end Kin
namespace Kin
open PySem PySem.Spec PyProof.Rows L2
section
variable {P : Program} {w : World} {K : PySem.W.Frag} {mg : Str → Option Value} {base : Heap} {tL : Tok} {es : Array DictEntry} {nF : Nat}
abbrev s_is_child_part : Stmt := topS 17
theorem sc_is_child_part : FnScope [("kind" : Str), ("part" : Str)] ["kind", "part"] (defScope s_is_child_part) := ⟨rfl, rfl, rfl, by decide +kernel, rfl, by decide +kernel, by decide +kernel⟩
theorem ok_is_child_part {f : Addr} {fd : FuncData} (F : FnP K "is_child_part" s_is_child_part f fd) (T : Bi K w mg tL es nF) (c_is_natural : Cal P w K mg base "is_natural" ["thing"] 2 (spD K pNat)) (c_is_one_of : Cal P w K mg base "is_one_of" ["thing", "words"] 1 (spOne K)) : FnOk P w K mg base CX0 3 f fd ["kind", "part"] (spChild K) := by
  refine F.ok sc_is_child_part (fun vs H Q E h => ?_) (fun cdv A outer s H vs Q E hr h => ?_)
  · obtain ⟨x, d, kd, rfl, _⟩ := h
    rfl
  · obtain ⟨x, d, kd, rfl, hd, k⟩ := h
    refine ⟨_, PSs.nox (pss_cons (ps_if (pt_val (pe_cal c_is_natural (hr.mono (by decide)) (by rfl) pass0 (pa_cons (pv 1) pa_nil))) (pss_one (ps_ret pe_bl)) pss_nil) (pss_cons (ps_if (pt_cmpR op_eq (pv 0) pe_str (nomark _)) (pss_one (ps_ret (pe_cmpR op_isN (pv 1) pe_non (nomark _)))) pss_nil) (pss_cons (ps_if (pt_cmpR op_eq (pv 0) pe_str (nomark _)) (pss_one (ps_ret (pe_cal c_is_one_of (hr.mono (by decide)) (by rfl) pass0 (pa_cons (pv 1) (pa_cons (pe_tup (pa_cons pe_str pa_nil)) pa_nil))))) pss_nil) (pss_one (ps_ret (pe_cal c_is_one_of (hr.mono (by decide)) (by rfl) pass0 (pa_cons (pv 1) (pa_cons (pe_tup (pa_cons pe_str (pa_cons pe_str (pa_cons pe_str pa_nil)))) pa_nil)))))))), ?_⟩
    refine ⟨x, rfl, x, d, rfl, hd, fun H1 s1 => ⟨_, rfl, ?_⟩⟩
    unfold pChild at k
    refine ite2 (fun e => ?_) (fun e => ?_)
    · rw [if_pos e] at k
      exact k H1 s1
    · rw [if_neg e] at k
      refine ⟨_, rfl, rfl, _, rfl, ?_⟩
      rw [dec_str]
      refine ite2 (fun e1 => ?_) (fun e1 => ?_)
      · rw [if_pos (of_decide_eq_true e1)] at k
        refine ⟨_, rfl, rfl, ?_⟩
        have q := k H1 s1
        cases hd <;> exact q
      · rw [if_neg (fun z => e1 (decide_eq_true z))] at k
        refine ⟨_, rfl, rfl, _, rfl, ?_⟩
        rw [dec_str]
        refine ite2 (fun e2 => ?_) (fun e2 => ?_)
        · rw [if_pos (of_decide_eq_true e2)] at k
          refine ⟨_, rfl, (by show 1 ≤ sizeLine; decide), fun p hp => ⟨x, d, p, ["self"], rfl, dp_mono (s1.trans (same_upd hp)) hd, .inr sqT_new, fun H2 s2 => k H2 ((s1.trans (same_upd hp)).trans s2)⟩⟩
        · rw [if_neg (fun z => e2 (decide_eq_true z))] at k
          refine ⟨_, rfl, (by show 3 ≤ sizeLine; decide), fun p hp => ⟨x, d, p, ["self", "parent", "group"], rfl, dp_mono (s1.trans (same_upd hp)) hd, .inr sqT_new, fun H2 s2 => k H2 ((s1.trans (same_upd hp)).trans s2)⟩⟩
end
end Kin
namespace Kin
open PySem PySem.Spec PyProof.Rows L2
section
variable {P : Program} {w : World} {K : PySem.W.Frag} {mg : Str → Option Value} {base : Heap} {tL : Tok} {es : Array DictEntry} {nF : Nat}
abbrev s_are_loose : Stmt := topS 10
theorem sc_are_loose : FnScope [("thing" : Str), ("least" : Str), ("signal" : Str), ("place" : Str)] ["thing"] (defScope s_are_loose) := ⟨rfl, rfl, rfl, by decide +kernel, rfl, by decide +kernel, by decide +kernel⟩
theorem ok_are_loose {f : Addr} {fd : FuncData} (F : FnP K "are_loose" s_are_loose f fd) (T : Bi K w mg tL es nF) (c_is_loose : Cal P w K mg base "is_loose" ["thing"] 3 (spD K pLoose)) : FnOk P w K mg base CX0 4 f fd ["thing"] (spD K pAre) := by
  refine F.ok sc_are_loose (fun vs H Q E h => ?_) (fun cdv A outer s H vs Q E hr h => ?_)
  · obtain ⟨x, d, rfl, _⟩ := h
    rfl
  · obtain ⟨x, d, rfl, hd, k⟩ := h
    refine ⟨_, PSs.nox (pss_cons (ps_if (pt_not (pt_val (pe_callB call_isi (by rfl) T.n_isinstance boot_isinstance (pa_cons (pv 0) (pa_cons (pe_bltn (v := .ty "tuple") (by rfl) T.n_tuple boot_tuple rfl) pa_nil))))) (pss_one (ps_ret pe_bl)) pss_nil) (pss_cons (ps_set (i := 1) sc_are_loose.nd rfl (by first | exact .inl rfl | exact .inr rfl) pe_int) (pss_cons (ps_for PassesOwn.never rfl (pi_tup (pv 0)) (pg_name (i := 2) sc_are_loose.nd rfl (by first | exact .inl rfl | exact .inr rfl)) (pss_cons (ps_if (pt_not (pt_val (pe_cal c_is_loose (hr.mono (by decide)) (by rfl) pass0 (pa_cons (pv 2) pa_nil)))) (pss_one (ps_ret pe_bl)) pss_nil) (pss_cons (ps_set (i := 3) sc_are_loose.nd rfl (by first | exact .inl rfl | exact .inr rfl) (pe_bm PySem.F.plainAttrs_tuple PySem.F.slot_tuple_index PySem.F.type_tuple_index mt_tup_index (pe_glob (by rfl) T.g_SIGNALS T.r_SIGNALS) (pa_cons (pv 2) pa_nil))) (pss_cons (ps_if (pt_cmpR op_lt (pv 3) (pv 1) (nomark _)) (pss_one (ps_ret pe_bl)) pss_nil) (pss_one (ps_set (i := 1) sc_are_loose.nd rfl (by first | exact .inl rfl | exact .inr rfl) (pe_op op_add (pv 3) pe_int))))))) (pss_one (ps_ret pe_bl))))), ?_⟩
    refine ⟨x, rfl, x, _, _, _, _, rfl, .ty _, tyx_of hd, kit_tup (nd_of hd), _, rfl, ?_⟩
    cases hd with
    | @tup a xs ds ha hds =>
      refine iteF ⟨_, rfl, a, rfl, ⟨xs, ha⟩, ?_⟩
      refine for_tup (K := K) (a := a) (xs := xs) (fun i σ H' => ∃ (least : Nat) (y z : Option V), σ = [some (.ref a), some (.int (least : Int)), y, z] ∧ Same H H' ∧ pLoop 0 ds = pLoop least (ds.drop i))
        ⟨0, none, none, rfl, Same.refl H, rfl⟩ (fun i σ H' _ ⟨_, _, _, _, s1, _⟩ => Same.tup s1 ha) ?_ ?_
      · rintro i v σ H' hi ⟨least, y, z, rfl, s1, e⟩
        obtain ⟨d, hd1, hd2⟩ := dpA_get hds hi
        have hdd : ds.drop i = d :: ds.drop (i + 1) := by
          have hl : i < ds.length := (List.getElem?_eq_some_iff.mp hd1).1
          rw [List.drop_eq_getElem_cons hl]
          rw [List.getElem?_eq_getElem hl] at hd1
          cases hd1
          rfl
        rw [hdd] at e
        refine ⟨v, rfl, v, d, rfl, dp_mono s1 hd2, fun H2 s2 => ⟨_, rfl, ?_⟩⟩
        cases hL : pLoose d with
        | false =>
          refine iteT ?_
          have e2 : pLoop least (d :: ds.drop (i + 1)) = false := by
            cases d with
            | str z => rw [pLoop_str, hL]; rfl
            | _ => rfl
          have q := k H2 (s1.trans s2)
          rw [show pAre (.tuple ds) = pLoop 0 ds from rfl, e, e2] at q
          exact q
        | true =>
          refine iteF ?_
          cases hd2 with
          | str w =>
            have hw : w ∈ sig9 := by
              have q : (decide (w ∈ sig9) && !decide (w ∈ sure)) = true := hL
              exact of_decide_eq_true (Bool.and_eq_true_iff.mp q).1
            have hlt : sig9.idxOf w < sig9.length := List.idxOf_lt_length_iff.mpr hw
            refine ⟨.inr (.inl ⟨rfl, T.sigK⟩), _, rfl, _, sig9, w, sig9.idxOf w, rfl, rfl, T.sig H2, ?_, ?_, ?_⟩
            · rw [List.getElem?_eq_getElem hlt, List.getElem_idxOf]
            · intro m hm
              exact idx_min hm
            · rw [pLoop_str, hL, if_pos rfl] at e
              refine ⟨_, rfl, _, rfl, _, _, rfl, rfl, _, rfl, ?_⟩
              by_cases hc : ((sig9.idxOf w : Nat) : Int) < (least : Int)
              · rw [decide_eq_true hc]
                refine iteT ?_
                rw [if_pos (by omega)] at e
                have q := k H2 (s1.trans s2)
                rw [show pAre (.tuple ds) = pLoop 0 ds from rfl, e] at q
                exact q
              · rw [decide_eq_false hc]
                refine iteF ?_
                rw [if_neg (by omega)] at e
                exact ⟨_, rfl, _, _, rfl, rfl, sig9.idxOf w + 1, some (.str w), some (.int (sig9.idxOf w : Nat)), rfl, s1.trans s2, e⟩
          | _ => cases hL
      · rintro σ H' ⟨least, y, z, rfl, s1, e⟩
        have hz : ds.drop xs.length = [] := List.drop_eq_nil_of_le (by rw [dpA_len hds]; exact Nat.le_refl _)
        rw [hz, pLoop_nil] at e
        have q := k H' s1
        rw [show pAre (.tuple ds) = pLoop 0 ds from rfl, e] at q
        exact q
    | _ => exact iteT (k H (Same.refl H))
end
end Kin
namespace Kin
open PySem PySem.Spec PyProof.Rows L2
section
variable {P : Program} {w : World} {K : PySem.W.Frag} {mg : Str → Option Value} {base : Heap} {tL : Tok} {es : Array DictEntry} {nF : Nat}
abbrev s_is_row_number : Stmt := topS 15
theorem sc_is_row_number : FnScope [("thing" : Str), ("size" : Str)] ["thing", "size"] (defScope s_is_row_number) := ⟨rfl, rfl, rfl, by decide +kernel, rfl, by decide +kernel, by decide +kernel⟩
theorem ok_is_row_number {f : Addr} {fd : FuncData} (F : FnP K "is_row_number" s_is_row_number f fd) (T : Bi K w mg tL es nF) (c_is_natural : Cal P w K mg base "is_natural" ["thing"] 2 (spD K pNat)) : FnOk P w K mg base CX0 3 f fd ["thing", "size"] (spDI K pRowNo) := by
  refine F.ok sc_is_row_number (fun vs H Q E h => ?_) (fun cdv A outer s H vs Q E hr h => ?_)
  · obtain ⟨x, d, n, rfl, _⟩ := h
    rfl
  · obtain ⟨x, d, n, rfl, hd, k⟩ := h
    refine ⟨_, PSs.nox (pss_one (ps_ret (pe_and (pe_cal c_is_natural (hr.mono (by decide)) (by rfl) pass0 (pa_cons (pv 0) pa_nil)) (pe_one (pe_cmpR op_lt (pv 0) (pv 1) (nomark _)))))), ?_⟩
    refine ⟨x, rfl, x, d, rfl, hd, fun H1 s1 => ⟨_, rfl, ?_⟩⟩
    have k := k H1 s1
    cases hd with
    | int i =>
      have k : Q (.bl (decide (0 ≤ i) && decide (i < n))) H1 := k
      show if decide (0 ≤ i) = true then _ else _
      cases e : decide (0 ≤ i) with
      | true =>
        rw [e] at k
        exact iteT ⟨_, rfl, _, rfl, _, _, rfl, rfl, k⟩
      | false =>
        rw [e] at k
        exact iteF k
    | _ => exact iteF k
end
end Kin
namespace Kin
open PySem PySem.Spec PyProof.Rows L2
section
variable {P : Program} {w : World} {K : PySem.W.Frag} {mg : Str → Option Value} {base : Heap} {tL : Tok} {es : Array DictEntry} {nF : Nat}
abbrev s_is_title : Stmt := topS 14
theorem sc_is_title : FnScope [("thing" : Str), ("letter" : Str)] ["thing"] (defScope s_is_title) := ⟨rfl, rfl, rfl, by decide +kernel, rfl, by decide +kernel, by decide +kernel⟩
theorem title_le (c : Nat) : ((!decide ((⟨#[c]⟩ : Str).cps.toList < ("a" : Str).cps.toList)) && (!decide (("z" : Str).cps.toList < (⟨#[c]⟩ : Str).cps.toList))) = (decide (97 ≤ c) && decide (c ≤ 122)) := by
  have ea : ("a" : Str).cps.toList = [97] := by decide +kernel
  have ez : ("z" : Str).cps.toList = [122] := by decide +kernel
  rw [ea, ez]
  show ((!decide (([c] : List Nat) < [97])) && (!decide (([122] : List Nat) < [c]))) = _
  rw [lt1, lt1]
  by_cases h1 : c < 97
  · rw [decide_eq_true h1, decide_eq_false (show ¬ 97 ≤ c by omega)]
    rfl
  · rw [decide_eq_false h1, decide_eq_true (show 97 ≤ c by omega)]
    by_cases h2 : 122 < c
    · rw [decide_eq_true h2, decide_eq_false (show ¬ c ≤ 122 by omega)]
      rfl
    · rw [decide_eq_false h2, decide_eq_true (show c ≤ 122 by omega)]
      rfl
theorem ok_is_title {f : Addr} {fd : FuncData} (F : FnP K "is_title" s_is_title f fd) (T : Bi K w mg tL es nF) : FnOk P w K mg base CX0 1 f fd ["thing"] (spDL K pTitle) := by
  refine F.ok sc_is_title (fun vs H Q E h => ?_) (fun cdv A outer s H vs Q E hr h => ?_)
  · obtain ⟨x, d, rfl, _⟩ := h
    rfl
  · obtain ⟨x, d, rfl, hd, hok, k⟩ := h
    refine ⟨_, PSs.nox (pss_cons (ps_if (PW.pt (pw_or (pt_not (pt_val (pe_callB call_isi (by rfl) T.n_isinstance boot_isinstance (pa_cons (pv 0) (pa_cons (pe_bltn (v := .ty "str") (by rfl) T.n_str boot_str rfl) pa_nil))))) (pw_or1 (pt_not (pt_chain op_le op_le pe_int (pe_callB call_len_str (by rfl) T.n_len PySem.boot_len (pa_cons (pv 0) pa_nil)) (pe_glob (by rfl) T.g_LONGEST_TITLE T.r_LONGEST_TITLE)))))) (pss_one (ps_ret pe_bl)) pss_nil) (pss_one (ps_ret (pe_callB (cr_all rfl) (by rfl) T.n_all boot_all (pa_cons (pe_lc (own := [(("letter" : Str), 1)]) (g := gName 1) rfl sc_is_title.nd (pi_str (pv 0)) (blkOk_by (N := [("thing" : Str), ("letter" : Str)]) (sc := defScope s_is_title) (by decide +kernel)) (fun _ _ _ _ _ => by exact (pg_name (i := 1) sc_is_title.nd rfl (by first | exact .inl rfl | exact .inr rfl))) (fun _ _ _ _ _ => pts_nil) (fun _ _ _ _ _ => (pe_chain op_le_str op_le_str pe_str (pv 1) pe_str))) pa_nil))))), ?_⟩
    refine ⟨x, rfl, x, _, _, _, _, rfl, .ty _, tyx_of hd, kit_str (nd_of hd), _, rfl, ?_⟩
    cases hd with
    | str z =>
      have k : ∀ H', Same H H' → Q (.bl (decide (1 ≤ z.length) && decide (z.length ≤ 8) && azAll z)) H' := k
      have hz : z.length ≤ 1000000 := lenOk_str hok
      have hf : Q (.bl (decide (1 ≤ z.length) && decide (z.length ≤ 8) && azAll z)) H := k H (Same.refl H)
      refine iteF ⟨_, rfl, z, rfl, Nat.le_trans hz (by decide), _, _, rfl, rfl, _, rfl, ?_⟩
      refine ite2 (fun e1 => ?_) (fun e1 => ?_)
      · have e1 : (1 : Int) ≤ (z.length : Int) := of_decide_eq_true e1
        refine ⟨_, _, rfl, rfl, _, rfl, ?_⟩
        by_cases e2 : (z.length : Int) ≤ 8
        · rw [decide_eq_true e2]
          refine iteF ⟨_, rfl, z, rfl, fun D hD => ?_⟩
          refine lc_vals (walk_str (z := z)) (fun i => .bl ((z.cps.toList[i]?.map fun c => decide (97 ≤ c) && decide (c ≤ 122)).getD true)) hD ?_ (fun _ _ => True.intro) ?_ ?_
          · exact Nat.le_trans hz (by decide)
          · rintro i v H' H'' Qe hi s1 ⟨rfl, c, hc, rfl⟩ q
            refine ⟨rfl, ?_⟩
            have q := q H'' (Same.refl H'')
            have ec : z.cps.toList[i]? = some c := by rw [Array.getElem?_toList]; exact hc
            rw [ec] at q
            have q : Qe (.bl (decide (97 ≤ c) && decide (c ≤ 122))) H'' := q
            rw [← title_le c] at q
            refine ⟨_, rfl, _, _, rfl, rfl, _, rfl, ?_⟩
            cases e3 : (!decide ((⟨#[c]⟩ : Str).cps.toList < ("a" : Str).cps.toList)) with
            | true =>
              rw [e3] at q
              exact iteT ⟨_, _, rfl, rfl, q⟩
            | false =>
              rw [e3] at q
              exact iteF q
          · intro H' s1 hl
            refine ⟨D, (List.range z.cps.size).map fun i => (z.cps.toList[i]?.map fun c => decide (97 ≤ c) && decide (c ≤ 122)).getD true, rfl, .inl (.inl ?_), ?_⟩
            · rw [hl, List.map_map]
              rfl
            · have em : (List.range z.cps.size).map (fun i => (z.cps.toList[i]?.map fun c => decide (97 ≤ c) && decide (c ≤ 122)).getD true) = z.cps.toList.map fun c => decide (97 ≤ c) && decide (c ≤ 122) := by
                rw [show z.cps.size = z.cps.toList.length by simp]
                exact map_range_eq fun i x hx => by rw [hx]; rfl
              rw [em, all_id]
              have q := k H' s1
              rw [decide_eq_true (show 1 ≤ z.length by omega), decide_eq_true (show z.length ≤ 8 by omega)] at q
              exact q
        · rw [decide_eq_false e2]
          refine iteT ?_
          rw [decide_eq_false (show ¬ z.length ≤ 8 by omega), Bool.and_false] at hf
          exact hf
      · have e1 : ¬ (1 : Int) ≤ (z.length : Int) := fun q => e1 (decide_eq_true q)
        refine ⟨_, rfl, ?_⟩
        refine iteT ?_
        rw [decide_eq_false (show ¬ 1 ≤ z.length by omega)] at hf
        exact hf
    | _ => exact iteT (k H (Same.refl H))
end
end Kin
namespace Kin
open PySem PySem.Spec PyProof.Rows L2

theorem nsIn_free {K : PySem.W.Frag} {P : Params} {a : Addr} {ks : List Str} (h : He.dicW K a = some (He.keysIn P ks)) {z : Str} (hz : ¬ z ∈ ks) : PySem.W.nsIn K a z = some none := by
  unfold He.dicW at h
  cases q : K.lookup a with
  | none =>
    rw [q] at h
    cases h
  | some o =>
    obtain ⟨oc, od, dt, osl⟩ := o
    rw [q] at h
    cases oc with
    | type c =>
      cases od with
      | none =>
        cases dt with
        | dict es n =>
          have h1 : (match decide (c = "dict") && (osl.isEmpty && !(a == sysModules)) with
            | true => some (es.toList.map He.keyOf)
            | false => none) = some (He.keysIn P ks) := h
          cases zz : decide (c = "dict") && (osl.isEmpty && !(a == sysModules)) with
          | false =>
            rw [zz] at h1
            cases h1
          | true =>
            rw [zz] at h1
            have h2 : es.toList.map He.keyOf = He.keysIn P ks := Option.some.inj h1
            have hk : ∀ e ∈ es.toList, ∃ x t, e.key = .str x t ∧ x ∈ ks := by
              intro e he
              have hm : He.keyOf e ∈ He.keysIn P ks := by
                rw [← h2]
                exact List.mem_map.mpr ⟨e, he, rfl⟩
              obtain ⟨y, hy, ey⟩ := List.mem_map.mp hm
              unfold He.keyOf at ey
              split at ey
              · rename_i x t qk
                have e1 := Option.some.inj ey
                have e2 : y = x := (Prod.mk.inj e1).1
                exact ⟨x, t, qk, e2 ▸ hy⟩
              · cases ey
            unfold PySem.W.nsIn
            rw [q]
            have hf : es.toList.find? (fun e => e.key.isStr z) = none := by
              rw [List.find?_eq_none]
              intro e he hs
              obtain ⟨x, t, ek, hx⟩ := hk e he
              rw [ek] at hs
              have : x = z := eq_of_beq hs
              exact hz (this ▸ hx)
            have hr : es.toList.any (fun e => e.refKey) = false := by
              rw [List.any_eq_false]
              intro e he
              obtain ⟨x, t, ek, hx⟩ := hk e he
              unfold DictEntry.refKey
              rw [ek]
              simp
            show (match es.toList.find? (fun e => e.key.isStr z) with
              | some e => some (some e.val)
              | none => if es.toList.any (fun e => e.refKey) then none else some none) = _
            rw [hf, hr]
            rfl
        | _ => cases h
      | some b => cases dt <;> cases h
    | _ => cases od <;> cases dt <;> cases h
theorem forms_yes {K : PySem.W.Frag} (h : formsB K = true) {z : Str} {ks : List Str} (hz : forms.lookup z = some ks) : ∃ a, PySem.W.nsIn K (He.ga K "FORMS") z = some (some (.ref a)) ∧ ∀ H, SqT K H a (ks.map V.str) := by
  have h1 := (List.all_eq_true.mp h) (z, ks) (mem_of_lookup hz)
  dsimp only at h1
  split at h1
  · rename_i a ha
    split at h1
    · rename_i c od its m osl hl
      obtain ⟨h2, h3⟩ := He.ba h1
      obtain ⟨h4, h5⟩ := He.ba h3
      exact ⟨a, ha, fun H => .inr ⟨_, its, m, hl, congrArg Value.type (of_decide_eq_true h2), rfl, of_decide_eq_true h4, He.relAll_ok h5⟩⟩
    · cases h1
  · cases h1
theorem plain_ok {K : PySem.W.Frag} (h : plainB K = true) : ∃ o, K.lookup (He.ga K "SIGNALS") = some o ∧ o.cls = .type "tuple" ∧ o.dict = none := by
  unfold plainB at h
  split at h
  · rename_i c dt osl hl
    exact ⟨_, hl, congrArg Value.type (of_decide_eq_true h), rfl⟩
  · cases h
theorem facts {l : PySem.W.OpenLaw} {w : World} {K : PySem.W.Frag} {h : Heap} {mg : Str → Option Value} {fl : Addr} (X : K.In h) (G : h.Ns mainGlobals mg) (hfl : mg "law" = some (.ref fl)) (c : He.SaysX fa fn ts [] ex w h K) :
    ∃ fd : FuncData, (∀ (s : Shared) (v : Value), BindsTo s fd ⟨[v], []⟩ [("_law_script", v)]) ∧ ∀ base : Heap, K.In base → base.Ns mainGlobals mg → (∃ mm, base.Ns sysModules mm) → FnG l.prog w K mg base CX0 9 fl fd ["_law_script"] (spLaw K) := by
  obtain ⟨es, nF, kd⟩ := c.t.tab 0 (t := (fun K => He.ga K "FORMS", forms.map (·.1))) rfl
  obtain ⟨tL, gL⟩ := He.int_ok X G (c.t.d.fact 17 (f := .int "LONGEST_TITLE" 8) rfl)
  have hdw : He.dicW K (He.ga K "FORMS") = some (He.keysIn w.params (forms.map (·.1))) := by
    have e : ts.map (fun t => He.dicW K (t.1 K)) = ts.map fun t => some (He.keysIn w.params t.2) := congrArg (fun z : He.AlT => z.2) c.t
    exact (List.cons.inj e).1
  obtain ⟨hx1, hx2⟩ := He.ba c.more
  obtain ⟨hb0, hx1⟩ := He.ba hx1
  obtain ⟨hb1, hb2⟩ := He.ba hb0
  obtain ⟨hb3, hb4⟩ := He.ba hb2
  obtain ⟨hb4, hb5⟩ := He.ba hb4
  obtain ⟨hb6, hb7⟩ := He.ba hb5
  obtain ⟨hx3, hx4⟩ := He.ba hx2
  obtain ⟨hx5, hx6⟩ := He.ba hx4
  have T : Bi K w mg tL es nF := {
    n_isinstance := He.free_ok X G (c.t.d.fact 0 (f := .free "isinstance") rfl)
    n_int := He.free_ok X G (c.t.d.fact 1 (f := .free "int") rfl)
    n_bool := He.free_ok X G (c.t.d.fact 2 (f := .free "bool") rfl)
    n_str := He.free_ok X G (c.t.d.fact 3 (f := .free "str") rfl)
    n_tuple := He.free_ok X G (c.t.d.fact 4 (f := .free "tuple") rfl)
    n_list := He.free_ok X G (c.t.d.fact 5 (f := .free "list") rfl)
    n_len := He.free_ok X G (c.t.d.fact 6 (f := .free "len") rfl)
    n_all := He.free_ok X G (c.t.d.fact 7 (f := .free "all") rfl)
    n_zip := He.free_ok X G (c.t.d.fact 8 (f := .free "zip") rfl)
    n_enumerate := He.free_ok X G (c.t.d.fact 9 (f := .free "enumerate") rfl)
    n_range := He.free_ok X G (c.t.d.fact 10 (f := .free "range") rfl)
    n_sorted := He.free_ok X G (c.t.d.fact 11 (f := .free "sorted") rfl)
    n_set := He.free_ok X G (c.t.d.fact 12 (f := .free "set") rfl)
    n_repr := He.free_ok X G (c.t.d.fact 13 (f := .free "repr") rfl)
    g_SIGNALS := He.glo_ok X G (c.t.d.fact 14 (f := .glo "SIGNALS") rfl)
    g_SURE := He.glo_ok X G (c.t.d.fact 15 (f := .glo "SURE") rfl)
    g_FORMS := He.glo_ok X G (c.t.d.fact 16 (f := .glo "FORMS") rfl)
    g_LONGEST_TITLE := gL
    sig := fun H => He.tupB_ok hx1 H
    sigK := plain_ok hx6
    sur := fun H => He.tupB_ok hx3 H
    kd := kd
    fno := fun z hz => nsIn_free hdw (fun q => by
      obtain ⟨⟨z', ks⟩, hm, e⟩ := List.mem_map.mp q
      have e : z' = z := e
      subst e
      have hs : ∀ q ∈ forms, (forms.lookup q.1).isSome = true := by decide +kernel
      have := hs _ hm
      rw [hz] at this
      cases this)
    fyes := fun z ks hz => forms_yes hx5 hz }
  have hlaw := hfl.symm.trans (He.glo_ok X G (c.t.d.fact 37 (f := .glo "law") rfl))
  cases hlaw
  obtain ⟨fd_law, F_law⟩ := c.t.d.def_ 19 (d := mkD "law" 40) rfl
  refine ⟨fd_law, fun s v => FunD.bindsA (ps := ["_law_script"]) F_law (fun _ _ _ _ _ _ us hl => match us, hl with | [_], _ => rfl) s [v] rfl, fun base _ _ mods => ?_⟩
  have B : Kb K mg := ⟨He.glo_ok X G (c.t.d.fact 38 (f := .glo "KinError") rfl), baseB_ok hb1⟩
  obtain ⟨fd_NoTitle, F_NoTitle⟩ := c.t.d.def_ 20 (d := mkI "NoTitle" "NoTitle.__init__" 22) rfl
  have h_NoTitle := He.meth_ok (c.t.d.fact 50 (f := .meth "NoTitle" "__init__") rfl)
  have k_NoTitle : Mk l.prog w K mg base (cl K 0) ["self", "title"] (spIni1 K (cl K 0) (fld 0)) := ⟨_, fd_NoTitle, h_NoTitle.at_, eq_of_beq h_NoTitle.fn, ok_NoTitle F_NoTitle B, FunD.bindsN (ps := ["self", "title"]) F_NoTitle (fun _ _ _ _ _ _ us hl => match us, hl with | [_, _], _ => rfl)⟩
  obtain ⟨fd_NoOne, F_NoOne⟩ := c.t.d.def_ 21 (d := mkI "NoOne" "NoOne.__init__" 23) rfl
  have h_NoOne := He.meth_ok (c.t.d.fact 51 (f := .meth "NoOne" "__init__") rfl)
  have k_NoOne : Mk l.prog w K mg base (cl K 1) ["self", "name"] (spIni1 K (cl K 1) (fld 1)) := ⟨_, fd_NoOne, h_NoOne.at_, eq_of_beq h_NoOne.fn, ok_NoOne F_NoOne B, FunD.bindsN (ps := ["self", "name"]) F_NoOne (fun _ _ _ _ _ _ us hl => match us, hl with | [_, _], _ => rfl)⟩
  obtain ⟨fd_NoSession, F_NoSession⟩ := c.t.d.def_ 22 (d := mkI "NoSession" "NoSession.__init__" 24) rfl
  have h_NoSession := He.meth_ok (c.t.d.fact 52 (f := .meth "NoSession" "__init__") rfl)
  have k_NoSession : Mk l.prog w K mg base (cl K 2) ["self", "name"] (spIni1 K (cl K 2) (fld 2)) := ⟨_, fd_NoSession, h_NoSession.at_, eq_of_beq h_NoSession.fn, ok_NoSession F_NoSession B, FunD.bindsN (ps := ["self", "name"]) F_NoSession (fun _ _ _ _ _ _ us hl => match us, hl with | [_, _], _ => rfl)⟩
  obtain ⟨fd_NoText, F_NoText⟩ := c.t.d.def_ 23 (d := mkI "NoText" "NoText.__init__" 25) rfl
  have h_NoText := He.meth_ok (c.t.d.fact 53 (f := .meth "NoText" "__init__") rfl)
  have k_NoText : Mk l.prog w K mg base (cl K 3) ["self", "row"] (spIni1 K (cl K 3) (fld 3)) := ⟨_, fd_NoText, h_NoText.at_, eq_of_beq h_NoText.fn, ok_NoText F_NoText B, FunD.bindsN (ps := ["self", "row"]) F_NoText (fun _ _ _ _ _ _ us hl => match us, hl with | [_, _], _ => rfl)⟩
  obtain ⟨fd_NoBook, F_NoBook⟩ := c.t.d.def_ 24 (d := mkI "NoBook" "NoBook.__init__" 26) rfl
  have h_NoBook := He.meth_ok (c.t.d.fact 54 (f := .meth "NoBook" "__init__") rfl)
  have k_NoBook : Mk l.prog w K mg base (cl K 4) ["self"] (spIni0 K (cl K 4)) := ⟨_, fd_NoBook, h_NoBook.at_, eq_of_beq h_NoBook.fn, ok_NoBook F_NoBook B, FunD.bindsN (ps := ["self"]) F_NoBook (fun _ _ _ _ _ _ us hl => match us, hl with | [_], _ => rfl)⟩
  obtain ⟨fd_NoTyped, F_NoTyped⟩ := c.t.d.def_ 25 (d := mkI "NoTyped" "NoTyped.__init__" 27) rfl
  have h_NoTyped := He.meth_ok (c.t.d.fact 55 (f := .meth "NoTyped" "__init__") rfl)
  have k_NoTyped : Mk l.prog w K mg base (cl K 5) ["self"] (spIni0 K (cl K 5)) := ⟨_, fd_NoTyped, h_NoTyped.at_, eq_of_beq h_NoTyped.fn, ok_NoTyped F_NoTyped B, FunD.bindsN (ps := ["self"]) F_NoTyped (fun _ _ _ _ _ _ us hl => match us, hl with | [_], _ => rfl)⟩
  obtain ⟨fd_NoEntry, F_NoEntry⟩ := c.t.d.def_ 26 (d := mkI "NoEntry" "NoEntry.__init__" 28) rfl
  have h_NoEntry := He.meth_ok (c.t.d.fact 56 (f := .meth "NoEntry" "__init__") rfl)
  have k_NoEntry : Mk l.prog w K mg base (cl K 6) ["self"] (spIni0 K (cl K 6)) := ⟨_, fd_NoEntry, h_NoEntry.at_, eq_of_beq h_NoEntry.fn, ok_NoEntry F_NoEntry B, FunD.bindsN (ps := ["self"]) F_NoEntry (fun _ _ _ _ _ _ us hl => match us, hl with | [_], _ => rfl)⟩
  obtain ⟨fd_NoScript, F_NoScript⟩ := c.t.d.def_ 27 (d := mkI "NoScript" "NoScript.__init__" 29) rfl
  have h_NoScript := He.meth_ok (c.t.d.fact 57 (f := .meth "NoScript" "__init__") rfl)
  have k_NoScript : Mk l.prog w K mg base (cl K 7) ["self"] (spIni0 K (cl K 7)) := ⟨_, fd_NoScript, h_NoScript.at_, eq_of_beq h_NoScript.fn, ok_NoScript F_NoScript B, FunD.bindsN (ps := ["self"]) F_NoScript (fun _ _ _ _ _ _ us hl => match us, hl with | [_], _ => rfl)⟩
  obtain ⟨fd_TooMany, F_TooMany⟩ := c.t.d.def_ 28 (d := mkI "TooMany" "TooMany.__init__" 30) rfl
  have h_TooMany := He.meth_ok (c.t.d.fact 58 (f := .meth "TooMany" "__init__") rfl)
  have k_TooMany : Mk l.prog w K mg base (cl K 8) ["self"] (spIni0 K (cl K 8)) := ⟨_, fd_TooMany, h_TooMany.at_, eq_of_beq h_TooMany.fn, ok_TooMany F_TooMany B, FunD.bindsN (ps := ["self"]) F_TooMany (fun _ _ _ _ _ _ us hl => match us, hl with | [_], _ => rfl)⟩
  obtain ⟨fd_NoLine, F_NoLine⟩ := c.t.d.def_ 29 (d := mkI "NoLine" "NoLine.__init__" 31) rfl
  have h_NoLine := He.meth_ok (c.t.d.fact 59 (f := .meth "NoLine" "__init__") rfl)
  have k_NoLine : Mk l.prog w K mg base (cl K 9) ["self"] (spIni0 K (cl K 9)) := ⟨_, fd_NoLine, h_NoLine.at_, eq_of_beq h_NoLine.fn, ok_NoLine F_NoLine B, FunD.bindsN (ps := ["self"]) F_NoLine (fun _ _ _ _ _ _ us hl => match us, hl with | [_], _ => rfl)⟩
  obtain ⟨fd_NoHouse, F_NoHouse⟩ := c.t.d.def_ 30 (d := mkI "NoHouse" "NoHouse.__init__" 32) rfl
  have h_NoHouse := He.meth_ok (c.t.d.fact 60 (f := .meth "NoHouse" "__init__") rfl)
  have k_NoHouse : Mk l.prog w K mg base (cl K 10) ["self"] (spIni0 K (cl K 10)) := ⟨_, fd_NoHouse, h_NoHouse.at_, eq_of_beq h_NoHouse.fn, ok_NoHouse F_NoHouse B, FunD.bindsN (ps := ["self"]) F_NoHouse (fun _ _ _ _ _ _ us hl => match us, hl with | [_], _ => rfl)⟩
  have S : Es l.prog w K mg base := {
    em := {
      g := fun i hi => match i, hi with
        | 0, _ => He.glo_ok X G (c.t.d.fact 39 (f := .glo "NoTitle") rfl)
        | 1, _ => He.glo_ok X G (c.t.d.fact 40 (f := .glo "NoOne") rfl)
        | 2, _ => He.glo_ok X G (c.t.d.fact 41 (f := .glo "NoSession") rfl)
        | 3, _ => He.glo_ok X G (c.t.d.fact 42 (f := .glo "NoText") rfl)
        | 4, _ => He.glo_ok X G (c.t.d.fact 43 (f := .glo "NoBook") rfl)
        | 5, _ => He.glo_ok X G (c.t.d.fact 44 (f := .glo "NoTyped") rfl)
        | 6, _ => He.glo_ok X G (c.t.d.fact 45 (f := .glo "NoEntry") rfl)
        | 7, _ => He.glo_ok X G (c.t.d.fact 46 (f := .glo "NoScript") rfl)
        | 8, _ => He.glo_ok X G (c.t.d.fact 47 (f := .glo "TooMany") rfl)
        | 9, _ => He.glo_ok X G (c.t.d.fact 48 (f := .glo "NoLine") rfl)
        | 10, _ => He.glo_ok X G (c.t.d.fact 49 (f := .glo "NoHouse") rfl)
      oex := fun i hi => oexB_ok (He.ba (List.all_eq_true.mp hb3 i (List.mem_range.mpr hi))).1
      exc := fun i hi => (excB_ok (He.ba (List.all_eq_true.mp hb3 i (List.mem_range.mpr hi))).2).2
      kit := fun i j hi hj => of_decide_eq_true (List.all_eq_true.mp (List.all_eq_true.mp hb4 i (List.mem_range.mpr hi)) j (List.mem_range.mpr hj)) }
    xf := fun i hi => (excB_ok (He.ba (List.all_eq_true.mp hb3 i (List.mem_range.mpr hi))).2).1
    no := fun i hi => match i, hi with
      | 0, _ => He.eqO_ok (List.all_eq_true.mp hb7 (0, "title") (by simp))
      | 1, _ => He.eqO_ok (List.all_eq_true.mp hb7 (1, "name") (by simp))
      | 2, _ => He.eqO_ok (List.all_eq_true.mp hb7 (2, "name") (by simp))
      | 3, _ => He.eqO_ok (List.all_eq_true.mp hb7 (3, "row") (by simp))
    one := fun i hi => match i, hi with
      | 0, _ => k_NoTitle
      | 1, _ => k_NoOne
      | 2, _ => k_NoSession
      | 3, _ => k_NoText
    zer := fun i h4 hi => match i, h4, hi with
      | 4, _, _ => k_NoBook
      | 5, _, _ => k_NoTyped
      | 6, _, _ => k_NoEntry
      | 7, _, _ => k_NoScript
      | 8, _, _ => k_TooMany
      | 9, _, _ => k_NoLine
      | 10, _, _ => k_NoHouse
    gk := B.g
    gv := He.free_ok X G (c.t.d.fact 61 (f := .free "ValueError") rfl)
    kk := fun i hi => of_decide_eq_true (He.ba (List.all_eq_true.mp hb6 i (List.mem_range.mpr hi))).1
    kv := fun i hi => of_decide_eq_true (He.ba (List.all_eq_true.mp hb6 i (List.mem_range.mpr hi))).2 }
  obtain ⟨fd_is_whole, F_is_whole⟩ := c.t.d.def_ 0 (d := mkD "is_whole" 1) rfl
  have m_is_whole := He.glo_ok X G (c.t.d.fact 18 (f := .glo "is_whole") rfl)
  have c_is_whole : Cal l.prog w K mg base "is_whole" ["thing"] 1 (spD K pWhole) := ⟨_, _, ok_is_whole F_is_whole T, m_is_whole, F_is_whole.kp, FunD.bindsN (ps := ["thing"]) F_is_whole (fun _ _ _ _ _ _ us hl => match us, hl with | [_], _ => rfl)⟩
  obtain ⟨fd_is_one_of, F_is_one_of⟩ := c.t.d.def_ 3 (d := mkD "is_one_of" 4) rfl
  have m_is_one_of := He.glo_ok X G (c.t.d.fact 21 (f := .glo "is_one_of") rfl)
  have c_is_one_of : Cal l.prog w K mg base "is_one_of" ["thing", "words"] 1 (spOne K) := ⟨_, _, ok_is_one_of F_is_one_of T, m_is_one_of, F_is_one_of.kp, FunD.bindsN (ps := ["thing", "words"]) F_is_one_of (fun _ _ _ _ _ _ us hl => match us, hl with | [_, _], _ => rfl)⟩
  obtain ⟨fd_is_title, F_is_title⟩ := c.t.d.def_ 7 (d := mkD "is_title" 14) rfl
  have m_is_title := He.glo_ok X G (c.t.d.fact 25 (f := .glo "is_title") rfl)
  have c_is_title : Cal l.prog w K mg base "is_title" ["thing"] 1 (spDL K pTitle) := ⟨_, _, ok_is_title F_is_title T, m_is_title, F_is_title.kp, FunD.bindsN (ps := ["thing"]) F_is_title (fun _ _ _ _ _ _ us hl => match us, hl with | [_], _ => rfl)⟩
  obtain ⟨fd__law_hand, F__law_hand⟩ := c.t.d.def_ 13 (d := mkD "_law_hand" 34) rfl
  have m__law_hand := He.glo_ok X G (c.t.d.fact 31 (f := .glo "_law_hand") rfl)
  have c__law_hand : Cal l.prog w K mg base "_law_hand" ["_law_script"] 1 (spHand K) := ⟨_, _, ok__law_hand F__law_hand T, m__law_hand, F__law_hand.kp, FunD.bindsN (ps := ["_law_script"]) F__law_hand (fun _ _ _ _ _ _ us hl => match us, hl with | [_], _ => rfl)⟩
  obtain ⟨fd__law_pick, F__law_pick⟩ := c.t.d.def_ 14 (d := mkD "_law_pick" 35) rfl
  have m__law_pick := He.glo_ok X G (c.t.d.fact 32 (f := .glo "_law_pick") rfl)
  have c__law_pick : Cal l.prog w K mg base "_law_pick" ["_law_hand_here", "_law_many"] 1 spPick := ⟨_, _, ok__law_pick F__law_pick T, m__law_pick, F__law_pick.kp, FunD.bindsN (ps := ["_law_hand_here", "_law_many"]) F__law_pick (fun _ _ _ _ _ _ us hl => match us, hl with | [_, _], _ => rfl)⟩
  obtain ⟨fd__law_marks, F__law_marks⟩ := c.t.d.def_ 16 (d := mkD "_law_marks" 37) rfl
  have m__law_marks := He.glo_ok X G (c.t.d.fact 34 (f := .glo "_law_marks") rfl)
  have c__law_marks : Cal l.prog w K mg base "_law_marks" ["_law_one"] 1 (spMarks K) := ⟨_, _, ok__law_marks F__law_marks T S.em, m__law_marks, F__law_marks.kp, FunD.bindsN (ps := ["_law_one"]) F__law_marks (fun _ _ _ _ _ _ us hl => match us, hl with | [_], _ => rfl)⟩
  obtain ⟨fd_is_natural, F_is_natural⟩ := c.t.d.def_ 1 (d := mkD "is_natural" 2) rfl
  have m_is_natural := He.glo_ok X G (c.t.d.fact 19 (f := .glo "is_natural") rfl)
  have c_is_natural : Cal l.prog w K mg base "is_natural" ["thing"] 2 (spD K pNat) := ⟨_, _, ok_is_natural F_is_natural T c_is_whole, m_is_natural, F_is_natural.kp, FunD.bindsN (ps := ["thing"]) F_is_natural (fun _ _ _ _ _ _ us hl => match us, hl with | [_], _ => rfl)⟩
  obtain ⟨fd_is_small, F_is_small⟩ := c.t.d.def_ 2 (d := mkD "is_small" 3) rfl
  have m_is_small := He.glo_ok X G (c.t.d.fact 20 (f := .glo "is_small") rfl)
  have c_is_small : Cal l.prog w K mg base "is_small" ["thing"] 2 (spD K pSmall) := ⟨_, _, ok_is_small F_is_small T c_is_whole, m_is_small, F_is_small.kp, FunD.bindsN (ps := ["thing"]) F_is_small (fun _ _ _ _ _ _ us hl => match us, hl with | [_], _ => rfl)⟩
  obtain ⟨fd_is_signal, F_is_signal⟩ := c.t.d.def_ 4 (d := mkD "is_signal" 8) rfl
  have m_is_signal := He.glo_ok X G (c.t.d.fact 22 (f := .glo "is_signal") rfl)
  have c_is_signal : Cal l.prog w K mg base "is_signal" ["thing"] 2 (spD K fun d => pOne d sig9) := ⟨_, _, ok_is_signal F_is_signal T c_is_one_of, m_is_signal, F_is_signal.kp, FunD.bindsN (ps := ["thing"]) F_is_signal (fun _ _ _ _ _ _ us hl => match us, hl with | [_], _ => rfl)⟩
  obtain ⟨fd__law_of, F__law_of⟩ := c.t.d.def_ 15 (d := mkD "_law_of" 36) rfl
  have m__law_of := He.glo_ok X G (c.t.d.fact 33 (f := .glo "_law_of") rfl)
  have c__law_of : Cal l.prog w K mg base "_law_of" ["_law_hand_here", "_law_some"] 2 (spOf K) := ⟨_, _, ok__law_of F__law_of T c__law_pick, m__law_of, F__law_of.kp, FunD.bindsN (ps := ["_law_hand_here", "_law_some"]) F__law_of (fun _ _ _ _ _ _ us hl => match us, hl with | [_, _], _ => rfl)⟩
  obtain ⟨fd_is_loose, F_is_loose⟩ := c.t.d.def_ 5 (d := mkD "is_loose" 9) rfl
  have m_is_loose := He.glo_ok X G (c.t.d.fact 23 (f := .glo "is_loose") rfl)
  have c_is_loose : Cal l.prog w K mg base "is_loose" ["thing"] 3 (spD K pLoose) := ⟨_, _, ok_is_loose F_is_loose T c_is_signal, m_is_loose, F_is_loose.kp, FunD.bindsN (ps := ["thing"]) F_is_loose (fun _ _ _ _ _ _ us hl => match us, hl with | [_], _ => rfl)⟩
  obtain ⟨fd_is_row_number, F_is_row_number⟩ := c.t.d.def_ 8 (d := mkD "is_row_number" 15) rfl
  have m_is_row_number := He.glo_ok X G (c.t.d.fact 26 (f := .glo "is_row_number") rfl)
  have c_is_row_number : Cal l.prog w K mg base "is_row_number" ["thing", "size"] 3 (spDI K pRowNo) := ⟨_, _, ok_is_row_number F_is_row_number T c_is_natural, m_is_row_number, F_is_row_number.kp, FunD.bindsN (ps := ["thing", "size"]) F_is_row_number (fun _ _ _ _ _ _ us hl => match us, hl with | [_, _], _ => rfl)⟩
  obtain ⟨fd_is_child_part, F_is_child_part⟩ := c.t.d.def_ 10 (d := mkD "is_child_part" 17) rfl
  have m_is_child_part := He.glo_ok X G (c.t.d.fact 28 (f := .glo "is_child_part") rfl)
  have c_is_child_part : Cal l.prog w K mg base "is_child_part" ["kind", "part"] 3 (spChild K) := ⟨_, _, ok_is_child_part F_is_child_part T c_is_natural c_is_one_of, m_is_child_part, F_is_child_part.kp, FunD.bindsN (ps := ["kind", "part"]) F_is_child_part (fun _ _ _ _ _ _ us hl => match us, hl with | [_, _], _ => rfl)⟩
  obtain ⟨fd__law_refusals_right, F__law_refusals_right⟩ := c.t.d.def_ 17 (d := mkD "_law_refusals_right" 38) rfl
  have m__law_refusals_right := He.glo_ok X G (c.t.d.fact 35 (f := .glo "_law_refusals_right") rfl)
  have c__law_refusals_right : CalG l.prog w K mg base "_law_refusals_right" ["_law_hand_here"] 3 (spRef K) := ⟨_, _, ok__law_refusals_right F__law_refusals_right T S mods c__law_pick c__law_of c__law_marks, m__law_refusals_right, F__law_refusals_right.kp, FunD.bindsN (ps := ["_law_hand_here"]) F__law_refusals_right (fun _ _ _ _ _ _ us hl => match us, hl with | [_], _ => rfl)⟩
  obtain ⟨fd_are_loose, F_are_loose⟩ := c.t.d.def_ 6 (d := mkD "are_loose" 10) rfl
  have m_are_loose := He.glo_ok X G (c.t.d.fact 24 (f := .glo "are_loose") rfl)
  have c_are_loose : Cal l.prog w K mg base "are_loose" ["thing"] 4 (spD K pAre) := ⟨_, _, ok_are_loose F_are_loose T c_is_loose, m_are_loose, F_are_loose.kp, FunD.bindsN (ps := ["thing"]) F_are_loose (fun _ _ _ _ _ _ us hl => match us, hl with | [_], _ => rfl)⟩
  obtain ⟨fd_is_handler, F_is_handler⟩ := c.t.d.def_ 9 (d := mkD "is_handler" 16) rfl
  have m_is_handler := He.glo_ok X G (c.t.d.fact 27 (f := .glo "is_handler") rfl)
  have c_is_handler : Cal l.prog w K mg base "is_handler" ["thing", "size"] 5 (spDI K pHandler) := ⟨_, _, ok_is_handler F_is_handler T c_is_row_number c_are_loose, m_is_handler, F_is_handler.kp, FunD.bindsN (ps := ["thing", "size"]) F_is_handler (fun _ _ _ _ _ _ us hl => match us, hl with | [_, _], _ => rfl)⟩
  obtain ⟨fd_is_part, F_is_part⟩ := c.t.d.def_ 11 (d := mkD "is_part" 18) rfl
  have m_is_part := He.glo_ok X G (c.t.d.fact 29 (f := .glo "is_part") rfl)
  have c_is_part : Cal l.prog w K mg base "is_part" ["kind", "part", "size"] 6 (spPart K) := ⟨_, _, ok_is_part F_is_part T c_is_title c_is_small c_is_whole c_is_row_number c_is_signal c_is_loose c_are_loose c_is_one_of c_is_handler c_is_child_part, m_is_part, F_is_part.kp, FunD.bindsN (ps := ["kind", "part", "size"]) F_is_part (fun _ _ _ _ _ _ us hl => match us, hl with | [_, _, _], _ => rfl)⟩
  obtain ⟨fd_is_row, F_is_row⟩ := c.t.d.def_ 12 (d := mkD "is_row" 19) rfl
  have m_is_row := He.glo_ok X G (c.t.d.fact 30 (f := .glo "is_row") rfl)
  have c_is_row : Cal l.prog w K mg base "is_row" ["thing", "size"] 7 (spRow K pRow) := ⟨_, _, ok_is_row F_is_row T c_is_part, m_is_row, F_is_row.kp, FunD.bindsN (ps := ["thing", "size"]) F_is_row (fun _ _ _ _ _ _ us hl => match us, hl with | [_, _], _ => rfl)⟩
  obtain ⟨fd__law_is, F__law_is⟩ := c.t.d.def_ 18 (d := mkD "_law_is" 39) rfl
  have m__law_is := He.glo_ok X G (c.t.d.fact 36 (f := .glo "_law_is") rfl)
  have c__law_is : Cal l.prog w K mg base "_law_is" ["_law_row", "_law_want"] 8 (spIs K) := ⟨_, _, ok__law_is F__law_is T c_is_row, m__law_is, F__law_is.kp, FunD.bindsN (ps := ["_law_row", "_law_want"]) F__law_is (fun _ _ _ _ _ _ us hl => match us, hl with | [_, _], _ => rfl)⟩
  exact ok_law F_law T mods c__law_hand c__law_of c__law_refusals_right c__law_is
end Kin
open PySem PySem.W PySem.Calls PyProof.Rows
set_option maxRecDepth 100000 in
set_option maxHeartbeats 0 in
theorem PySem.Challenge.cw_kinsignals_k06_signals_and_refusals_holds : PySem.Challenge.rw_kinsignals_k06_signals_and_refusals.Holds := by
  w_on; o_law
  refine HandSHeadRun.head_any (r := OpenLaw.row PySem.Challenge.rw_kinsignals_k06_signals_and_refusals) (q := view (OpenLaw.row PySem.Challenge.rw_kinsignals_k06_signals_and_refusals).prog [40]) (H := Kin.hk) (ob := Kin.ob) (M := 8000) (loose := Kin.loose) (d := HandSHeadRun.topDef (OpenLaw.row PySem.Challenge.rw_kinsignals_k06_signals_and_refusals).prog 40) (kwd := []) Kin.ob_eq
    (by kernel_rfl) (fun s => by kernel_rfl) Kin.run (by kernel_rfl) (by kernel_rfl) (by kernel_rfl) (by rfl) (by first | assumption | decide +kernel) (by decide +kernel) ⟨rfl, rfl, rfl, rfl, rfl, by decide +kernel⟩ ?hw ?hc
  case hw => w_witness2
  case hc =>
    refine Kin.walkG (l := PySem.Challenge.rw_kinsignals_k06_signals_and_refusals) (n := 63) (k := 9) (x := "_law_script") rfl (by decide) (by kernel_rfl) ⟨rfl, by decide, by decide⟩ ?F (by kernel_rfl)
    intro w mg fl h Y G hmg0
    obtain ⟨K, KX, c⟩ := Y
    have hmg : mg ("law" : PySem.Str) = some (.ref fl) := by
      have e : (HandSHeadRun.topDef (OpenLaw.row PySem.Challenge.rw_kinsignals_k06_signals_and_refusals).prog 40).name = ("law" : PySem.Str) := by kernel_rfl
      rw [← e]
      exact hmg0
    obtain ⟨fd, hb, hF⟩ := Kin.facts (l := PySem.Challenge.rw_kinsignals_k06_signals_and_refusals) (w := w) KX G hmg c
    exact ⟨K, fd, Kin.spLaw K, KX, hb, fun H a ns hl _ hS => ⟨a, ns, rfl, hS, hl, fun _ => rfl⟩, hF⟩
